import PyProof.Rows.All
import Wide.All
import OpenK.AllK
import Wide.FinOn
import Lean
import PyProof.EqAt
import PyProof.EqKinds
import PyProof.TupleCall
import PySem.Challenge.RW_daysheet_k61_whole_fitting
set_option Elab.async false
set_option linter.all false
set_option maxRecDepth 100000
set_option maxHeartbeats 4000000
open PySem renaming wpAny_bind->q8,PyData->j0,wpAny_pure->j3,starEach->j4,sizeLine->j5,mainGlobals->j6,wpAny_call_entry->j7,wpAny_newObj_type->j8,wpAny_callSpecial?_slot->j9,SetTable->k8,wpAny_Call_Name_kw->k9,wpAny_setField_rec->v0,cellsFrom->v6,rawInt->v7,backTo->v8,wpAny_seqItems->wu,codeAny_builtin->wv,compareOp->ww,swapsWith->wy,wpAny_holding->wz,foldedSetIterable->w5,keywordEach->w8,wpAny_field->w9,attributeBase->ya,bootBuiltins->yc,wpAny_rule->yd,plainId_quiet->ye,sysModules->yf,builtinLookup_eq_fast->yg,wpAny_mono->yi,behindInMarks->yj,FuncData->yk,wpAny_truthy_bool->ym,assignEach->yn,codeAny_mono->yo,pyNext->yq,sizeLine_eq->yt,wpAny_attempt->yu,wpAny_isInstance->yv,firstArgMember->yw,wpAny_passesOwn->yx,NameKind->yy,backToKw->yz,wpAny_typeOf->y0,IsPair->y6,codeAny->ua,boot_len->ub,pickOrder->ud,wpAny_askSetting->ue,binaryOp->uf,typeLookup_type->ug,seqItems?->uh,wpAny_pyIter_list->ui,isSubtype_type->uj,wpAny_letGo->uk,bindArgs->uo,wpAny_standAt->ur,wpAny_loadPart'->ut,wpAny_updateSeq->uu,wpAny_pyIter_tuple->uv,sliceBounds->uw,wpAny_of_eq->ux,eqIsQuiet_byValue->uy,wpAny_pyIter_enum->u1,wpAny_pyIter_slot->u2,wpAny_tryCatch->u3,builtinsNs->u5,scanBound->u6,wpAny_execs_cons->u7,codeAny_call_builtin->u8,wpAny_updateSeq_pair->u9,wpAny_execs_nil->QA,wpAny_specialOf->QB,setNext->QD,TriplesOk->QE,ReadsAll->QF,entryFor->QG,entryFor_alias->QH,isSubtype_stop->QI,newFunctionEnv->QJ,setEntries->QK,wpAny_call->QL,wpAny_evalAll_cons->QM,wpAny_tupleItemsOf->QN,wpAny_handled->QO,wpAny_onRaise->QP,codeAmong->QQ,noFill_tuple_add->QR,raiseNew->QS,wpAny_pyHash_int->QT,wpAny_pyHash_str->QU,IsPart->QV,argsOk->QW,concat_meets->QX,GenState->QY,numAt_eq->QZ,DictEntry->Qa,argBest->Qb,callerA->Qc,getItem->Qd,intKind->Qe,pushCells->Qf,standAt->Qg,tupleKind->Qh
open PyProof.Rows renaming seqObj->yh,IntsAre->ul,envOfC->um,listUpdate_at->uq,listItems_at->uz,subscriptTail_builtinR->u0,AllBare->QC
open Option.some renaming inj->qA
open PySem.W renaming Frag->qB,nsIn->jD,mg_none_of->jE,findIn->jL,fnOf->je,tabIn->jh,keepIn->jp,emptyDict->jx,codeHdIn->kQ,instObj->kY,codeIn->zN,plainGet->zn,kla_obj->zx,kla_fn->vM,hasDictIn->vO,cellsFrom_some->vk,isFn->vo,tabObj->wD,lookIn->wE,plainGet_of->wG,plainOver->wR,methodObj->wS
open PySem.Heap renaming get?_push_of_some->qC,get?_push_size->qJ,lt_size->qN,size_push->qv,get?_update_other->jk,get?_update_self->kJ,SameBut->kj,get?_none_of_le->vI
open List renaming getElem?_eq_getElem->qD,mem_cons_of_mem->qE,length_map->qF,getD_eq_getElem?_getD->qG,mem_singleton->qH,mem_cons->qI,map_cons->qK,mem_map->qO,size_toArray->qP,getElem?_map->qQ,getElem?_eq_some_iff->qR,map_map->qT,range->qV,length_cons->qW,mem_filter->qX,length_append->qY,map_append->qZ,getElem?_eq_none->qd,mem_cons_self->qf,mem_append->qg,mem_map_of_mem->qi,getElem?_set_ne->qj,all_eq_true->qm,mem_range->qo,not_mem_nil->qp,filter_cons_of_pos->qr,mem_append_right->qu,length_range->qx,append_assoc->qy,mem_append_left->jA,filter_cons_of_neg->jF,all_cons->jG,getElem?_append_left->jH,pairwise_map->jK,length_singleton->jO,getElem?_toArray->jP,getElem?_append_right->jQ,pairwise_cons->jV,getElem_mem->jZ,ext_getElem?->jb,append_nil->jt,length_take->ju,take_of_length_le->jv,pairwise_iff_getElem->jy,any_cons->jz,nodup_cons->kA,concat_eq_append->kB,mem_flatMap->kG,mem_iff_getElem->kI,nodup_append->kO,flatMap_cons->kP,lookup_cons->kR,sum_cons->kT,dropLast_concat->kX,getElem?_take_of_lt->kZ,getElem?_range->kq,drop_of_length_le->ku,sublist_flatten_of_mem->zA,nil_append->zB,foldl_cons->zC,eq_nil_or_concat->zD,getElem?_set->zI,perm_append_singleton->zK,getLast?_concat->zL,getElem?_of_mem->zM,map_congr_left->zQ,pairwise_singleton->zT,lookup->zZ,Nodup->zc,toArray->zi,map_nil->zj,length_filter_le->zm,mem_flatten->zp,length_drop->zq,pairwise_append->zr,toList_toArray->zy,length_nil->zz,forIn_cons->vA,find?_cons->vB,map_inj_right->vG,lookup_append->vH,take_sublist->vT,idxOf_lt_length_iff->vU,getD->vV,pairwise_mergeSort->vX,length_eq_zero_iff->vY,length->vZ,getElem?_replicate->va,getElem_inj->vg,any_eq_true->vh,getElem?_set_self->vm,take_succ->wF,mergeSort_perm->wH,length_reverse->wI,filterMap_cons->wJ,getElem?_drop->wN,flatten_cons->wT,eraseIdx_eq_take_drop_succ->wU,any_eq_false->wV,sum_nil->wZ,eq_nil_iff_forall_not_mem->wc,map_flatMap->wo,getElem_map->wp,ext_getElem->wq
open Bool renaming and_eq_true->qL,false_ne_true->qe,false_eq_true->kE,not_eq_true'->zJ,eq_iff_iff->zV,noConfusion->vi,or_eq_true->vz,or_false->wQ
open Nat renaming le_refl->qM,lt_of_lt_of_le->qa,ne_of_lt->qc,le_trans->qk,zero_le->qt,le_of_lt->jN,ne_of_gt->jS,lt_irrefl->ji,lt_succ_of_lt->jl,le_succ->kF,lt_succ_self->kt,not_lt_of_le->zo,lt_or_eq_of_le->vE,lt_of_le_of_lt->vF,lt_trichotomy->vS,le_add_right->ve,lt_trans->vq,add_assoc->wM,zero_add->wX,lt_or_ge->wY,not_lt_of_lt->wm
open Array renaming length_toList->qS,getElem?_eq_getElem->jR,getElem?_toList->jo,perm_iff_toList_perm->vD,forIn_toList->vK,getD->vW,any_toList->vj,toList->wj
open Option renaming map_eq_some_iff->qU
open PySem.SeqAt renaming shaped->qb,canLay_of_shaped->jj
open PySem.SetTable renaming below->qh,grown->zS
open PySem renaming mem_of_lookup->ql
open PySem.PyData renaming eqv->qw,eqvAll->jI,canLay0->jJ,strOk->jc,int->jg,depth->jr,canLayAll0->kr,list->ky,depthAll->zO,tuple->vd
open Int renaming toNat_natCast->qz,le_refl->jd,le_trans->km,le_of_lt->zF,emod_lt_of_pos->wO,not_lt->wW
open PySem.Str renaming ofString->jB
open PySem.Around renaming under_plainId->jC
open PySem.PassesOwn renaming never->jM
open Ne renaming symm->jT
open PySem.Value renaming ref->jU,none->jf,type->zH,bool->zt,int->wL
open PySem.Builtin.SmallTypes renaming nextOf->jW,ownedTupleIsFree->kW,ownedTupleHandOut->wf
open False renaming elim->jX
open Or renaming inr->jY,inl->kC
open PyProof.Rows renaming slot_tuple_getitem->ja,callWith_type1->jq
open PySem.Builtin.Tuple renaming tupleHashOf->jm,tupleExact->zX,tupleItemsOf->vc
open PySem.Builtin.List renaming listExtendWith->jw,listTooLong->vy
open List.Nodup renaming sublist->kD
open PySem.Obj renaming mapSeq->kK
open PySem.Heap.SameBut renaming update->kU
open PySem.F renaming plainAttrs_list->ko,plain_max_loop->zG,slot_tuple_iterator_next->zR,called_set->zW,slot_list_reversed->vJ,type_list_append->vP,slot_list_append->vQ,slot_tuple_hash->vv,slot_list_getattribute->vw,plain_list_iadd->vx,slot_zip_next->wP
open PySem.NameKind renaming free->kz,cell->wC
open List.Perm renaming append_left->zE,trans->vt
open Classical renaming byContradiction->zP
open PySem.Builtin.Slice renaming slicePlaces->zU,sliceAdjust->vn
open Sum renaming inr->zY
open PySem.SetTable.below renaming go->zu
open Sum.inr renaming inj->zw
open List.cons renaming injEq->vC
open PySem.Shared renaming TypeIs->vL
open True renaming intro->vN
open PySem.Challenge renaming rw_daysheet_k61_whole_fitting->vR
open PySem.Paired renaming length->wB
open PySem.Calls renaming callWith_builtin->wK
open PyProof.Rows.F renaming plain_set_update_loop->we
open PySem in
abbrev T0a:=Value->Shared->Prop
open PySem in
abbrev T0b:=List (Addr×Obj)
open PySem in
abbrev T0d:=Str->Option Value
open PySem in
abbrev T0e:=List (Option Nat)
open PySem in
abbrev T0f:=List (Str×Addr)
open PySem in
abbrev T0g:=List (Str×Value)
open PySem in
abbrev T0k:=Option Addr
open PySem in
abbrev T0l:=List j0
open PySem in
abbrev T0m:=List Value
open PySem in
abbrev T0n:=List Expr
open PySem in
abbrev T0o:=List Addr
open PySem in
abbrev T0q:=List Str
open PySem in
abbrev T0s:=List Int
open PySem in
abbrev T0t:=List Nat
variable {a it l C dx I z:PySem.Addr} {b e c tg iter value elt kx:PySem.Expr} {u doc pm cdv ct oc vu:PySem.Value} {P prog:PySem.Program} {w:PySem.World} {h' h1 base:PySem.Heap} {ob:PySem.Obj} {pq:List (PySem.Addr×PySem.Obj)} {s s':PySem.Shared} {t' i j k n ep k0 f0:Nat} {d':PySem.Drawn} {ch fp:List PySem.Addr} {N ps N':List PySem.Str} {M:PySem.Model} {A:PySem.Around} {E Q:PySem.Value->PySem.Shared->Prop} {pos pos' p tpos apos p2 cpos spos kp px ap cp p0 pos2 p3 xp:PySem.Pos} {op:PySem.CmpOp} {t led:Bool} {ys items:Array PySem.Value} {st:PySem.Stmt} {es ifs pj:List PySem.Expr} {body:List PySem.Stmt} {vs its us:List PySem.Value} {lo hi:Option PySem.Expr} {pl:List Nat} {g:List Bool} {mA mg:PySem.Str->Option PySem.Value} {name qual q:PySem.Str} {ns sizes:List Int} {kw:List (PySem.Str×PySem.Value)} {fd:yk} {ds ks nks:List j0} {scope:PySem.Scope} {params:PySem.Arguments} {an od:Option PySem.Addr} {T:String} {sl:Array (Option PySem.Value)} {d da db dc S D kd:j0} {dss:List (List j0)} {ab:Option Int}
namespace L2
open PySem PySem.Spec PyProof.Rows
abbrev Key:=Sum Int Str
def a1K:Key->Value->Bool
 | .inl k,v=>Value.isInt k v
 | .inr x,v=>Value.isStrOf x v
def c1p (w:World):Key->Int
 | .inl k=>hashInt k
 | .inr x=>hashStr w x
def cB:∀ {k:Key} {v:Value},a1K k v=true->(∃ i t,k=Sum.inl i/\v=wL i t)\/(∃ x t,k=zY x/\v=Value.str x t)
 | .inl i,v,h=>by
  obtain ⟨t,e⟩:=Value.isInt_shape (k:=i) (v:=v) h;exact .inl ⟨i,t,rfl,e⟩
 | .inr x,v,h=>by
  obtain ⟨t,e⟩:=Value.isStrOf_shape (x:=x) (v:=v) h;exact .inr ⟨x,t,rfl,e⟩
def a9T (i:Int) (t:Tok):a1K (.inl i) (.int i t)=true:=by simp [a1K,Value.isInt]
def a9S (x:Str) (t:Tok):a1K (.inr x) (.str x t)=true:=by simp [a1K,Value.isStrOf]
def b8c (a b:Int):decide ((Sum.inl a:Key)=Sum.inl b)=(a==b):=by
 by_cases e:a=b
 ·subst e;simp
 ·have h:¬(Sum.inl a:Key)=Sum.inl b:=λq=>e (Sum.inl.inj q)
  rw [decide_eq_false h];exact (beq_eq_false_iff_ne.mpr e).symm
def b7Z (a b:Str):decide ((zY a:Key)=zY b)=decide (a=b):=by
 by_cases e:a=b
 ·subst e;simp
 ·have h:¬(zY a:Key)=zY b:=λq=>e (zw q)
  rw [decide_eq_false h,decide_eq_false e]
def b8b (a:Int) (b:Str):decide ((Sum.inl a:Key)=zY b)=false:=decide_eq_false (λq=>nomatch q)
def b8a (a:Str) (b:Int):decide ((zY a:Key)=Sum.inl b)=false:=decide_eq_false (λq=>nomatch q)
def bK (prog:Program) (w:World):PySem.KeyKind prog w Key where
 is:=a1K
 hash:=c1p w
 inj:=λv a b ha hb=>by
  rcases cB ha with ⟨i,t,rfl,rfl⟩ | ⟨x,t,rfl,rfl⟩
  ·rcases cB hb with ⟨j,u,rfl,e⟩ | ⟨y,u,rfl,e⟩
   ·injection e with e1 _;rw [e1]
   ·exact nomatch e
  ·rcases cB hb with ⟨j,u,rfl,e⟩ | ⟨y,u,rfl,e⟩
   ·exact nomatch e
   ·injection e with e1 _;rw [e1]
 byValue:=λk v h=>by
  rcases cB h with ⟨i,t,rfl,rfl⟩ | ⟨x,t,rfl,rfl⟩<;>rfl
 pyHash:=λhv h=>by
  rcases cB hv with ⟨i,t,rfl,rfl⟩ | ⟨x,t,rfl,rfl⟩
  ·exact QT h
  ·exact QU h
 eqBool:=λhu hv h=>by
  rcases cB hu with ⟨i,t,rfl,rfl⟩ | ⟨x,t,rfl,rfl⟩
  ·rcases cB hv with ⟨j,u,rfl,rfl⟩ | ⟨y,u,rfl,rfl⟩
   ·rw [b8c] at h;exact wpAny_eqBool_int h
   ·rw [b8b] at h;exact SeqAt.EqAt.int_str i t y u _ _ _ _ h
  ·rcases cB hv with ⟨j,u,rfl,rfl⟩ | ⟨y,u,rfl,rfl⟩
   ·rw [b8a] at h;exact SeqAt.EqAt.str_int x t j u _ _ _ _ h
   ·rw [b7Z] at h;exact wpAny_eqBool_str h
 «strs»:=λk x t v h=>by
  rcases cB h with ⟨i,u,rfl,e⟩ | ⟨y,u,rfl,e⟩
  ·exact nomatch e
  ·injection e with e1 _
   subst e1;cases v<;>rfl
def a7p (prog:Program) (w:World) (k:Key) (v:Value):(bK prog w).is k v=a1K k v:=rfl
def a0r (prog:Program) (w:World) (i:Int) (t:Tok):(bK prog w).is (.inl i) (.int i t)=true:=a9T i t
def a0q (prog:Program) (w:World) (x:Str) (t:Tok):(bK prog w).is (.inr x) (.str x t)=true:=a9S x t
inductive V where
 | non | bl (b:Bool) | int (i:Int) | str (x:Str) | byt (b:Array UInt8) | flt (b:UInt64) | ref (a:Addr) | ty (n:String)
 deriving DecidableEq
def RelV:V->Value->Prop
 | .non,u=>u=jf
 | .bl b,u=>u=zt b
 | .int i,u=>∃ t,u=wL i t
 | .str x,u=>∃ t,u=Value.str x t
 | .byt b,u=>∃ t,u=Value.bytes b t
 | .flt b,u=>∃ t,u=Value.float b t
 | .ref a,u=>u=jU a
 | .ty n,u=>u=zH n
abbrev aU:List V->List Value->Prop:=Paired RelV
theorem aU.length {xs:List V} {us:T0m} (r:aU xs us):xs.length=us.length:=wB r
theorem aU.get:∀ {xs:List V} {us:T0m} {i:Nat} {x:V},aU xs us->xs[i]?=some x->∃ u,us[i]?=some u/\RelV x u
 | _,_,_,_,.nil,e=>by simp at e
 | _,_,0,_,.cons r _,e=>by simp at e;subst e;exact ⟨_,rfl,r⟩
 | _,_,i+1,x,.cons _ t,e=>by
  obtain ⟨u,h1,h2⟩:=aU.get (i:=i) (x:=x) t (by simpa using e);exact ⟨u,by simpa using h1,h2⟩
theorem aU.append:∀ {xs ys:List V} {us ws:T0m},aU xs us->aU ys ws->aU (xs++ys) (us++ws)
 | _,_,_,_,.nil,s=>s
 | _,_,_,_,.cons r t,s=>.cons r (aU.append t s)
theorem aU.take:∀ {xs:List V} {us:T0m} (n:Nat),aU xs us->aU (xs.take n) (us.take n)
 | _,_,0,_=>.nil
 | _,_,_+1,.nil=>.nil
 | _,_,n+1,.cons r t=>.cons r (aU.take n t)
theorem aU.drop:∀ {xs:List V} {us:T0m} (n:Nat),aU xs us->aU (xs.drop n) (us.drop n)
 | _,_,0,r=>r
 | _,_,_+1,.nil=>.nil
 | _,_,n+1,.cons _ t=>aU.drop n t
def a0k:Option V->Option Value->Prop
 | some v,some u=>RelV v u
 | none,none=>True
 | _,_=>False
def KV {κ:Type}:List (κ×V)->List (κ×Value)->Prop:=Paired λ(p:κ×V) (q:κ×Value)=>p.1=q.1/\RelV p.2 q.2
def kV:Key->V
 | .inl i=>.int i
 | .inr x=>.str x
inductive HO where
 | lst (xs:List V)
 | tup (xs:List V)
 | dK (kvs:List (Key×V)) | dT (kvs:List (List Key×V))
 | set (S:Int->Bool) (n:Nat)
 | ins (C dx:Addr) (fs:List (Str×V))
 | own (x:Addr)
 | xd (fs:List (Str×V))
 | met (f x:Addr)
 | rng (lo hi:Int)
 | frz (o:Obj) (u:HO)
 | tbl (ps:Str×Array Value)
 | ext (φ:Heap->Prop)
abbrev Hp:=Addr->Option HO
def upd (H:Hp) (a:Addr) (o:HO):Hp:=λb=>if b=a then some o else H b
variable {H:Hp} {o:HO}
def aH:upd H a o a=some o:=by unfold upd;rw [if_pos rfl]
variable {b:Addr}
def aE (h:b≠a):upd H a o b=H b:=by unfold upd;rw [if_neg h]
def a0K {u:HO}:upd (upd H a o) a u=upd H a u:=by
 funext b;unfold upd;split<;>rfl
def cO {u:HO} (h:H a=some o) (h':H b=some u) (d:o≠u):a≠b:=by
 intro e;subst e;rw [h] at h';exact d (qA h')
def aO (h:H a=some o) (h':H b=none):a≠b:=by
 intro e;subst e;rw [h] at h';cases h'
section
variable (P:Program) (w:World)
def cM (H:Hp) (h:Heap) (a:Addr):HO->Prop
 | .lst xs=>xs.length<=j5/\∃ (its:T0m) (n:Nat),aU xs its/\h.get? a=some { cls:=.type "list", data:=.seq its.toArray n }
 | .tup xs=>xs.length<=j5/\∃ its:List Value,aU xs its/\IsTup h a its.toArray
 | .dK kvs=>kvs.length<=j5/\(a==yf)=false/\∃ vs,KV kvs vs/\h.DictOf (bK P w) a vs
 | .dT kvs=>kvs.length<=j5/\(a==yf)=false/\∃ xs:List (List Key×Addr×Value),
   Paired (λ(p:List Key×V) (q:List Key×Addr×Value)=>p.1=q.1/\H q.2.1=some (.tup (p.1.map kV))/\RelV p.2 q.2.2) kvs xs /\
   ∃ o es ep,h.get? a=some o/\o.ExactDict/\o.data=.dict es ep/\es.toList=xs.map (entryOfKey (Qh (bK P w)))/\(xs.map (·.1)).Nodup
 | .set S n=>h.SetOf (Qe P w) a S n
 | .ins C dx fs=>H dx=some (.own a)/\fs.length<=1000/\dx≠a/\h.get? a=some (kY C dx) /\
   ∃ mA,h.Ns1 dx mA/\(∀ f,a0k (fs.lookup f) (mA f))/\PySem.Within mA (fs.map (·.1))
 | .own _=>∃ o,h.get? a=some o
 | .xd fs=>∃ mA,h.Ns1 a mA/\∀ f,a0k (fs.lookup f) (mA f)
 | .rng lo hi=>∃ t u v,h.get? a=some { cls:=.type "range", data:=.fields #[.int lo t,.int hi u,.int 1 v] }
 | .frz o u=>h.get? a=some o/\cM H h a u
 | .tbl ps=>h.get? a=some { cls:=.none,data:=.fields ps.2 }
 | .met f x=>h.get? a=some (wS (.ref f) (.ref x))
 | .ext φ=>φ h/\(∃ o,h.get? a=some o)/\∀ h1 h2:Heap,φ h1->(∀ o,h1.get? a=some o->h2.get? a=some o)->φ h2
def HOk (H:Hp) (h:Heap):Prop:=∀ a o,H a=some o->cM P w H h a o
end
variable {H':Hp}
section
variable {h:Heap}
theorem cM.lt (x:cM P w H h a o):a<h.objs.size:=by
 cases o with
 | lst xs=>obtain ⟨_,_,_,_,e⟩:=x;exact qN e
 | tup xs=>obtain ⟨_,_,_,p⟩:=x;exact p.lt
 | dK kvs=>obtain ⟨_,_,_,_,o,_,_,e,_⟩:=x;exact qN e
 | dT kvs=>obtain ⟨_,_,_,_,o,_,_,e,_⟩:=x;exact qN e
 | set S n=>obtain ⟨o,_,_,_,e,_⟩:=x;exact qN e
 | ins C dx fs=>obtain ⟨_,_,_,e,_⟩:=x;exact qN e
 | own y=>obtain ⟨_,e⟩:=x;exact qN e
 | xd fs=>obtain ⟨_,⟨_,_,_,e,_⟩,_⟩:=x;exact qN e
 | rng lo hi=>obtain ⟨_,_,_,e⟩:=x;exact qN e
 | frz ob u=>obtain ⟨e,_⟩:=x;exact qN e
 | tbl ps=>exact qN (show h.get? a=some _ from x)
 | met f y=>exact qN (show h.get? a=some _ from x)
 | ext φ=>obtain ⟨_,⟨_,e⟩,_⟩:=x;exact qN e
theorem Paired.mapP {α β:Type} {F G:α->β->Prop}:∀ {l₁:List α} {l₂:List β},Paired F l₁ l₂->(∀ a b,F a b->G a b)->Paired G l₁ l₂
 | _,_,.nil,_=>.nil
 | _,_,.cons r t,f=>.cons (f _ _ r) (Paired.mapP t f)
def cM.stay (x:cM P w H h a o) (k:∀ b u,(b=a\/H b=some (.own a))->h.get? b=some u->h'.get? b=some u)
  (ho:∀ b,H b=some (.own a)->H' b=some (.own a)) (ht:∀ b xs,H b=some (.tup xs)->H' b=some (.tup xs)):cM P w H' h' a o:=by
 induction o with
 | lst xs=>obtain ⟨z,its,n,r,e⟩:=x;exact ⟨z,its,n,r,k _ _ (.inl rfl) e⟩
 | tup xs=>obtain ⟨z,its,r,ob,e,c⟩:=x;exact ⟨z,its,r,ob,k _ _ (.inl rfl) e,c⟩
 | dK kvs=>obtain ⟨z,y,vs,r,ob,es,ep,e,c⟩:=x;exact ⟨z,y,vs,r,ob,es,ep,k _ _ (.inl rfl) e,c⟩
 | dT kvs=>
  obtain ⟨z,y,xs,r,ob,es,ep,e,c⟩:=x;exact ⟨z,y,xs,Paired.mapP r λp q z=>⟨z.1,ht _ _ z.2.1,z.2.2⟩,ob,es,ep,k _ _ (.inl rfl) e,c⟩
 | set S n=>obtain ⟨ob,es,ep,t,e,c⟩:=x;exact ⟨ob,es,ep,t,k _ _ (.inl rfl) e,c⟩
 | ins C dx fs=>
  obtain ⟨d,z,ne,e,mA,⟨od,es,ep,e2,c⟩,r⟩:=x;exact ⟨ho _ d,z,ne,k _ _ (.inl rfl) e,mA,⟨od,es,ep,k _ _ (.inr d) e2,c⟩,r⟩
 | own y=>obtain ⟨ob,e⟩:=x;exact ⟨ob,k _ _ (.inl rfl) e⟩
 | xd fs=>obtain ⟨mA,⟨od,es,ep,e,c⟩,r⟩:=x;exact ⟨mA,⟨od,es,ep,k _ _ (.inl rfl) e,c⟩,r⟩
 | rng lo hi=>obtain ⟨t,u,v,e⟩:=x;exact ⟨t,u,v,k _ _ (.inl rfl) e⟩
 | frz ob u ih=>obtain ⟨e,q⟩:=x;exact ⟨k _ _ (.inl rfl) e,ih q⟩
 | tbl ps=>
  have e:h.get? a=some { cls:=.none,data:=.fields ps.2 }:=x;show h'.get? a=some { cls:=.none,data:=.fields ps.2 };exact k a _ (.inl rfl) e
 | met f y=>
  have e:h.get? a=some (wS (.ref f) (.ref y)):=x;show h'.get? a=some (wS (.ref f) (.ref y));exact k a _ (.inl rfl) e
 | ext φ=>obtain ⟨p,⟨o,e⟩,st⟩:=x;exact ⟨st _ _ p λo q=>k _ _ (.inl rfl) q,⟨o,k _ _ (.inl rfl) e⟩,st⟩
theorem HOk.lt (x:HOk P w H h) (e:H a=some o):a<h.objs.size:=(x a o e).lt
def HOk.fresh (x:HOk P w H h) (e:h.objs.size<=a):H a=none:=by
 cases q:H a with
 | none=>rfl
 | some u=>exact absurd (qa (x.lt q) e) (ji _)
theorem HOk.kept (x:HOk P w H h) (k:∀ b u,h.get? b=some u->h'.get? b=some u):HOk P w H h':=λa o e=>
 (x a o e).stay (λb u _ q=>k b u q) (λ_ q=>q) λ_ _ q=>q
theorem HOk.laid (x:HOk P w H h) (k:∀ b u,h.get? b=some u->h'.get? b=some u) (hp:h.objs.size<=a) (new:cM P w (upd H a o) h' a o):HOk P w (upd H a o) h':=λb u e=>by
 have hn:=x.fresh hp;by_cases hb:b=a
 ·subst hb;rw [aH] at e;cases e;exact new
 ·rw [aE hb] at e
  exact (x b u e).stay (λc v _ q=>k c v q) (λc q=>by rw [aE (aO q hn)];exact q) λc xs q=>by rw [aE (aO q hn)];exact q
end
def Rd (H:Hp) (a:Addr) (u:HO):Prop:=H a=some u\/∃ o,H a=some (.frz o u)
theorem Rd.ok {h:Heap} {u:HO} (r:Rd H a u) (x:HOk P w H h):cM P w H h a u:=by
 rcases r with r | ⟨o,r⟩
 ·exact x a u r
 ·obtain ⟨_,q⟩:=x a _ r
  exact q
def Mut:Option HO->Prop
 | some (.lst _)=>True
 | some (.dK _)=>True
 | some (.dT _)=>True
 | some (.set _ _)=>True
 | some (.ins _ _ _)=>True
 | some (.ext _)=>True
 | _=>False
section
variable {h:Heap} {x e:Addr} {o':HO}
def HOk.write (ok:HOk P w H h) (mu:Mut (H x)) (he:e=x\/H e=some (.own x)) (k:∀ b u,b≠e->h.get? b=some u->h'.get? b=some u) (heo:∃ u,h'.get? e=some u)
  (new:cM P w (upd H x o') h' x o'):HOk P w (upd H x o') h':=λb u q=>by
 have nown:∀ c y,H c=some (.own y)->c≠x:=λc y r z=>by subst z;rw [r] at mu;exact mu
 have ntup:∀ c xs,H c=some (.tup xs)->c≠x:=λc xs r z=>by subst z;rw [r] at mu;exact mu
 by_cases hb:b=x
 ·subst hb;rw [aH] at q;cases q;exact new
 ·rw [aE hb] at q
  by_cases hbe:b=e
  ·have q':H b=some (.own x):=by
    rcases he with z | z
    ·exact absurd (hbe.trans z) hb
    ·rw [hbe];exact z
   rw [q] at q';cases q';obtain ⟨v,hv⟩:=heo;exact ⟨v,by rw [hbe];exact hv⟩
  ·refine (ok b u q).stay (λc v hc r=>k c v ?_ r) (λc r=>by rw [aE (nown c b r)];exact r) λc xs r=>by rw [aE (ntup c xs r)];exact r
   rcases hc with rfl | hc
   ·exact hbe
   ·rintro rfl
    rcases he with z | z
    ·exact nown c b hc z
    ·rw [hc] at z;cases z;exact hb rfl
end
structure Un (fs ex:T0o) (H H':Hp) (h h':Heap):Prop where
 keep:∀ b o,h.get? b=some o->H b=none->b∉fs->b∉ex->h'.get? b=some o
 slot:∀ b o,h.get? b=some o->H b=none->b∈fs->b∉ex->∃ sl,h'.get? b=some { o with slots:=sl }
 free:∀ b o,h.get? b=some o->H b=none->b∉ex->H' b=none
 there:∀ b o,h.get? b=some o->b∉ex->∃ o',h'.get? b=some o'
 tups:∀ b xs,H b=some (.tup xs)->H' b=some (.tup xs)
 frzs:∀ b o u,H b=some (.frz o u)->H' b=some (.frz o u)
 tbls:∀ b ps,H b=some (.tbl ps)->∃ more,H' b=some (.tbl (ps.1,ps.2++more))
section
variable {fs fs' ex ex':T0o} {H1 H2:Hp} {h h2:Heap} {x e:Addr}
theorem Un.any (u:Un fs ex H H1 h h1) (q:h.get? b=some ob) (n:H b=none) (hx:b∉ex):∃ sl,h1.get? b=some { ob with slots:=sl }:=by
 by_cases hb:b∈fs
 ·exact u.slot b ob q n hb hx
 ·exact ⟨ob.slots,u.keep b ob q n hb hx⟩
def Un.kept (k:∀ b u,h.get? b=some u->h'.get? b=some u):Un fs ex H H h h':=
 ⟨λb ob q _ _ _=>k b ob q,λb ob q _ _ _=>⟨ob.slots,k b ob q⟩,λ_ _ _ n _=>n,λb ob q _=>⟨ob,k b ob q⟩,λ_ _ q=>q,λ_ _ _ q=>q,λ_ ps q=>⟨#[],by rw [q];simp⟩⟩
def Un.refl:Un fs ex H H h h:=Un.kept λ_ _ q=>q
def Un.laid (k:∀ b u,h.get? b=some u->h'.get? b=some u) (hp:h.objs.size<=a) (hn:H a=none):Un fs ex H (upd H a o) h h' where
 keep:=λb u q _ _ _=>k b u q
 slot:=λb u q _ _ _=>⟨u.slots,k b u q⟩
 free:=λb u q n _=>by rw [aE (qc (qa (qN q) hp))];exact n
 there:=λb u q _=>⟨u,k b u q⟩
 tups:=λb xs q=>by rw [aE (aO q hn)];exact q
 frzs:=λb u xs q=>by rw [aE (aO q hn)];exact q
 tbls:=λb ps q=>⟨#[],by rw [aE (aO q hn),q];simp⟩
def Un.write (mu:Mut (H x)) (he:e=x\/H e=some (.own x)) (k:∀ b u,b≠e->h.get? b=some u->h'.get? b=some u) (heo:∃ u,h'.get? e=some u):Un fs ex H (upd H x o) h h':=by
 have hx:∀ b,H b=none->b≠x:=λb n z=>by subst z;rw [n] at mu;exact mu
 have hb:∀ b,H b=none->b≠e:=λb n z=>by
  subst z;rcases he with r | r
  ·exact hx b n r
  ·rw [n] at r;cases r
 have hm:∀ b u,H b=some u->¬Mut (some u)->b≠x:=λb u q nm z=>by subst z;rw [q] at mu;exact nm mu
 refine ⟨λb u q n _ _=>k b u (hb b n) q,λb u q n _ _=>⟨u.slots,k b u (hb b n) q⟩,λb u q n _=>by rw [aE (hx b n)];exact n,λb u q _=>?_,
  λb xs q=>by rw [aE (hm b _ q λz=>z)];exact q,λb u xs q=>by rw [aE (hm b _ q λz=>z)];exact q,λb ps q=>⟨#[],by rw [aE (hm b _ q λz=>z),q];simp⟩⟩
 by_cases hbe:b=e
 ·subst hbe;exact heo
 ·exact ⟨u,k b u hbe q⟩
end
def trk (h:Heap) (H:Hp):List Addr:=(qV h.objs.size).filter λa=>(H a).isSome
def a2C (h:Heap) (H:Hp):Heap:=PySem.W.hideAll h (trk h H)
def a9W (h:Heap) (H:Hp):(a2C h H).objs.size=h.objs.size:=PySem.W.hideAll_size _ _
def b2D {h:Heap} {o:Obj} (e:h.get? b=some o) (n:H b=none):(a2C h H).get? b=some o:=
 PySem.W.hideAll_get _ e λhm=>by
  have q:(H b).isSome=true:=(qX.mp hm).2;rw [n] at q;simp at q
def b4Q {h:Heap} {o:Obj} (e:(a2C h H).get? b=some o):h.get? b=some o/\H b=none:=by
 have e':h.get? b=some o:=PySem.W.of_hideAll (trk h H) e;refine ⟨e',?_⟩;cases q:H b with
 | none=>rfl
 | some x=>
  have hm:b∈trk h H:=qX.mpr ⟨qo.mpr (qN e'),by simp [q]⟩;have z:(a2C h H).get? b=none:=PySem.W.hideAll_none (trk h H) hm;rw [z] at e;cases e
def b6i (g h:Heap) (L:Addr):List (Addr×Obj):=(qV h.objs.size).filterMap λa=>if a=L\/(g.get? a).isSome=true then none else (h.get? a).map λo=>(a,o)
def rest (g h:Heap) (L d:Addr):List (Addr×Obj):=(b6i g h L).filter λp=>decide (p.1≠d)
structure Mod (K:qB) (mg:T0d) (base:Heap):Prop where
 kin:K.In base
 glob:base.Ns j6 mg
 blt:∃ mb,base.Ns u5 mb/\∀ x:Str,x ≠ "__name__" -> mb x=yc x
 nolimit:base.NoLimit
structure Cx where
 prog:Program
 w:World
 K:qB
 mg:Str->Option Value
 base:Heap
 A:Around
 N:List Str
 s₀:Shared
 H₀:Hp
 env:Env
 outer:List Env
 stack:List Env
 ex:List Addr
 fn:Str->Bool
 calm:Bool
 pn:List (Addr×Obj)
 xe:Value->Shared->Prop
def frs (l:List Env):List Addr:=l.filterMap (·.frame)
abbrev Cx.fs (X:Cx):List Addr:=frs X.outer
def Vis (sc:Scope) (x:Str):Prop:=sc.names.lookup x=some .local\/sc.names.lookup x=some .cell\/sc.names.lookup x=some .free
def Loc (sc:Scope) (x:Str):Prop:=sc.names.lookup x=some .local\/sc.names.lookup x=some .cell
def Look (env:Env) (h:Heap) (m:T0d) (x:Str) (u:Value):Prop:=
 (env.kindOf x=some .local/\m x=some u)\/((env.kindOf x=some .cell\/env.kindOf x=some .free)/\∃ c,env.cells.lookup x=some c/\h.IsCell c (some u))
structure Cx.Ok (X:Cx):Prop where
 mod:Mod X.K X.mg X.base
 kind:X.env.scope.kind=.function
 glob:X.env.globals=j6
 blt:X.env.builtins=u5
 above:X.s₀.heap.objs.size<=X.env.locals
 inj:∀ x y c,X.env.cells.lookup x=some c->X.env.cells.lookup y=some c->x=y
 has:∀ x,(X.env.kindOf x=some .cell\/X.env.kindOf x=some .free)->∃ c,X.env.cells.lookup x=some c
 cab:∀ x c,X.fn x=true->X.env.cells.lookup x=some c->X.s₀.heap.objs.size<=c
 hd:X.calm=true->X.A.handled=none
 frames:X.A.frames=some X.stack
 stk:X.stack=X.outer\/(X.stack=X.env::X.outer/\X.env.frame=some X.env.locals)
 exf:∀ b∈X.ex,b≠X.env.locals/\∀ x c,X.env.cells.lookup x=some c->c≠b
 bs:∀ b o,X.base.get? b=some o->X.s₀.heap.get? b=some o/\X.H₀ b=none
 bsz:X.base.objs.size<=X.s₀.heap.objs.size
 noex:∀ b o,X.base.get? b=some o->b∉X.ex
 exfs:∀ b∈X.ex,b∉X.fs
 funs:X.s₀.heap.FunFrames X.base X.outer
 frf:∀ b∈X.fs,X.H₀ b=none
structure Inv (X:Cx) (pq:T0b) (σ:List (Option V)) (H:Hp) (s:Shared):Prop where
 ok:X.Ok
 os:s.os=X.s₀.os
 bare:QC s.gens
 base:Un X.fs X.ex X.H₀ H X.s₀.heap s.heap
 loc:∃ m,s.heap.Ns X.env.locals m/\∀ (i:Nat) (x:Str) (v:V),X.N[i]?=some x->σ[i]?=some (some v)->Vis X.env.scope x->∃ u,RelV v u/\Look X.env s.heap m x u
 cell:∀ x c,X.env.cells.lookup x=some c->∃ v,s.heap.IsCell c v
 free:H X.env.locals=none
 freeC:∀ x c,X.env.cells.lookup x=some c->H c=none
 pin:∀ p∈X.pn++pq,s.heap.get? p.1=some p.2/\H p.1=none/\p.1≠X.env.locals/\p.1∉X.fs/\∀ v,p.2.data≠.cell v
 hok:HOk X.prog X.w H s.heap
 len:σ.length=X.N.length
variable {X:Cx} {g':Array QY} {v:V}
section
variable {σ:List (Option V)}
theorem Cx.Ok.nofr (ok:X.Ok) {o:Obj} (e:X.base.get? b=some o):b∉X.fs:=λhb=>by
 have:=(ok.funs.mem hb).1;rw [e] at this;cases this
theorem Inv.bs (I:Inv X pq σ H s):∀ b o,X.base.get? b=some o->s.heap.get? b=some o/\H b=none:=λb o e=>
 ⟨I.base.keep b o (I.ok.bs b o e).1 (I.ok.bs b o e).2 (I.ok.nofr e) (I.ok.noex b o e),I.base.free b o (I.ok.bs b o e).1 (I.ok.bs b o e).2 (I.ok.noex b o e)⟩
theorem Inv.bk (I:Inv X pq σ H s):∀ b o,X.base.get? b=some o->s.heap.get? b=some o:=λb o e=>(I.bs b o e).1
theorem Inv.mod (I:Inv X pq σ H s):Mod X.K X.mg X.base:=I.ok.mod
theorem Inv.kIn (I:Inv X pq σ H s):X.K.In s.heap:=I.ok.mod.kin.keeps I.bk
theorem Inv.lt (I:Inv X pq σ H s):X.env.locals<s.heap.objs.size:=let ⟨_,hn,_⟩:=I.loc;hn.lt
theorem Inv.sz (I:Inv X pq σ H s):X.s₀.heap.objs.size<=s.heap.objs.size:=qk I.ok.above (jN I.lt)
theorem Inv.nofs (I:Inv X pq σ H s) (h:s.heap.objs.size<=a):a∉X.fs:=λhb=>by
 obtain ⟨_,o,ho,_⟩:=I.ok.funs.mem hb;exact absurd (qa (qN ho) (qk I.sz h)) (ji _)
theorem Inv.cne (I:Inv X pq σ H s):∀ x c,X.env.cells.lookup x=some c->c≠X.env.locals:=λx c e z=>by
 obtain ⟨v,o,ho,hd⟩:=I.cell x c e;obtain ⟨m,⟨o',es,ep,ho',hd',_⟩,_⟩:=I.loc;rw [z,ho'] at ho;cases ho;rw [hd'] at hd;cases hd
theorem Inv.funs (I:Inv X pq σ H s):s.heap.FunFrames X.base X.outer:=by
 have all:∀ (l:List Env),(∀ b∈frs l,b∈X.fs)->X.s₀.heap.FunFrames X.base l->s.heap.FunFrames X.base l:=by
  intro l
  induction l with
  | nil=>intro _ _;trivial
  | cons env r ih=>
   intro hs hl;obtain ⟨hk,⟨L,o,hf,hn,ho,hd⟩,hr⟩:=hl;have hL:L∈X.fs:=hs L (by unfold frs;rw [wJ,hf];exact qf);obtain ⟨sl,e⟩:=I.base.slot L o ho (I.ok.frf L hL) hL λz=>I.ok.exfs L z hL;exact ⟨hk,⟨L,_,hf,hn,e,hd⟩,ih (λb hb=>hs b (by unfold frs;rw [wJ,hf];exact qE _ hb)) hr⟩
 exact all X.outer (λ_ hb=>hb) I.ok.funs
theorem Inv.stack (I:Inv X pq σ H s):s.heap.FunFrames X.base X.stack:=by
 rcases I.ok.stk with e | ⟨e,hf⟩
 ·rw [e];exact I.funs
 ·rw [e]
  obtain ⟨m,hn,_⟩:=I.loc;refine .cons (by rw [I.ok.kind];decide) hf hn ?_ I.funs;exact vI (qk I.ok.bsz I.ok.above)
def Inv.stkSub (I:Inv X pq σ H s):∀ b∈frs X.stack,b∈X.env.locals::X.fs:=λb hb=>by
 rcases I.ok.stk with e | ⟨e,hf⟩
 ·rw [e] at hb;exact qE _ hb
 ·rw [e] at hb
  unfold frs at hb;rw [wJ,hf] at hb;exact hb
def Inv.stkFree (I:Inv X pq σ H s):∀ b∈frs X.stack,H b=none:=λb hb=>by
 rcases qI.mp (I.stkSub b hb) with e | hb
 ·rw [e];exact I.free
 ·obtain ⟨_,o,ho,_⟩:=I.ok.funs.mem hb
  exact I.base.free b o ho (I.ok.frf b hb) λz=>I.ok.exfs b z hb
theorem Inv.step (I:Inv X pq σ H s)
  (hch:∀ b∈ch,(b∈X.ex\/X.s₀.heap.objs.size<=b)/\b≠X.env.locals/\(∀ x c,X.env.cells.lookup x=some c->c≠b)/\∀ p∈X.pn++pq,p.1≠b)
  (keep:∀ b o,b≠X.env.locals->b∉X.fs->b∉ch->s.heap.get? b=some o->H b=none->h'.get? b=some o)
  (slot:∀ b o,b≠X.env.locals->b∈X.fs->b∉ch->s.heap.get? b=some o->H b=none->∃ sl,h'.get? b=some { o with slots:=sl }) (free:∀ b o,b∉ch->s.heap.get? b=some o->H b=none->H' b=none)
  (there:∀ b o,b∉ch->s.heap.get? b=some o->∃ o',h'.get? b=some o')
  (tups:∀ b xs,H b=some (.tup xs)->H' b=some (.tup xs)) (frzs:∀ b o u,H b=some (.frz o u)->H' b=some (.frz o u)) (tbls:∀ b ps,H b=some (.tbl ps)->∃ more,H' b=some (.tbl (ps.1,ps.2++more)))
  (ns:∀ m,s.heap.Ns X.env.locals m->h'.Ns X.env.locals m) (hok:HOk X.prog X.w H' h') (hg:QC g'):
  Inv X pq σ H' { s with heap:=h',gens:=g',drawn:=d',toks:=t' }:=by
 have neL:∀ b o,X.s₀.heap.get? b=some o->b≠X.env.locals:=λb o e=>qc (qa (qN e) I.ok.above);have neC:∀ b o,X.s₀.heap.get? b=some o->b∉X.ex->b∉ch:=λb o e hx hb=>by
  rcases (hch b hb).1 with z | z
  ·exact hx z
  ·exact absurd (qa (qN e) z) (ji _)
 have cellK:∀ x c,X.env.cells.lookup x=some c->∀ v,s.heap.IsCell c v->h'.IsCell c v:=λx c e v ⟨o,ho,hd⟩=>by
  have nch:c∉ch:=λz=>(hch c z).2.2.1 x c e rfl;by_cases hc:c∈X.fs
  ·obtain ⟨sl,q⟩:=slot c o (I.cne x c e) hc nch ho (I.freeC x c e)
   exact ⟨_,q,hd⟩
  ·exact ⟨o,keep c o (I.cne x c e) hc nch ho (I.freeC x c e),hd⟩
 refine ⟨I.ok,I.os,hg,⟨λb o e n hb hx=>?_,λb o e n hb hx=>?_,λb o e n hx=>?_,λb o e hx=>?_,λb xs e=>tups b xs (I.base.tups b xs e),λb o xs e=>frzs b o xs (I.base.frzs b o xs e),λb ps e=>?_⟩,?_,λx c e=>?_,?_,λx c e=>?_,λp hp=>?_,hok,I.len⟩
 ·exact keep b o (neL b o e) hb (neC b o e hx) (I.base.keep b o e n hb hx) (I.base.free b o e n hx)
 ·obtain ⟨sl,e1⟩:=I.base.slot b o e n hb hx
  obtain ⟨sl',e2⟩:=slot b _ (neL b o e) hb (neC b o e hx) e1 (I.base.free b o e n hx);exact ⟨sl',e2⟩
 ·obtain ⟨o',e1⟩:=I.base.there b o e hx
  exact free b o' (neC b o e hx) e1 (I.base.free b o e n hx)
 ·obtain ⟨o',e1⟩:=I.base.there b o e hx
  exact there b o' (neC b o e hx) e1
 ·obtain ⟨m1,e1⟩:=I.base.tbls b ps e
  obtain ⟨m2,e2⟩:=tbls b _ e1;exact ⟨m1++m2,by rw [e2];simp [Array.append_assoc]⟩
 ·obtain ⟨m,hn,hl⟩:=I.loc
  refine ⟨m,ns m hn,λi x v e1 e2 e3=>?_⟩;obtain ⟨u,r,l⟩:=hl i x v e1 e2 e3;refine ⟨u,r,?_⟩;rcases l with l | ⟨k,c,e,z⟩
  ·exact .inl l
  ·exact .inr ⟨k,c,e,cellK x c e _ z⟩
 ·obtain ⟨v,z⟩:=I.cell x c e
  exact ⟨v,cellK x c e v z⟩
 ·obtain ⟨m,⟨o,_,_,ho,_⟩,_⟩:=I.loc
  exact free _ o (λz=>(hch _ z).2.1 rfl) ho I.free
 ·obtain ⟨v,o,ho,hd⟩:=I.cell x c e
  exact free c o (λz=>(hch c z).2.2.1 x c e rfl) ho (I.freeC x c e)
 ·obtain ⟨e,n,ne,nf,d⟩:=I.pin p hp
  have nch:p.1∉ch:=λz=>(hch p.1 z).2.2.2 p hp rfl;exact ⟨keep p.1 p.2 ne nf nch e n,free p.1 p.2 nch e n,ne,nf,d⟩
theorem Inv.un (I:Inv X pq σ H s) (u:Un X.fs [] H H' s.heap h') (hok:HOk X.prog X.w H' h'):Inv X pq σ H' { s with heap:=h',toks:=t' }:=by
 obtain ⟨m,⟨o,es,ep,ho,r⟩,_⟩:=id I.loc;obtain ⟨sl,hL⟩:=u.any ho I.free (by simp)
 exact I.step (g':=s.gens) (d':=s.drawn) (ch:=[]) (λ_ z=>nomatch z) (λb o _ hb _ e n=>u.keep b o e n hb (by simp)) (λb o _ hb _ e n=>u.slot b o e n hb (by simp)) (λb o _ e n=>u.free b o e n (by simp)) (λb o _ e=>u.there b o e (by simp)) u.tups u.frzs u.tbls (λm' hm=>by
  obtain ⟨o',es',ep',ho',r'⟩:=hm;rw [ho] at ho';cases ho'
  exact ⟨_,es',ep',hL,r'⟩) hok I.bare
theorem Inv.call (I:Inv X pq σ H s) (u:Un (frs X.stack) ch H H' s.heap h') (hok:HOk X.prog X.w H' h') (hg:QC g')
  (hch:∀ b∈ch,(b∈X.ex\/X.s₀.heap.objs.size<=b)/\b≠X.env.locals/\(∀ x c,X.env.cells.lookup x=some c->c≠b)/\∀ p∈X.pn++pq,p.1≠b):
  Inv X pq σ H' { s with heap:=h',gens:=g',drawn:=d',toks:=t' }:=by
 obtain ⟨m,⟨o,es,ep,ho,r⟩,_⟩:=id I.loc;obtain ⟨sl,hL⟩:=u.any ho I.free λz=>(hch _ z).2.1 rfl
 exact I.step (ch:=ch) hch (λb o hL hb hc e n=>u.keep b o e n (λz=>(qI.mp (I.stkSub b z)).elim hL hb) hc) (λb o _ _ hc e n=>u.any e n hc) (λb o hc e n=>u.free b o e n hc) (λb o hc e=>u.there b o e hc) u.tups u.frzs u.tbls (λm' hm=>by
  obtain ⟨o',es',ep',ho',r'⟩:=hm;rw [ho] at ho';cases ho'
  exact ⟨_,es',ep',hL,r'⟩) hok hg
def Inv.turned (I:Inv X pq σ H s) (k:∀ b o,b≠it->s.heap.get? b=some o->h'.get? b=some o) (hn:H it=none) (hL:it≠X.env.locals)
  (h1:it∈X.ex\/X.s₀.heap.objs.size<=it) (h2:∀ x c,X.env.cells.lookup x=some c->c≠it) (h3:∀ p∈X.pn++pq,p.1≠it):Inv X pq σ H { s with heap:=h',toks:=t' }:=by
 have nit:∀ b u,H b=some u->b≠it:=λb u e z=>by rw [z,hn] at e;cases e
 refine I.step (g':=s.gens) (d':=s.drawn) (ch:=[it]) (λb hb=>?_) (λb o _ _ hc e _=>k b o (λz=>hc (by simp [z])) e) (λb o _ _ hc e _=>⟨o.slots,k b o (λz=>hc (by simp [z])) e⟩) (λ_ _ _ _ n=>n)
  (λb o hc e=>⟨o,k b o (λz=>hc (by simp [z])) e⟩) (λ_ _ e=>e) (λ_ _ _ e=>e) (λb ps e=>⟨#[],by rw [e];simp⟩) (λm hm=>?_) (λb u e=>?_) I.bare
 ·have e:b=it:=by simpa using hb
  subst e;exact ⟨h1,hL,h2,h3⟩
 ·obtain ⟨o,es,ep,ho,r⟩:=hm
  exact ⟨o,es,ep,k _ o (jT hL) ho,r⟩
 ·refine (I.hok b u e).stay (λc v hc q=>k c v ?_ q) (λ_ q=>q) λ_ _ q=>q
  rcases hc with z | z
  ·rw [z];exact nit b u e
  ·exact nit c _ z
theorem Inv.tok (I:Inv X pq σ H s) (t:Nat):Inv X pq σ H { s with toks:=t }:=I.un (h':=s.heap) (t':=t) Un.refl I.hok
theorem Inv.kept {t':Nat} (I:Inv X pq σ H s) (k:∀ b u,s.heap.get? b=some u->h'.get? b=some u):Inv X pq σ H { s with heap:=h',toks:=t' }:=I.un (Un.kept k) (I.hok.kept k)
theorem Inv.laid {a:Addr} {o:HO} {t':Nat} (I:Inv X pq σ H s) (k:∀ b u,s.heap.get? b=some u->h'.get? b=some u) (hp:s.heap.objs.size<=a) (new:cM X.prog X.w (upd H a o) h' a o) :
  Inv X pq σ (upd H a o) { s with heap:=h',toks:=t' }:=I.un (Un.laid k hp (I.hok.fresh hp)) (I.hok.laid k hp new)
theorem Inv.write {x e:Addr} {o:HO} {t':Nat} (I:Inv X pq σ H s) (mu:Mut (H x)) (he:e=x\/H e=some (.own x)) (k:∀ b u,b≠e->s.heap.get? b=some u->h'.get? b=some u) (heo:∃ u,h'.get? e=some u)
  (new:cM X.prog X.w (upd H x o) h' x o):Inv X pq σ (upd H x o) { s with heap:=h',toks:=t' }:=I.un (Un.write mu he k heo) (I.hok.write mu he k heo new)
def Inv.pins_of {pins':T0b} (I:Inv X pq σ H s) (h:∀ p∈pins',s.heap.get? p.1=some p.2/\H p.1=none/\p.1≠X.env.locals/\p.1∉X.fs/\∀ v,p.2.data≠.cell v):Inv X pins' σ H s:=
 ⟨I.ok,I.os,I.bare,I.base,I.loc,I.cell,I.free,I.freeC,λp hp=>(qg.mp hp).elim (λz=>I.pin p (jA _ z)) (h p),I.hok,I.len⟩
def a5C (hN:N.Nodup) {x:Str} (a:N[i]?=some x) (b:N[j]?=some x):i=j:=by
 obtain ⟨h1,e1⟩:=qR.mp a;obtain ⟨h2,e2⟩:=qR.mp b;exact (vg hN).mp (e1.trans e2.symm)
def a2N {x:Str} {Q:Unit->Shared->Prop} (I:Inv X pq σ H s) (hN:X.N.Nodup) (hi:X.N[i]?=some x) (hx:Loc X.env.scope x) (r:RelV v u)
  (h:∀ s',Inv X pq (σ.set i (some v)) H s'->(∃ a,kj a s.heap s'.heap/\(a=X.env.locals\/X.env.cells.lookup x=some a))->Q () s') (hf:X.fn x=true\/X.env.scope.names.lookup x=some .local:=by first | exact .inl rfl | exact .inr rfl | assumption):wpAny M A (storeName X.env x u) Q E s:=by
 obtain ⟨m,hn,hl⟩:=id I.loc;have hcls:(X.env.scope.kind==.class || (X.env.scope.kind==.module&&X.env.locals != X.env.globals))=false:=by rw [I.ok.kind];rfl
 have hiσ:i<σ.length:=by rw [I.len];exact (qR.mp hi).1
 have cne:=I.cne;have tracked:∀ {a:Addr} {h':Heap},(∃ o,s.heap.get? a=some o/\H a=none)->kj a s.heap h'->HOk X.prog X.w H h':=λ{a h'} ha hs b ob e=>by
  obtain ⟨_,_,hfree⟩:=ha;refine (I.hok b ob e).stay (λc w' hc q=>(hs.2 c ?_).trans q) (λ_ q=>q) λ_ _ q=>q;rintro rfl;rcases hc with rfl | hc
  ·rw [hfree] at e;cases e
  ·rw [hfree] at hc;cases hc
 rcases hx with hk | hk
 ·refine wpAny_storeName_local hk hn (λh' hn' hs=>?_) hcls
  obtain ⟨oL,_,_,hoL,_⟩:=id hn;refine h _ ⟨I.ok,I.os,I.bare,⟨λb o e n hb hx=>?_,λb o e n hb hx=>?_,I.base.free,λb o e hx=>?_,I.base.tups,I.base.frzs,I.base.tbls⟩,⟨_,hn',λj y v' e1 e2 e3=>?_⟩,λy c e=>?_,I.free,I.freeC,λp hp=>?_,tracked ⟨oL,hoL,I.free⟩ hs,by simpa using I.len⟩ ⟨_,hs,.inl rfl⟩
  ·exact (hs.2 b (qc (qa (qN e) I.ok.above))).trans (I.base.keep b o e n hb hx)
  ·obtain ⟨sl,e1⟩:=I.base.slot b o e n hb hx
   exact ⟨sl,(hs.2 b (qc (qa (qN e) I.ok.above))).trans e1⟩
  ·obtain ⟨o',e1⟩:=I.base.there b o e hx
   exact ⟨o',(hs.2 b (qc (qa (qN e) I.ok.above))).trans e1⟩
  ·by_cases hj:j=i
   ·subst hj
    rw [hi] at e1;cases e1;rw [vm hiσ] at e2;cases e2;exact ⟨u,r,.inl ⟨hk,by simp⟩⟩
   ·rw [qj (jT hj)] at e2
    obtain ⟨u',r',q⟩:=hl j y v' e1 e2 e3;refine ⟨u',r',?_⟩;rcases q with ⟨k,e⟩ | ⟨k,c,e,z⟩
    ·refine .inl ⟨k,?_⟩
     have:y≠x:=λe=>hj (a5C hN e1 (e▸hi));simp [this,e]
    ·exact .inr ⟨k,c,e,z.sameBut hs (cne y c e)⟩
  ·obtain ⟨w',z⟩:=I.cell y c e
   exact ⟨w',z.sameBut hs (cne y c e)⟩
  ·obtain ⟨e,n,ne,nf,d⟩:=I.pin p hp
   exact ⟨(hs.2 p.1 ne).trans e,n,ne,nf,d⟩
 ·have hfn:X.fn x=true:=by
   rcases hf with z | z
   ·exact z
   ·rw [z] at hk;cases hk
  obtain ⟨c,hc⟩:=I.ok.has x (.inl hk);obtain ⟨w',z⟩:=I.cell x c hc;refine wpAny_storeName_cell I.ok.kind hk hc z (λh' hc' hs=>?_);obtain ⟨oc,hoc,hocd⟩:=id z;refine h { s with heap:=h' } ⟨I.ok,I.os,I.bare,⟨λb o e n hb hx=>?_,λb o e n hb hx=>?_,I.base.free,λb o e hx=>?_,I.base.tups,I.base.frzs,I.base.tbls⟩,⟨m,hn.sameBut hs (jT (cne x c hc)),λj y v' e1 e2 e3=>?_⟩,λy c' e=>?_,I.free,I.freeC,λp hp=>?_,tracked ⟨oc,hoc,I.freeC x c hc⟩ hs,by simpa using I.len⟩ ⟨c,hs,.inr hc⟩
  ·exact (hs.2 b (qc (qa (qN e) (I.ok.cab x c hfn hc)))).trans (I.base.keep b o e n hb hx)
  ·obtain ⟨sl,e1⟩:=I.base.slot b o e n hb hx
   exact ⟨sl,(hs.2 b (qc (qa (qN e) (I.ok.cab x c hfn hc)))).trans e1⟩
  ·obtain ⟨o',e1⟩:=I.base.there b o e hx
   exact ⟨o',(hs.2 b (qc (qa (qN e) (I.ok.cab x c hfn hc)))).trans e1⟩
  ·by_cases hj:j=i
   ·subst hj
    rw [hi] at e1;cases e1;rw [vm hiσ] at e2;cases e2;exact ⟨u,r,.inr ⟨.inl hk,c,hc,hc'⟩⟩
   ·rw [qj (jT hj)] at e2
    obtain ⟨u',r',q⟩:=hl j y v' e1 e2 e3;refine ⟨u',r',?_⟩;rcases q with q | ⟨k,c',e,z'⟩
    ·exact .inl q
    ·refine .inr ⟨k,c',e,z'.sameBut hs ?_⟩
     rintro rfl;exact hj (a5C hN e1 (I.ok.inj _ _ _ e hc▸hi))
  ·by_cases hcc:c'=c
   ·subst hcc;exact ⟨_,hc'⟩
   ·obtain ⟨w2,z2⟩:=I.cell y c' e
    exact ⟨w2,z2.sameBut hs hcc⟩
  ·obtain ⟨e,n,ne,nf,d⟩:=I.pin p hp
   refine ⟨(hs.2 p.1 ?_).trans e,n,ne,nf,d⟩;intro q;rw [q,hoc] at e;have q':oc=p.2:=qA e;exact d w' (by rw [<-q'];exact hocd)
def a0X {x:Str} {Q:Unit->Shared->Prop} (I:Inv X pq σ H s) (hN:X.N.Nodup) (hi:X.N[i]?=some x) (hx:Loc X.env.scope x) (r:RelV v u)
  (h:∀ s',Inv X pq (σ.set i (some v)) H s'->Q () s') (hf:X.fn x=true\/X.env.scope.names.lookup x=some .local:=by first | exact .inl rfl | exact .inr rfl | assumption):wpAny M A (storeName X.env x u) Q E s:=
 a2N I hN hi hx r (λs' I' _=>h s' I') hf
def Inv.call' (I:Inv X pq σ H s) (ho:s'.os=s.os) (u:Un (frs X.stack) ch H H' s.heap s'.heap) (hok:HOk X.prog X.w H' s'.heap) (hg:QC s'.gens)
  (hch:∀ b∈ch,(b∈X.ex\/X.s₀.heap.objs.size<=b)/\b≠X.env.locals/\(∀ x c,X.env.cells.lookup x=some c->c≠b)/\∀ p∈X.pn++pq,p.1≠b):Inv X pq σ H' s':=by
 obtain ⟨h',g',d',t',o'⟩:=s';have e:o'=s.os:=ho;subst e;exact I.call (g':=g') (t':=t') (d':=d') u hok hg hch
end
abbrev XK:=Value->Option Addr->Hp->Prop
abbrev St:=List (Option V)
abbrev VK:=V->Hp->Prop
abbrev TE:=St->Hp->VK->Prop
abbrev TT:=St->Hp->(Bool->Hp->Prop)->Prop
abbrev TA:=St->Hp->(List V->Hp->Prop)->Prop
structure Ends where
 nx:St->Hp->Prop
 rt:VK
 bk:St->Hp->Prop:=λ_ _=>False
 ct:St->Hp->Prop:=λ_ _=>False
abbrev TS:=Ends->St->Hp->Prop
def EP (X:Cx) (pq:T0b) (σ:St) (Q:VK) (u:Value) (s':Shared):Prop:=∃ v H',Inv X pq σ H' s'/\RelV v u/\Q v H'
def TP (X:Cx) (pq:T0b) (σ:St) (Q:Bool->Hp->Prop) (b:Bool) (s':Shared):Prop:=∃ H',Inv X pq σ H' s'/\Q b H'
def AP (X:Cx) (pq:T0b) (σ:St) (Q:List V->Hp->Prop) (us:T0m) (s':Shared):Prop:=∃ vs H',Inv X pq σ H' s'/\aU vs us/\Q vs H'
def SP (X:Cx) (pq:T0b) (D:Ends) (f:Flow) (s':Shared):Prop:=
 match f with
 | .next=>∃ σ' H',Inv X pq σ' H' s'/\D.nx σ' H'
 | .brk=>∃ σ' H',Inv X pq σ' H' s'/\D.bk σ' H'
 | .cont=>∃ σ' H',Inv X pq σ' H' s'/\D.ct σ' H'
 | .ret u=>∃ v σ' H',Inv X pq σ' H' s'/\RelV v u/\D.rt v H'
def PE (X:Cx) (e:Expr) (t:TE):Prop:=
 ∀ (pq:T0b) (s:Shared) (σ:St) (H:Hp) (Q:VK),Inv X pq σ H s->t σ H Q->wpAny (model X.prog X.w) X.A (eval e X.env) (EP X pq σ Q) X.xe s
def PT (X:Cx) (e:Expr) (t:TT):Prop:=
 ∀ (pq:T0b) (s:Shared) (σ:St) (H:Hp) (Q:Bool->Hp->Prop),Inv X pq σ H s->t σ H Q->wpAny (model X.prog X.w) X.A (isTrue e X.env (eval e X.env)) (TP X pq σ Q) X.xe s
def PW (X:Cx) (e:Expr) (t:TT):Prop:=
 ∀ (whole:Sem Value) (pq:T0b) (s:Shared) (σ:St) (H:Hp) (Q:Bool->Hp->Prop),Inv X pq σ H s->t σ H Q->wpAny (model X.prog X.w) X.A (isTrue e X.env whole) (TP X pq σ Q) X.xe s
def PA (X:Cx) (es:T0n) (t:TA):Prop:=
 ∀ (pos:Pos) (pq:T0b) (s:Shared) (σ:St) (H:Hp) (Q:List V->Hp->Prop),Inv X pq σ H s->t σ H Q->wpAny (model X.prog X.w) X.A (spliced (v8 pos (j4 es X.env))) (AP X pq σ Q) X.xe s
def PS (X:Cx) (st:Stmt) (t:TS):Prop:=
 ∀ (pq:T0b) (s:Shared) (σ:St) (H:Hp) (D:Ends),Inv X pq σ H s->t D σ H->wpAny (model X.prog X.w) X.A (exec st X.env) (SP X pq D) X.xe s
def PSs (X:Cx) (st:List Stmt) (t:TS):Prop:=
 ∀ (pq:T0b) (s:Shared) (σ:St) (H:Hp) (D:Ends),Inv X pq σ H s->t D σ H->wpAny (model X.prog X.w) X.A (execs st X.env) (SP X pq D) X.xe s
def thn {α:Type} {t:Sem α} {Q Q':α->Shared->Prop} (h:wpAny M A t Q E s) (hQ:∀ a s,Q a s->Q' a s):wpAny M A t Q' E s:=yi h hQ λ_ _ x=>x
variable {σ:St} {ta tb:TE}
section
def b8Y (i:Nat):TE:=λσ H Q=>∃ v,σ[i]?=some (some v)/\Q v H
def tC (v:V):TE:=λ_ H Q=>Q v H
def dI {x:Str} (hN:X.N[i]?=some x) (hv:Vis X.env.scope x) (hd:(x==("__debug__" : Str))=false:=by decide) (hcd:(x==("__classdict__" : Str))=false:=by decide):PE X (.Name x pos) (b8Y i):=by
 intro pq s σ H Q I h;obtain ⟨v,e,h⟩:=h;obtain ⟨m,hn,hl⟩:=I.loc;obtain ⟨u,r,l⟩:=hl i x v hN e hv;have fin:EP X pq σ Q u s:=⟨v,H,I,r,h⟩;rcases l with ⟨hk,hm⟩ | ⟨hk,c,hc,hcell⟩
 ·exact wpAny_Name (wpAny_loadName_local I.ok.kind hk hn hm fin) hd
 ·rcases hk with hk | hk
  ·exact wpAny_Name (wpAny_loadName_cell I.ok.kind hk hc hcell fin) hd
  ·exact wpAny_Name (wpAny_loadName_free I.ok.kind hk hc hcell fin hcd) hd
def b1H {i j pos:_}:PE X (.Constant (.int i) j pos) (tC (.int i)):=λ_ _ _ H _ I h=>wpAny_Constant_int ⟨.int i,H,I.tok _,⟨_,rfl⟩,h⟩
def b9B {b j pos:_}:PE X (.Constant (.bool b) j pos) (tC (.bl b)):=λ_ _ _ H _ I h=>Constant_bool ⟨.bl b,H,I,rfl,h⟩
def b7r {j pos:_}:PE X (.Constant .none j pos) (tC .non):=λ_ _ _ H _ I h=>Constant_none ⟨.non,H,I,rfl,h⟩
def b7q {x j pos:_}:PE X (.Constant (.str x) j pos) (tC (.str x)):=λ_ _ _ H _ I h=>Calls.Constant_str ⟨.str x,H,I.tok _,⟨_,rfl⟩,h⟩
def Gl (X:Cx) (x:Str):Prop:=X.env.kindOf x=some .globalImplicit
def a8C {x:Str} (I:Inv X pq σ H s) (hg:Gl X x) (hm:X.mg x=some u) (h:Q u s)
  (hd:(x==("__debug__" : Str))=false:=by decide):wpAny (model X.prog X.w) X.A (eval (.Name x pos) X.env) Q E s:=
 Calls.Name_function_global I.ok.kind hg (Calls.loadGlobal_global (by rw [I.ok.glob];exact I.mod.glob.keeps I.bk) hm h) hd
def iV {x:Str} (I:Inv X pq σ H s) (hg:Gl X x) (hm:X.mg x=none) (hv:yc x=some u) (h:Q u s)
  (hn:x ≠ "__name__":=by decide) (hd:(x==("__debug__" : Str))=false:=by decide):wpAny (model X.prog X.w) X.A (eval (.Name x pos) X.env) Q E s:=by
 obtain ⟨mb,h1,h2⟩:=I.mod.blt;exact Calls.Name_function_global I.ok.kind hg (Calls.loadGlobal_builtin (by rw [I.ok.glob];exact I.mod.glob.keeps I.bk) hm (by rw [I.ok.blt];exact h1.keeps I.bk) ((h2 x hn).trans hv) h) hd
variable {a b:Expr}
def PC (X:Cx) (op:CmpOp) (a b:Expr) (t:TE):Prop:=
 ∀ (pq:T0b) (s:Shared) (σ:St) (H:Hp) (Q:VK),Inv X pq σ H s->t σ H Q ->
  wpAny (model X.prog X.w) X.A (eval a X.env) (λv s1z=>wpAny (model X.prog X.w) X.A (eval b X.env) (λu s2z=>wpAny (model X.prog X.w) X.A (ww op v u) (EP X pq σ Q) X.xe s2z) X.xe s1z) X.xe s
def b1T (b:Expr) (h:op≠.In) (h2:op≠.NotIn):yj op b=false:=by
 have e1:(op==CmpOp.In)=false:=by cases op<;>first | rfl | exact absurd rfl h
 have e2:(op==CmpOp.NotIn)=false:=by cases op<;>first | rfl | exact absurd rfl h2
 cases b<;>simp [yj,e1,e2]
def tB (t:TE):TT:=λσ H Q=>t σ H λx H1=>∃ c,x=.bl c/\Q c H1
def b7k {t:TE} (h:PC X op a b t) (h1:yj op b=false:=by first | exact b1T _ (by decide) (by decide) | rfl):PT X (.Compare a [op] [b] pos) (tB t):=by
 intro pq s σ H Q I hw;refine wpAny_isTrue_Compare1 (thn (h pq s σ H _ I hw) λv s1 h1=>thn h1 λu s2 h2=>thn h2 λc s3 ⟨x,H1,I1,r1,q1⟩=>?_) h1;obtain ⟨d,rfl,q⟩:=q1;cases r1;exact ym ⟨H1,I1,q⟩
variable {tA tB':TT} {rest:T0n}
def c0U (t u:TT):TT:=λσ H Q=>t σ H λc H1=>if c=true then u σ H1 Q else Q false H1
def tOr (t u:TT):TT:=λσ H Q=>t σ H λc H1=>if c=true then Q true H1 else u σ H1 Q
def c0M (t:TT):TT:=λσ H Q=>t σ H λc H1=>Q (!c) H1
def b4n (ha:PT X a tA):PW X (.BoolOp .And [a] pos) tA:=by
 intro wh pq s σ H Q I h;refine isTrue_and (thn (ha pq s σ H Q I h) λc s1 e=>?_);cases c with
 | true=>exact isTrue_and_nil e
 | false=>exact e
def b7g (ha:PT X a tA):PW X (.BoolOp .Or [a] pos) tA:=by
 intro wh pq s σ H Q I h;refine isTrue_or (thn (ha pq s σ H Q I h) λc s1 e=>?_);cases c with
 | false=>exact isTrue_or_nil e
 | true=>exact e
def b7h (ha:PT X a tA) (hb:PW X (.BoolOp .And (b::rest) pos) tB'):PW X (.BoolOp .And (a::b::rest) pos) (c0U tA tB'):=by
 intro wh pq s σ H Q I h;refine isTrue_and (thn (ha pq s σ H _ I h) λc s1 ⟨H1,I1,q1⟩=>?_);cases c with
 | true=>exact hb wh pq s1 σ H1 Q I1 q1
 | false=>exact ⟨H1,I1,q1⟩
def b9t (ha:PT X a tA) (hb:PW X (.BoolOp .Or (b::rest) pos) tB'):PW X (.BoolOp .Or (a::b::rest) pos) (tOr tA tB'):=by
 intro wh pq s σ H Q I h;refine isTrue_or (thn (ha pq s σ H _ I h) λc s1 ⟨H1,I1,q1⟩=>?_);cases c with
 | true=>exact ⟨H1,I1,q1⟩
 | false=>exact hb wh pq s1 σ H1 Q I1 q1
def b7j (ha:PT X a tA):PT X (.UnaryOp .Not a pos) (c0M tA):=by
 intro pq s σ H Q I h;exact isTrue_not (ha pq s σ H (λc H1=>Q (!c) H1) I h)
def tIf (t:TT) (ta tb:TE):TE:=λσ H Q=>t σ H λc H1=>if c=true then ta σ H1 Q else tb σ H1 Q
def b1I (hc:PT X c tA) (ha:PE X a ta) (hb:PE X b tb):PE X (.IfExp c a b pos) (tIf tA ta tb):=by
 intro pq s σ H Q I h;refine wpAny_IfExp (thn (hc pq s σ H _ I h) λd s1 ⟨H1,I1,q1⟩=>?_);cases d with
 | true=>exact ha pq s1 σ H1 Q I1 q1
 | false=>exact hb pq s1 σ H1 Q I1 q1
end
def SqL (K:qB) (H:Hp) (a:Addr) (xs:List V):Prop:=
 Rd H a (.lst xs) \/
  ∃ (o:Obj) (its:Array Value) (n:Nat),K.lookup a=some o/\o.cls=.type "list" /\ o.dict=none/\o.data=.seq its n/\its.size<=j5/\aU xs its.toList
def SqT (K:qB) (H:Hp) (a:Addr) (xs:List V):Prop:=
 Rd H a (.tup xs) \/
  ∃ (o:Obj) (its:Array Value) (n:Nat),K.lookup a=some o/\o.cls=.type "tuple" /\ o.data=.seq its n/\its.size<=j5/\aU xs its.toList
def c1M:Value->Option V
 | .none=>some .non
 | .bool b=>some (.bl b)
 | .int i _=>some (.int i)
 | .str x _=>some (.str x)
 | .bytes b _=>some (.byt b)
 | .float b _=>some (.flt b)
 | .ref a=>some (.ref a)
 | .type n=>some (.ty n)
 | _=>none
theorem RelV.abs {x:V} (r:RelV x u):c1M u=some x:=by
 cases x with
 | non=>cases r;rfl
 | bl _=>cases r;rfl
 | int _=>obtain ⟨t,rfl⟩:=r;rfl
 | str _=>obtain ⟨t,rfl⟩:=r;rfl
 | byt _=>obtain ⟨t,rfl⟩:=r;rfl
 | flt _=>obtain ⟨t,rfl⟩:=r;rfl
 | ref _=>cases r;rfl
 | ty _=>cases r;rfl
variable {y:V}
theorem RelV.inj {x:V} (r:RelV x u) (q:RelV y u):x=y:=qA (r.abs.symm.trans q.abs)
theorem aU.inj:∀ {xs ys:List V} {us:T0m},aU xs us->aU ys us->xs=ys
 | _,_,_,.nil,.nil=>rfl
 | _,_,_,.cons r t,.cons r' t'=>by rw [r.inj r',aU.inj t t']
variable {xs:List V}
section
variable {ys:List V}
theorem SqL.of {K:qB} (h:H a=some (.lst xs)):SqL K H a xs:=.inl (.inl h)
theorem SqT.of {K:qB} (h:H a=some (.tup xs)):SqT K H a xs:=.inl (.inl h)
theorem Inv.list (I:Inv X pq σ H s) (h:SqL X.K H a xs):∃ its:List Value,aU xs its/\PlainL s.heap a its.toArray/\xs.length<=j5:=by
 rcases h with h | ⟨o,its,n,hk,hc,hd,hs,hz,r⟩
 ·obtain ⟨z,its,n,r,e⟩:=h.ok I.hok
  exact ⟨its,r,⟨_,n,e,rfl,rfl,rfl⟩,z⟩
 ·refine ⟨its.toList,r,⟨o,n,I.kIn a o hk,hc,hd,by simpa using hs⟩,?_⟩
  have e:=r.length;simp only [qS] at e;omega
def Inv.tuple (I:Inv X pq σ H s) (h:SqT X.K H a xs):∃ its:List Value,aU xs its/\IsTup s.heap a its.toArray/\xs.length<=j5:=by
 rcases h with h | ⟨o,its,n,hk,hc,hs,hz,r⟩
 ·obtain ⟨z,its,r,p⟩:=h.ok I.hok
  exact ⟨its,r,p,z⟩
 ·refine ⟨its.toList,r,⟨o,I.kIn a o hk,hc,n,by simpa using hs⟩,?_⟩
  have e:=r.length;simp only [qS] at e;omega
def Inv.list_inj (I:Inv X pq σ H s) (h:SqL X.K H a xs) (h':SqL X.K H a ys):xs=ys:=by
 obtain ⟨its,r,⟨o,n,e,_,_,d⟩,_⟩:=I.list h;obtain ⟨its',r',⟨o',n',e',_,_,d'⟩,_⟩:=I.list h';rw [e] at e';cases e';rw [d] at d';injection d' with d1 _;have:its=its':=by simpa using congrArg wj d1
 subst this;exact r.inj r'
def Inv.tuple_inj (I:Inv X pq σ H s) (h:SqT X.K H a xs) (h':SqT X.K H a ys):xs=ys:=by
 obtain ⟨its,r,⟨o,e,_,n,d⟩,_⟩:=I.tuple h;obtain ⟨its',r',⟨o',e',_,n',d'⟩,_⟩:=I.tuple h';rw [e] at e';cases e';rw [d] at d';injection d' with d1 _;have:its=its':=by simpa using congrArg wj d1
 subst this;exact r.inj r'
end
abbrev Cx.wish (X:Cx) (E:T0a):Cx:={ X with xe:=E }
abbrev Cx.nox (X:Cx):Cx:=X.wish λ_ _=>False
theorem Cx.Ok.wish {X:Cx} (ok:X.Ok) (E:T0a):(X.wish E).Ok:=
 ⟨ok.mod,ok.kind,ok.glob,ok.blt,ok.above,ok.inj,ok.has,ok.cab,ok.hd,ok.frames,ok.stk,ok.exf,ok.bs,ok.bsz,ok.noex,ok.exfs,ok.funs,ok.frf⟩
theorem Cx.Ok.unwish (ok:(X.wish E).Ok):X.Ok:=
 ⟨ok.mod,ok.kind,ok.glob,ok.blt,ok.above,ok.inj,ok.has,ok.cab,ok.hd,ok.frames,ok.stk,ok.exf,ok.bs,ok.bsz,ok.noex,ok.exfs,ok.funs,ok.frf⟩
theorem Inv.wish (I:Inv X pq σ H s) (E:T0a):Inv (X.wish E) pq σ H s:=⟨I.ok.wish E,I.os,I.bare,I.base,I.loc,I.cell,I.free,I.freeC,I.pin,I.hok,I.len⟩
theorem Inv.unwish (I:Inv (X.wish E) pq σ H s):Inv X pq σ H s:=⟨I.ok.unwish,I.os,I.bare,I.base,I.loc,I.cell,I.free,I.freeC,I.pin,I.hok,I.len⟩
theorem SP.unwish {D:Ends} {f:Flow} {s':Shared} (h:SP (X.wish E) pq D f s'):SP X pq D f s':=by
 cases f with
 | next=>obtain ⟨σ',H',I,q⟩:=h;exact ⟨σ',H',I.unwish,q⟩
 | brk=>obtain ⟨σ',H',I,q⟩:=h;exact ⟨σ',H',I.unwish,q⟩
 | cont=>obtain ⟨σ',H',I,q⟩:=h;exact ⟨σ',H',I.unwish,q⟩
 | ret u=>obtain ⟨v,σ',H',I,r,q⟩:=h;exact ⟨v,σ',H',I.unwish,r,q⟩
theorem PSs.nox {st:List Stmt} {t:TS} (h:PSs X.nox st t):PSs X st t:=λpq s σ H D I hw=>
 yi (h pq s σ H D (I.wish _) hw) (λ_ _ q=>q.unwish) λ_ _ z=>jX z
variable {te:TE} {tc:TT}
section
variable {rest:List Stmt} {t u:TS}
def b9a:TS:=λD σ H=>D.nx σ H
def c0K (t u:TS):TS:=λD σ H=>t { D with nx:=u D } σ H
def b4r:PSs X [] b9a:=λ_ _ σ H _ I h=>QA ⟨σ,H,I,h⟩
def a1p (h1:PS X st t) (h2:PSs X rest u):PSs X (st::rest) (c0K t u):=by
 intro pq s σ H D I h;refine u7 (thn (h1 pq s σ H { D with nx:=u D } I h) λf s1 q=>?_);cases f with
 | next=>
  obtain ⟨σ',H',I',q⟩:=q;exact h2 pq s1 σ' H' D I' q
 | ret v=>exact q
 | brk=>exact q
 | cont=>exact q
def a4s (h1:PS X st t):PSs X [st] t:=by
 intro pq s σ H D I h;refine u7 (thn (h1 pq s σ H D I h) λf s1 q=>?_);cases f with
 | next=>exact QA q
 | ret v=>exact q
 | brk=>exact q
 | cont=>exact q
def b7a:TS:=λD σ H=>D.bk σ H
def b1w:PS X (.Break pos) b7a:=λ_ _ σ H _ I h=>wpAny_Break ⟨σ,H,I,h⟩
def Inv.quiet (I:Inv X pq σ H s):interactive X.env=false:=by simp [interactive,I.ok.kind]
def b9d (te:TE):TS:=λD σ H=>te σ H λ_ H1=>D.nx σ H1
def uP (he:PE X e te) (hs:wy e none pos.line X.env=pure false:=by rfl):PS X (.Expr e pos) (b9d te):=by
 intro pq s σ H D I h;exact wpAny_Expr_any (thn (he pq s σ H _ I h) λv s1 ⟨x,H1,I1,r1,q1⟩=>⟨σ,H1,I1,q1⟩) I.quiet hs
def c0L (te:TE):TS:=λD σ H=>te σ H D.rt
def b1v (he:PE X e te):PS X (.Return (some e) pos) (c0L te):=by
 intro pq s σ H D I h;exact wpAny_Return_some (thn (he pq s σ H _ I h) λv s1 ⟨x,H1,I1,r1,q1⟩=>⟨x,σ,H1,I1,r1,q1⟩)
def c0O (c:TT) (t u:TS):TS:=λD σ H=>c σ H λb H1=>if b=true then t D σ H1 else u D σ H1
def b9y {a b:List Stmt} (hc:PT X c tc) (ha:PSs X a t) (hb:PSs X b u):PS X (.If c a b pos) (c0O tc t u):=by
 intro pq s σ H D I h;refine wpAny_If (thn (hc pq s σ H _ I h) λd s1 ⟨H1,I1,q1⟩=>?_);cases d with
 | true=>exact ha pq s1 σ H1 D I1 q1
 | false=>exact hb pq s1 σ H1 D I1 q1
end
abbrev TG:=V->St->Hp->(St->Hp->Prop)->Prop
abbrev TGs:=List V->St->Hp->(St->Hp->Prop)->Prop
def PG (X:Cx) (target:Expr) (t:TG):Prop:=
 ∀ (pq:T0b) (s:Shared) (σ:St) (H:Hp) (v:V) (u:Value) (Q:St->Hp->Prop),Inv X pq σ H s->RelV v u->t v σ H Q ->
  wpAny (model X.prog X.w) X.A (assign target X.env u) (λ_ s'=>∃ σ' H',Inv X pq σ' H' s'/\Q σ' H') X.xe s
def PGs (X:Cx) (ts:T0n) (t:TGs):Prop:=
 ∀ (pq:T0b) (s:Shared) (σ:St) (H:Hp) (vs:List V) (us:T0m) (Q:St->Hp->Prop),Inv X pq σ H s->aU vs us->t vs σ H Q ->
  wpAny (model X.prog X.w) X.A (assignInOrder ((yn ts X.env).map (·.2)) us) (λ_ s'=>∃ σ' H',Inv X pq σ' H' s'/\Q σ' H') X.xe s
abbrev TIp:=V->V->Hp->VK->Prop
def PIp (X:Cx) (op:Operator) (t:TIp):Prop:=
 ∀ (pq:T0b) (s:Shared) (σ:St) (H:Hp) (x y:V) (v u:Value) (Q:VK),Inv X pq σ H s->RelV x v->RelV y u->t x y H Q ->
  wpAny (model X.prog X.w) X.A (inplaceOp op v u) (EP X pq σ Q) X.xe s
def b2N (i:Nat):TG:=λv σ H Q=>Q (σ.set i (some v)) H
def b4z {x:Str} (hN:X.N.Nodup) (hi:X.N[i]?=some x) (hx:Loc X.env.scope x) (hf:X.fn x=true\/X.env.scope.names.lookup x=some .local:=by first | exact .inl rfl | exact .inr rfl | assumption):PG X (.Name x pos) (b2N i):=by
 intro pq s σ H v u Q I r h;exact wpAny_assign_Name (a0X I hN hi hx r (λs' I'=>⟨_,H,I',h⟩) hf)
def c1D:TGs:=λvs σ H Q=>vs=[]/\Q σ H
def c0c (t:TG) (u:TGs):TGs:=λvs σ H Q=>∃ v r,vs=v::r/\t v σ H λσ' H'=>u r σ' H' Q
def b4x:PGs X [] c1D:=by
 intro pq s σ H vs us Q I r h;obtain ⟨e,h⟩:=h;subst e;cases r;exact assignInOrder_nil ⟨σ,H,I,h⟩
def b1D {e:Expr} {t:TG} {u:TGs} (h1:PG X e t) (h2:PGs X es u)
  (hs:(yn (e::es) X.env).map (·.2)=assign e X.env::(yn es X.env).map (·.2):=by rfl):PGs X (e::es) (c0c t u):=by
 intro pq s σ H vs us Q I r h;obtain ⟨v,vr,e1,h⟩:=h;subst e1;cases r with
 | cons r rr=>
  rw [hs];refine assignInOrder_cons (thn (h1 pq s σ H _ _ _ I r h) λ_ s1 ⟨σ1,H1,I1,q1⟩=>?_);exact h2 pq s1 σ1 H1 _ _ Q I1 rr q1
def c1C (K:qB) (n:Nat) (t:TGs):TG:=λv σ H Q=>∃ a xs,v=.ref a/\SqT K H a xs/\xs.length=n/\t xs σ H Q
def b7o {t:TGs} (hc:X.calm=true) (h:PGs X es t)
  (hn:(yn es X.env).length=n:=by rfl) (hst:(yn es X.env).findIdx? (·.1)=none:=by rfl):PG X (.Tuple es k pos) (c1C X.K n t):=by
 intro pq s σ H v u Q I r hw;obtain ⟨a,xs,e1,hq,hl,hw⟩:=hw;subst e1;cases r;obtain ⟨its,rv,ht,hz⟩:=I.tuple hq;refine assign_Tuple_tuple (I.ok.hd hc) ht (by simp [hn,<-hl,rv.length]) hst λh' hx=>?_;have I1:Inv X pq σ H { s with heap:=h' }:=I.kept (t':=s.toks) λb o e=>hx b o (qc (qN e)) e;exact h pq _ σ H xs _ Q I1 (by simpa using rv) hw
def b9f (te:TE) (g:TG):TS:=λD σ H=>te σ H λx H1=>g x σ H1 D.nx
def yB {x:Str} (hN:X.N.Nodup) (hi:X.N[i]?=some x) (hx:Loc X.env.scope x) (he:PE X e te) (hs:wy e (some (.Name x pos')) pos.line X.env=pure false:=by rfl) (hf:X.fn x=true\/X.env.scope.names.lookup x=some .local:=by first | exact .inl rfl | exact .inr rfl | assumption):
  PS X (.Assign [.Name x pos'] e pos) (b9f te (b2N i)):=by
 intro pq s σ H D I h;refine wpAny_Assign_Name (thn (he pq s σ H _ I h) λv s1 ⟨y,H1,I1,r1,q1⟩=>?_) hs;exact a0X I1 hN hi hx r1 (λs2 I2=>⟨_,H1,I2,q1⟩) hf
def c0T (i:Nat) (te:TE) (ti:TIp):TS:=λD σ H=>∃ x,σ[i]?=some (some x)/\te σ H λy H1=>ti x y H1 λz H2=>D.nx (σ.set i (some z)) H2
def b1x {x:Str} {op:Operator} {ti:TIp} (hN:X.N.Nodup) (hi:X.N[i]?=some x) (hx:Loc X.env.scope x) (he:PE X e te) (ho:PIp X op ti) (hf:X.fn x=true\/X.env.scope.names.lookup x=some .local:=by first | exact .inl rfl | exact .inr rfl | assumption):
  PS X (.AugAssign (.Name x pos') op e pos) (c0T i te ti):=by
 intro pq s σ H D I h;obtain ⟨v,e1,h⟩:=h;obtain ⟨m,hn,hl⟩:=I.loc;have vis:Vis X.env.scope x:=by rcases hx with k | k;exact .inl k;exact .inr (.inl k)
 obtain ⟨u,r,l⟩:=hl i x v hi e1 vis;refine wpAny_AugAssign_Name ?_;have go:wpAny (model X.prog X.w) X.A (eval e X.env) (λw s2z=>wpAny (model X.prog X.w) X.A (inplaceOp op u w) (λr s3z=>wpAny (model X.prog X.w) X.A (storeName X.env x r) (λ_=>SP X pq D .next) X.xe s3z) X.xe s2z) X.xe s:=by
  refine thn (he pq s σ H _ I h) λw s1 ⟨y,H1,I1,r1,q1⟩=>?_;refine thn (ho pq s1 σ H1 v y u w _ I1 r r1 q1) λz s2 ⟨zv,H2,I2,r2,q2⟩=>?_;exact a0X I2 hN hi hx r2 (λs3 I3=>⟨_,H2,I3,q2⟩) hf
 rcases l with ⟨hk,hm⟩ | ⟨hk,c,hc,hcell⟩
 ·exact wpAny_loadName_local I.ok.kind hk hn hm go
 ·rcases hk with hk | hk
  ·exact wpAny_loadName_cell I.ok.kind hk hc hcell go
  ·rcases hx with k | k
   ·have:X.env.scope.names.lookup x=some .free:=hk
    rw [k] at this;cases this
   ·have:X.env.scope.names.lookup x=some .free:=hk
    rw [k] at this;cases this
def ipI (f:Int->Int->Int):TIp:=λx y H Q=>∃ i j,x=.int i/\y=.int j/\Q (.int (f i j)) H
def b8k:PIp X .Add (ipI λi j=>i+j):=by
 intro pq s σ H x y v u Q I r1 r2 h;obtain ⟨i,j,e1,e2,q⟩:=h;subst e1;subst e2;obtain ⟨t,rfl⟩:=r1;obtain ⟨t',rfl⟩:=r2;exact iadd_int ⟨.int _,H,I.tok _,⟨_,rfl⟩,q⟩
def b8j:PIp X .Sub (ipI λi j=>i - j):=by
 intro pq s σ H x y v u Q I r1 r2 h;obtain ⟨i,j,e1,e2,q⟩:=h;subst e1;subst e2;obtain ⟨t,rfl⟩:=r1;obtain ⟨t',rfl⟩:=r2;exact isub_int ⟨.int _,H,I.tok _,⟨_,rfl⟩,q⟩
def b6V (c:TT) (tb:TS):TS:=λD σ H=>∃ W:Nat->St->Hp->Prop,(∃ m,W m σ H)/\∀ m σ H,W m σ H ->
 c σ H λb H1=>if b=true then ∃ N:St->Hp->Prop,(∀ σ' H',N σ' H'->∃ m',m'<m/\W m' σ' H')/\tb { D with nx:=N,ct:=N,bk:=D.nx } σ H1 else D.nx σ H1
def b1u {tb:TS} (hp:PassesOwn (model X.prog X.w) X.A X.env X.xe) (hc:PT X c tc) (hb:PSs X body tb):PS X (.While c body [] pos) (b6V tc tb):=by
 intro pq s σ H D I h;obtain ⟨W,⟨m0,w0⟩,turn⟩:=h;refine wpAny_While (codeAny_whileLoop (λn s'=>∃ σ' H',Inv X pq σ' H' s'/\W n σ' H') ?_ m0 ⟨σ,H,I,w0⟩);rintro n s1 ⟨σ1,H1,I1,w1⟩;refine yx hp (thn (hc pq s1 σ1 H1 _ I1 (turn n σ1 H1 w1)) λb s2 ⟨H2,I2,q2⟩=>?_);cases b with
 | true=>
  obtain ⟨N,hN,q2⟩:=q2;rw [if_pos rfl];refine yx hp (thn (hb pq s2 σ1 H2 _ I2 q2) λf s3 q3=>?_);cases f with
  | next=>
   obtain ⟨σ3,H3,I3,n3⟩:=q3;obtain ⟨m',hm,w3⟩:=hN σ3 H3 n3;exact ⟨m',hm,σ3,H3,I3,w3⟩
  | cont=>
   obtain ⟨σ3,H3,I3,n3⟩:=q3;obtain ⟨m',hm,w3⟩:=hN σ3 H3 n3;exact ⟨m',hm,σ3,H3,I3,w3⟩
  | brk=>exact q3
  | ret v=>exact q3
 | false=>
  rw [if_neg qe];exact QA ⟨σ1,H2,I2,q2⟩
structure It where
 go:Nat->Hp->Prop
 yld:Nat->Hp->V->Hp->Prop
 stop:Nat->Hp->Prop
def xM (X:Cx) (pq:T0b) (H:Hp) (b:Addr):Prop:=
 H b=none/\b≠X.env.locals/\b∉X.fs/\(b∈X.ex\/X.s₀.heap.objs.size<=b)/\(∀ x c,X.env.cells.lookup x=some c->c≠b)/\∀ p∈X.pn++pq,p.1≠b
theorem Inv.fpOk (I:Inv X pq σ H s) (hb:s.heap.objs.size<=b) (hn:H' b=none):xM X pq H' b:=by
 refine ⟨hn,jS (qa I.lt hb),I.nofs hb,.inr (qk I.sz hb),λx c e z=>?_,λp hp z=>?_⟩
 ·obtain ⟨v,q⟩:=I.cell x c e
  exact absurd (qa q.lt (by rw [z];exact hb)) (ji _)
 ·exact absurd (qa (qN (I.pin p hp).1) (by rw [z];exact hb)) (ji _)
structure Turn (P:Program) (w:World) (K:qB) (tg:Expr) (J:It) (fp:T0o) (it:Addr) (tn:Nat->Heap->Prop):Prop where
 mem:it∈fp
 obj:∀ i h,tn i h->∀ b∈fp,∃ o,h.get? b=some o/\∀ v,o.data≠.cell v
 keep:∀ i h h',tn i h->(∀ b∈fp,∀ o,h.get? b=some o->h'.get? b=some o)->tn i h'
 item:∀ (X:Cx),X.prog=P->X.w=w->X.K=K->X.calm=true->∀ (i:Nat) (pq:T0b) (s:Shared) (σ:St) (H:Hp) (E:T0a),Inv X pq σ H s->(∀ b∈fp,xM X pq H b)->tn i s.heap->J.go i H ->
  wpAny (model P w) X.A (yq (.ref it)) (λr s1=>∃ u,r=some u /\
   wpAny (model P w) X.A (letOwnedTupleGo tg (.ref it) u) (λ_ s2=>∃ x H',Inv X pq σ H' s2/\RelV x u/\J.yld i H x H'/\tn (i+1) s2.heap/\∀ b∈fp,H' b=none) E s1) E s
 done:∀ (X:Cx),X.prog=P->X.w=w->X.K=K->X.calm=true->∀ (i:Nat) (pq:T0b) (s:Shared) (σ:St) (H:Hp) (E:T0a),Inv X pq σ H s->(∀ b∈fp,xM X pq H b)->tn i s.heap->J.stop i H ->
  wpAny (model P w) X.A (yq (.ref it)) (λr s1=>r=none/\Inv X pq σ H s1) E s
 self:∀ (A:Around) (i:Nat) (s:Shared) (Q:T0a) (E:T0a),tn i s.heap->Q (.ref it) s->wpAny (model P w) A (pyIter (.ref it)) Q E s
abbrev TI:=St->Hp->(It->Hp->Prop)->Prop
def PIE (X:Cx) (pq:T0b) (σ:St) (tg:Expr) (R:It->Hp->Prop) (itv:Value) (s2:Shared):Prop:=
 ∃ (it:Addr) (fp:T0o) (tn:Nat->Heap->Prop) (J:It) (H':Hp),itv=.ref it/\Inv X pq σ H' s2/\Turn X.prog X.w X.K tg J fp it tn/\tn 0 s2.heap/\(∀ b∈fp,xM X pq H' b)/\R J H'
def PI (X:Cx) (tg iter:Expr) (wi:TI):Prop:=
 ∀ (pq:T0b) (s:Shared) (σ:St) (H:Hp) (R:It->Hp->Prop),Inv X pq σ H s->wi σ H R ->
  wpAny (model X.prog X.w) X.A (eval iter X.env) (λv s1=>wpAny (model X.prog X.w) X.A (pyIter v) (PIE X pq σ tg R) X.xe s1) X.xe s
def a8L {o:Obj} {n:String} {vs:Array Value} {Q:Unit->Shared->Prop} (ho:s.heap.get? it=some o) (hc:o.cls=.type n) (hd:o.data=.fields vs)
  (hn:["enumerate", "zip", "dict_itemiterator", "dict_reverseitemiterator", "odict_iterator", "itertools.zip_longest", "itertools.pairwise"].contains n=false) (hQ:Q () s):wpAny M A (letOwnedTupleGo tg (.ref it) u) Q E s:=by
 unfold letOwnedTupleGo;cases tg<;>first
  | exact j3 hQ
  | (cases u<;>first
    | exact j3 hQ
    | (refine q8 (wpAny_load ho ?_);rw [hc,hd];show wpAny M A (if (["enumerate", "zip", "dict_itemiterator", "dict_reverseitemiterator", "odict_iterator", "itertools.zip_longest", "itertools.pairwise"].contains n&&vs[0]?==some (v7 _))=true then _ else _) Q E s;rw [if_neg (by intro h;rw [hn,Bool.false_and] at h;cases h)];exact j3 hQ))
def Itl (K:qB) (a:Addr):It:=
 ⟨λi H=>∃ xs x,SqL K H a xs/\xs[i]?=some x,λi H x H'=>H'=H/\∀ xs,SqL K H a xs->xs[i]?=some x,λi H=>∃ xs,SqL K H a xs/\xs.length<=i⟩
def Itt (K:qB) (a:Addr):It:=
 ⟨λi H=>∃ xs x,SqT K H a xs/\xs[i]?=some x,λi H x H'=>H'=H/\∀ xs,SqT K H a xs->xs[i]?=some x,λi H=>∃ xs,SqT K H a xs/\xs.length<=i⟩
def Itr (lo:Int) (n:Nat):It:=⟨λi _=>i<n,λi H x H'=>H'=H/\x=.int (lo+i),λi _=>n<=i⟩
def a9h {K:qB} (a it:Addr):Turn P w K tg (Itl K a) [it] it (λi h=>h.IsListIter it a i) where
 mem:=by simp
 obj:=λi h st b hb=>by
  have e:b=it:=by simpa using hb
  subst e;obtain ⟨o,e,c,d⟩:=st;exact ⟨o,e,λv z=>by rw [d] at z;cases z⟩
 keep:=λi h h' st k=>st.at λo e=>k it (by simp) o e
 item:=by
  intro X hP hw hK hc i pq s σ H E I hf st hg;subst hP hw hK;obtain ⟨xs,x,hq,hx⟩:=hg;obtain ⟨its,rv,p,hz⟩:=I.list hq;obtain ⟨u,hu,ru⟩:=rv.get hx;obtain ⟨f0,f1,f2,f3,f4,f5⟩:=hf it (by simp);refine wpAny_pyNext_list_item st p.isList (x:=u) (by simpa using hu) λh' st' sb=>?_;have I1:Inv X pq σ H { s with heap:=h' }:=I.turned (t':=s.toks) (λb o hb e=>(sb.2 b hb).trans e) f0 f1 f3 f4 f5;obtain ⟨o,e,c,d⟩:=id st';exact ⟨u,rfl,a8L (s:={ s with heap:=h' }) e c d (by decide) ⟨x,H,I1,ru,⟨rfl,λys hy=>by rw [I.list_inj hy hq];exact hx⟩,st',λb hb=>(hf b hb).1⟩⟩
 done:=by
  intro X hP hw hK hc i pq s σ H E I hf st hg;subst hP hw hK;obtain ⟨xs,hq,hx⟩:=hg;obtain ⟨its,rv,p,hz⟩:=I.list hq;obtain ⟨f0,f1,f2,f3,f4,f5⟩:=hf it (by simp);have hl:=rv.length;exact wpAny_pyNext_list_end (I.ok.hd hc) st p.isList (by simp;omega) λh' eb=>⟨rfl,I.turned (t':=s.toks) (λb o hb e=>eb b o hb e) f0 f1 f3 f4 f5⟩
 self:=λ_ _ _ _ _ st h=>wpAny_pyIter_listiter st h
def a6O {K:qB} (a it:Addr):Turn P w K tg (Itt K a) [it] it (λi h=>h.IsTupleIter it a i) where
 mem:=by simp
 obj:=λi h st b hb=>by
  have e:b=it:=by simpa using hb
  subst e;obtain ⟨o,e,c,d⟩:=st;exact ⟨o,e,λv z=>by rw [d] at z;cases z⟩
 keep:=λi h h' st k=>st.at λo e=>k it (by simp) o e
 item:=by
  intro X hP hw hK hc i pq s σ H E I hf st hg;subst hP hw hK;obtain ⟨xs,x,hq,hx⟩:=hg;obtain ⟨its,rv,p,hz⟩:=I.tuple hq;obtain ⟨u,hu,ru⟩:=rv.get hx;obtain ⟨f0,f1,f2,f3,f4,f5⟩:=hf it (by simp);refine wpAny_pyNext_tuple_item st (show s.heap.IsTuple a its.toArray from p) (x:=u) (by simpa using hu) λh' st' sb=>?_;have I1:Inv X pq σ H { s with heap:=h' }:=I.turned (t':=s.toks) (λb o hb e=>(sb.2 b hb).trans e) f0 f1 f3 f4 f5;obtain ⟨o,e,c,d⟩:=id st';exact ⟨u,rfl,a8L (s:={ s with heap:=h' }) e c d (by decide) ⟨x,H,I1,ru,⟨rfl,λys hy=>by rw [I.tuple_inj hy hq];exact hx⟩,st',λb hb=>(hf b hb).1⟩⟩
 done:=by
  intro X hP hw hK hc i pq s σ H E I hf st hg;subst hP hw hK;obtain ⟨xs,hq,hx⟩:=hg;obtain ⟨its,rv,p,hz⟩:=I.tuple hq;obtain ⟨f0,f1,f2,f3,f4,f5⟩:=hf it (by simp);have hl:=rv.length;exact wpAny_pyNext_tuple_end (I.ok.hd hc) st (show s.heap.IsTuple a its.toArray from p) (by simp;omega) λh' eb=>⟨rfl,I.turned (t':=s.toks) (λb o hb e=>eb b o hb e) f0 f1 f3 f4 f5⟩
 self:=λ_ _ _ _ _ st h=>wpAny_pyIter_tupleiter st h
def a6P {K:qB} (it:Addr) (lo:Int) (n:Nat):Turn P w K tg (Itr lo n) [it] it (λi h=>IsRangeIter h it (lo+(i:Nat)*1) ((n:Int) - (i:Nat)) 1) where
 mem:=by simp
 obj:=λi h st b hb=>by
  have e:b=it:=by simpa using hb
  subst e
  exact ⟨_,st,λv z=>by
   have z':Data.fields _=Data.cell v:=z
   cases z'⟩
 keep:=λi h h' st k=>k it (by simp) _ st
 item:=by
  intro X hP hw hK hc i pq s σ H E I hf st hg;subst hP hw hK;obtain ⟨f0,f1,f2,f3,f4,f5⟩:=hf it (by simp);have W:=Walks.range (prog:=X.prog) (w:=X.w) (I.ok.hd hc) it lo 1 n;refine W.item i s _ _ hg st λv h' tk hv st' kk=>?_;obtain ⟨t,rfl⟩:=hv;have I1:Inv X pq σ H { s with heap:=h',toks:=tk }:=I.turned (λb o hb e=>kk b o (by simpa using hb) e) f0 f1 f3 f4 f5;refine ⟨_,rfl,a8L (s:={ s with heap:=h',toks:=tk }) (n := "range_iterator") st' rfl rfl (by decide) ⟨.int (lo+i),H,I1,⟨t,?_⟩,⟨rfl,rfl⟩,st',λb hb=>(hf b hb).1⟩⟩;rw [Int.mul_one]
 done:=by
  intro X hP hw hK hc i pq s σ H E I hf st hg;subst hP hw hK;obtain ⟨f0,f1,f2,f3,f4,f5⟩:=hf it (by simp);exact wpAny_pyNext_range_end (I.ok.hd hc) st (by have:n<=i:=hg;omega) λh' eb=>⟨rfl,I.turned (t':=s.toks) (λb o hb e=>eb b o hb e) f0 f1 f3 f4 f5⟩
 self:=λ_ _ _ _ _ st h=>wpAny_pyIter_rangeiter st h
variable {l:Expr} {tl:TE}
def b9Z (K:qB) (tl:TE):TI:=λσ H R=>tl σ H λx H1=>∃ a,x=.ref a/\(∃ xs,SqL K H1 a xs)/\R (Itl K a) H1
def c1B (K:qB) (tl:TE):TI:=λσ H R=>tl σ H λx H1=>∃ a,x=.ref a/\(∃ xs,SqT K H1 a xs)/\R (Itt K a) H1
def a8k (hl:PE X l tl):PI X tg l (b9Z X.K tl):=by
 intro pq s σ H R I h;refine thn (hl pq s σ H _ I h) λv s1 ⟨x,H1,I1,r1,q1⟩=>?_;obtain ⟨a,e,⟨xs,hq⟩,q⟩:=q1;subst e;cases r1;obtain ⟨its,rv,p,hz⟩:=I1.list hq;refine ui p.isList ?_;refine ⟨s1.heap.objs.size,[s1.heap.objs.size],_,_,H1,rfl,I1.kept (t':=s1.toks) λb o e=>qC _ e,a9h a _,⟨_,qJ _ rfl,rfl,rfl⟩,λb hb=>?_,q⟩;have e:b=s1.heap.objs.size:=by simpa using hb
 subst e;exact I1.fpOk (qM _) (I1.hok.fresh (qM _))
def b7n (hl:PE X l tl):PI X tg l (c1B X.K tl):=by
 intro pq s σ H R I h;refine thn (hl pq s σ H _ I h) λv s1 ⟨x,H1,I1,r1,q1⟩=>?_;obtain ⟨a,e,⟨xs,hq⟩,q⟩:=q1;subst e;cases r1;obtain ⟨its,rv,p,hz⟩:=I1.tuple hq;refine uv (show s1.heap.IsTuple a its.toArray from p) ?_;refine ⟨s1.heap.objs.size,[s1.heap.objs.size],_,_,H1,rfl,I1.kept (t':=s1.toks) λb o e=>qC _ e,a6O a _,⟨_,qJ _ rfl,rfl,rfl⟩,λb hb=>?_,q⟩;have e:b=s1.heap.objs.size:=by simpa using hb
 subst e;exact I1.fpOk (qM _) (I1.hok.fresh (qM _))
def b1o {R:It->Hp->Prop} {lo hi:Int} {t u v:Tok} {tk:Nat} (I:Inv X pq σ H s) (h1:-(2 ^ 62)<=lo) (h2:lo<2 ^ 62) (h3:-(2 ^ 62)<=hi) (h4:hi<2 ^ 62)
  (q:R (Itr lo (hi - lo).toNat) H):wpAny (model X.prog X.w) X.A (pyIter (.ref s.heap.objs.size)) (PIE X pq σ tg R) E { s with heap:=s.heap.push { cls:=.type "range", data:=.fields #[.int lo t,.int hi u,.int 1 v] },toks:=tk }:=by
 refine wpAny_pyIter_range (IsRange.new ..) (small_one h1 h2 h3 h4) ?_;have I1:Inv X pq σ H { s with heap:=s.heap.push { cls:=.type "range", data:=.fields #[.int lo t,.int hi u,.int 1 v] },toks:=tk }:=I.kept λb o e=>qC _ e
 refine ⟨(s.heap.push { cls:=.type "range", data:=.fields #[.int lo t,.int hi u,.int 1 v] }).objs.size,[(s.heap.push { cls:=.type "range", data:=.fields #[.int lo t,.int hi u,.int 1 v] }).objs.size],_,_,H,rfl,
  I1.kept (t':=tk) λb o e=>qC _ e,a6P _ lo (hi - lo).toNat,?_,λb hb=>?_,q⟩
 ·have e1:lo+((0:Nat):Int)*1=lo:=by simp
  have e2:(((hi - lo).toNat:Nat):Int) - ((0:Nat):Int)=Builtin.Range.rangeSize lo hi 1:=by rw [rangeSize_one];split<;>omega
  show IsRangeIter _ _ (lo+((0:Nat):Int)*1) ((((hi - lo).toNat:Nat):Int) - ((0:Nat):Int)) 1;rw [e1,e2];exact qJ _ rfl
 ·have e:b=(s.heap.push { cls:=.type "range", data:=.fields #[.int lo t,.int hi u,.int 1 v] }).objs.size:=by simpa using hb
  subst e;exact I1.fpOk (qM _) (I1.hok.fresh (qM _))
def b9Y (ta:TA):TI:=λσ H R=>ta σ H λvs H1=>∃ j:Int,vs=[.int j]/\-(2 ^ 62)<=j/\j<2 ^ 62/\R (Itr 0 j.toNat) H1
def a9A {a:Expr} {ta:TA} (hg:Gl X "range") (hm:X.mg "range" = none) (ha:PA X [a] ta) (hs:j4 [a] X.env=[(false,eval a X.env)]:=by rfl):PI X tg (.Call (.Name "range" p) [a] [] pos) (b9Y ta):=by
 intro pq s σ H R I h;refine Call_ (iV I hg hm boot_range (jq (thn (ha pos pq s σ H _ I h) λus s1 ⟨vs,H1,I1,r1,q1⟩=>?_) hs rfl));obtain ⟨j,e,q1,q2,q⟩:=q1;subst e;cases r1 with
 | cons r rr=>
  cases rr;obtain ⟨t,rfl⟩:=r;exact call_range_1 (b1o I1 (by omega) (by omega) q1 q2 (by simpa using q))
def c0Q (wi:TI) (g:TG) (tb:TS):TS:=λD σ H=>wi σ H λJ H1=>∃ W:Nat->Nat->St->Hp->Prop,(∃ m,W 0 m σ H1)/\∀ i m σ H,W i m σ H ->
 (J.stop i H/\D.nx σ H)\/(J.go i H/\∃ N:St->Hp->Prop,(∀ σ' H',N σ' H'->∃ m',m'<m/\W (i+1) m' σ' H')/\∀ x H',J.yld i H x H'->g x σ H' λσ2 H2=>tb { D with nx:=N,ct:=N,bk:=D.nx } σ2 H2)
def a1r (fp:T0o) (h:Heap):List (Addr×Obj):=fp.filterMap λb=>(h.get? b).map λo=>(b,o)
def oV {h:Heap} {o:Obj} (hb:b∈fp) (e:h.get? b=some o):(b,o)∈a1r fp h:=List.mem_filterMap.mpr ⟨b,hb,by rw [e];rfl⟩
def a9D {h:Heap} {p:Addr×Obj} (hp:p∈a1r fp h):p.1∈fp/\h.get? p.1=some p.2:=by
 obtain ⟨b,hb,e⟩:=List.mem_filterMap.mp hp;cases q:h.get? b with
 | none=>rw [q] at e;cases e
 | some o=>
  rw [q] at e;have e':(b,o)=p:=qA e;subst e';exact ⟨hb,q⟩
def Inv.pinned (I:Inv X pq σ H s) (hf:∀ b∈fp,xM X pq H b) (ho:∀ b∈fp,∃ o,s.heap.get? b=some o/\∀ v,o.data≠.cell v):Inv X (pq++a1r fp s.heap) σ H s:=
 I.pins_of λp hp=>(qg.mp hp).elim (λz=>I.pin p (qu _ z)) λz=>by
  obtain ⟨hb,e⟩:=a9D z;obtain ⟨f0,f1,f2,_⟩:=hf p.1 hb;obtain ⟨o,e',d⟩:=ho p.1 hb;rw [e] at e';cases e';exact ⟨e,f0,f1,f2,d⟩
def Inv.unpinned {pl:T0b} (I:Inv X (pq++pl) σ H s):Inv X pq σ H s:=I.pins_of λp hp=>I.pin p (qu _ (jA _ hp))
def b7l {wi:TI} {g:TG} {tb:TS} (hp:PassesOwn (model X.prog X.w) X.A X.env X.xe) (hc:X.calm=true) (hi:PI X tg iter wi) (hg:PG X tg g) (hb:PSs X body tb)
  (hs:∀ x,w5 iter X.env x=pure x:=by intro _;rfl):PS X (.For tg iter body [] pos) (c0Q wi g tb):=by
 intro pq s σ H D I h;refine wpAny_For (thn (hi pq s σ H _ I h) λv s1 h1=>thn h1 λitv s2 h2=>?_) hs;obtain ⟨it,fp,tn,J,H2,e,I2,T,st2,f2,W,⟨m0,w0⟩,turn⟩:=h2;subst e
 -- what stays true of the iterator's objects through the loop
 have stat:∀ {H':Hp},(∀ b∈fp,H' b=none)->∀ b∈fp,xM X pq H' b:=λhn b hb=>⟨hn b hb,(f2 b hb).2⟩;refine codeAny_forLoop_any (λn s'=>∃ i σ' H',Inv X pq σ' H' s'/\tn i s'.heap/\(∀ b∈fp,H' b=none)/\W i n σ' H') ?_ m0 ⟨0,σ,H2,I2,st2,λb hb=>(f2 b hb).1,w0⟩;rintro n s3 ⟨i,σ3,H3,I3,st3,fr3,w3⟩;rcases turn i n σ3 H3 w3 with ⟨stop,qn⟩ | ⟨go,N,hN,step⟩
 ·refine yx hp (thn (T.done X rfl rfl rfl hc i pq s3 σ3 H3 X.xe I3 (stat fr3) st3 stop) λr s4 ⟨hr,I4⟩=>?_)
  subst hr;exact QA ⟨σ3,H3,I4,qn⟩
 ·refine yx hp (thn (T.item X rfl rfl rfl hc i pq s3 σ3 H3 X.xe I3 (stat fr3) st3 go) λr s4 ⟨u,hr,h4⟩=>?_)
  subst hr;refine yx hp (thn h4 λ_ s5 ⟨x,H5,I5,r5,y5,st5,fr5⟩=>?_);have I5':=I5.pinned (stat fr5) (T.obj _ _ st5);refine yx hp (thn (hg _ s5 σ3 H5 x u _ I5' r5 (step x H5 y5)) λ_ s6 ⟨σ6,H6,I6,q6⟩=>?_);refine yx hp (thn (hb _ s6 σ6 H6 _ I6 q6) λf s7 q7=>?_);have again:∀ {σ7:St} {H7:Hp},Inv X (pq++a1r fp s5.heap) σ7 H7 s7->N σ7 H7->∃ m,m<n/\∃ i σ' H',Inv X pq σ' H' s7/\tn i s7.heap/\(∀ b∈fp,H' b=none)/\W i m σ' H':=λ{σ7 H7} I7 n7=>by
   obtain ⟨m',hm,w7⟩:=hN σ7 H7 n7;refine ⟨m',hm,i+1,σ7,H7,I7.unpinned,T.keep _ _ _ st5 λb hb o e=>(I7.pin (b,o) (qu _ (qu _ (oV hb e)))).1,λb hb=>?_,w7⟩;obtain ⟨o,e,d⟩:=T.obj _ _ st5 b hb;exact (I7.pin (b,o) (qu _ (qu _ (oV hb e)))).2.1
  cases f with
  | next=>obtain ⟨σ7,H7,I7,n7⟩:=q7;exact again I7 n7
  | cont=>obtain ⟨σ7,H7,I7,n7⟩:=q7;exact again I7 n7
  | brk=>obtain ⟨σ7,H7,I7,q7⟩:=q7;exact ⟨σ7,H7,I7.unpinned,q7⟩
  | ret v=>obtain ⟨x7,σ7,H7,I7,r7,q7⟩:=q7;exact ⟨x7,σ7,H7,I7.unpinned,r7,q7⟩
abbrev R2:=V->V->Hp->VK->Prop
def OpR (X:Cx) (f:Value->Value->Sem Value) (r:R2):Prop:=
 ∀ (pq:T0b) (s:Shared) (σ:St) (H:Hp) (x y:V) (v u:Value) (Q:VK),Inv X pq σ H s->RelV x v->RelV y u->r x y H Q ->
  wpAny (model X.prog X.w) X.A (f v u) (EP X pq σ Q) X.xe s
def UnR (X:Cx) (f:Value->Sem Value) (r:V->Hp->VK->Prop):Prop:=
 ∀ (pq:T0b) (s:Shared) (σ:St) (H:Hp) (x:V) (v:Value) (Q:VK),Inv X pq σ H s->RelV x v->r x H Q ->
  wpAny (model X.prog X.w) X.A (f v) (EP X pq σ Q) X.xe s
def lB (X:Cx) (f:Value) (r:List V->Hp->VK->Prop):Prop:=
 ∀ (pq:T0b) (s:Shared) (σ:St) (H:Hp) (xs:List V) (us:T0m) (Q:VK),Inv X pq σ H s->aU xs us->r xs H Q ->
  wpAny (model X.prog X.w) X.A (call f us) (EP X pq σ Q) X.xe s
def c1N (X:Cx) (r:V->Hp->(Bool->Hp->Prop)->Prop):Prop:=
 ∀ (pq:T0b) (s:Shared) (σ:St) (H:Hp) (x:V) (v:Value) (Q:Bool->Hp->Prop),Inv X pq σ H s->RelV x v->r x H Q ->
  wpAny (model X.prog X.w) X.A (truthy v) (TP X pq σ Q) X.xe s
def tOp (r:R2) (ta tb:TE):TE:=λσ H Q=>ta σ H λx H1=>tb σ H1 λy H2=>r x y H2 Q
def tUn (r:V->Hp->VK->Prop) (ta:TE):TE:=λσ H Q=>ta σ H λx H1=>r x H1 Q
def rI (C:Int->Int->Prop) (g:Int->Int->V):R2:=λx y H Q=>∃ i j,x=.int i/\y=.int j/\C i j/\Q (g i j) H
def rI0 (g:Int->Int->V):R2:=λx y H Q=>∃ i j,x=.int i/\y=.int j/\Q (g i j) H
def rU (g:Int->V):V->Hp->VK->Prop:=λx H Q=>∃ i,x=.int i/\Q (g i) H
variable {r:R2} {g:Int->Int->Int}
section
variable {a b:Expr} {tc:TE}
def b8N (ha:PE X a ta) (hb:PE X b tb) {R:V->V->Hp->Prop} (I:Inv X pq σ H s)
  (h:ta σ H λx H1=>tb σ H1 λy H2=>R x y H2) {f:Value->Value->Sem Value} 
  (hf:∀ v u s2 x y H2,Inv X pq σ H2 s2->RelV x v->RelV y u->R x y H2->wpAny (model X.prog X.w) X.A (f v u) Q X.xe s2):
  wpAny (model X.prog X.w) X.A (eval a X.env) (λv s1z=>wpAny (model X.prog X.w) X.A (eval b X.env) (λu s2z=>wpAny (model X.prog X.w) X.A (f v u) Q X.xe s2z) X.xe s1z) X.xe s:=by
 refine thn (ha pq s σ H _ I h) λv s1 ⟨x,H1,I1,r1,q1⟩=>?_;refine thn (hb pq s1 σ H1 _ I1 q1) λu s2 ⟨y,H2,I2,r2,q2⟩=>?_;exact hf v u s2 x y H2 I2 r1 r2 q2
def b9A {op:Operator} (ho:OpR X (uf op) r) (ha:PE X a ta) (hb:PE X b tb):PE X (.BinOp a op b pos) (tOp r ta tb):=by
 intro pq s σ H Q I h;exact wpAny_BinOp (b8N ha hb I h λv u s2 x y H2 I2 rx ry q=>ho pq s2 σ H2 x y v u Q I2 rx ry q)
def b6u {op:UnaryOp} {r:V->Hp->VK->Prop} (ho:UnR X (unaryOp op) r) (ha:PE X a ta):PE X (.UnaryOp op a pos) (tUn r ta):=by
 intro pq s σ H Q I h;exact UnaryOp_ (thn (ha pq s σ H _ I h) λv s1 ⟨x,H1,I1,r1,q1⟩=>ho pq s1 σ H1 x v Q I1 r1 q1)
def opI {f:Value->Value->Sem Value} {C:Int->Int->Prop} 
  (rule:∀ (i j:Int) (t u:Tok) (s:Shared) (Q:T0a) (E:T0a),C i j->Q (.int (g i j) s.toks) { s with toks:=s.toks+1 }->wpAny (model X.prog X.w) X.A (f (.int i t) (.int j u)) Q E s):
  OpR X f (rI C λi j=>.int (g i j)):=by
 intro pq s σ H x y v u Q I rx ry h;obtain ⟨i,j,rfl,rfl,hc,q⟩:=h;obtain ⟨t,rfl⟩:=rx;obtain ⟨t',rfl⟩:=ry;exact rule i j t t' s _ _ hc ⟨.int (g i j),H,I.tok _,⟨_,rfl⟩,q⟩
def c1j {f:Value->Value->Sem Value} 
  (rule:∀ (i j:Int) (t u:Tok) (s:Shared) (Q:T0a) (E:T0a),Q (.int (g i j) s.toks) { s with toks:=s.toks+1 }->wpAny (model X.prog X.w) X.A (f (.int i t) (.int j u)) Q E s):
  OpR X f (rI0 λi j=>.int (g i j)):=by
 intro pq s σ H x y v u Q I rx ry h;obtain ⟨i,j,rfl,rfl,q⟩:=h;obtain ⟨t,rfl⟩:=rx;obtain ⟨t',rfl⟩:=ry;exact rule i j t t' s _ _ ⟨.int (g i j),H,I.tok _,⟨_,rfl⟩,q⟩
def b4O {f:Value->Value->Sem Value} {g:Int->Int->Bool} 
  (rule:∀ (i j:Int) (t u:Tok) (s:Shared) (Q:T0a) (E:T0a),Q (.bool (g i j)) s->wpAny (model X.prog X.w) X.A (f (.int i t) (.int j u)) Q E s):
  OpR X f (rI0 λi j=>.bl (g i j)):=by
 intro pq s σ H x y v u Q I rx ry h;obtain ⟨i,j,rfl,rfl,q⟩:=h;obtain ⟨t,rfl⟩:=rx;obtain ⟨t',rfl⟩:=ry;exact rule i j t t' s _ _ ⟨.bl (g i j),H,I,rfl,q⟩
def c1R (i j:Int):Prop:=0<j/\j<1073741824
def b8V (i j:Int):Prop:=(-(2 ^ 64)<i/\i<2 ^ 64)\/(-(2 ^ 64)<j/\j<2 ^ 64)
theorem b8V.ok {i j:Int} (h:b8V i j):IntMulOk i j:=by
 rcases h with ⟨h1,h2⟩ | ⟨h1,h2⟩
 ·exact .of_left (intBits_le_64 h1 h2)
 ·exact .of_right (intBits_le_64 h1 h2)
def b7G:OpR X (uf .Add) (rI0 λi j=>.int (i+j)):=c1j λ_ _ _ _ _ _ _ q=>add_int q
def b7A:OpR X (uf .Mult) (rI b8V λi j=>.int (i*j)):=opI λ_ _ _ _ _ _ _ hc q=>mul_int q hc.ok
def b4K:OpR X (uf .FloorDiv) (rI c1R λi j=>.int (i / j)):=opI λi j _ _ _ _ _ hc q=>by
 have h1:(0:Int)<j:=hc.1;have h2:j<1073741824:=hc.2;exact floordiv_int (by omega) (by rw [Int.fdiv_eq_ediv_of_nonneg i (by omega)];exact q) (.inl (PyProof.noPylong_small (by omega)))
def b7B:OpR X (uf .Mod) (rI (λ_ j=>0<j) λi j=>.int (i % j)):=opI λi j _ _ _ _ _ hc q=>by
 have h1:(0:Int)<j:=hc;exact mod_int' (by omega) (by rw [Int.fmod_eq_emod_of_nonneg i (by omega)];exact q)
def unI {f:Value->Sem Value} {g:Int->Int} 
  (rule:∀ (i:Int) (t:Tok) (s:Shared) (Q:T0a) (E:T0a),Q (.int (g i) s.toks) { s with toks:=s.toks+1 }->wpAny (model X.prog X.w) X.A (f (.int i t)) Q E s):
  UnR X f (rU λi=>.int (g i)):=by
 intro pq s σ H x v Q I rx h;obtain ⟨i,rfl,q⟩:=h;obtain ⟨t,rfl⟩:=rx;exact rule i t s _ _ ⟨.int (g i),H,I.tok _,⟨_,rfl⟩,q⟩
def b0P:UnR X (unaryOp .USub) (rU λi=>.int (-i)):=unI λ_ _ _ _ _ q=>neg_int q
end
def b9i:V->V->Bool
 | .non,.non=>true | .non,.int _=>true | .int _,.non=>true | .non,.bl _=>true | .bl _,.non=>true | .non,.str _=>true | .str _,.non=>true
 | .int _,.int _=>true | .bl _,.bl _=>true | .str _,.str _=>true | .byt _,.byt _=>true
 | .int _,.str _=>true | .str _,.int _=>true | .bl _,.str _=>true | .str _,.bl _=>true
 | _,_=>false
def rEq:R2:=λx y H Q=>b9i x y=true/\Q (.bl (decide (x=y))) H
def rNe:R2:=λx y H Q=>b9i x y=true/\Q (.bl (!decide (x=y))) H
def a8Y {i j:Int}:decide (V.int i=V.int j)=(i==j):=by
 rw [zV];simp
def b3n {i j:Bool}:decide (V.bl i=V.bl j)=(i==j):=by
 rw [zV];simp
def a8X {i j:Str}:decide (V.str i=V.str j)=(i==j):=by
 rw [zV];simp
def a8Z {i j:Array UInt8}:decide (V.byt i=V.byt j)=(i.toList==j.toList):=by
 rw [zV];cases i;cases j;simp
section
variable {a b:Expr} {tc:TE}
def bH {Q:VK} {k k':Bool} (I:Inv X pq σ H s) (q:Q (.bl k) H) (e:k=k'):EP X pq σ Q (.bool k') s:=by
 subst e;exact ⟨.bl k,H,I,rfl,q⟩
def b1P:OpR X (ww .Eq) rEq:=by
 intro pq s σ H x y v u Q I rx ry h;obtain ⟨hs,q⟩:=h;cases x with
 | non=>
  cases rx;cases y with
  | non=>cases ry;exact PySem.EqNone.eq_none_none (bH I q (by simp))
  | bl j=>cases ry;exact PySem.EqNone.eq_none_bool (bH I q (by simp))
  | int j=>obtain ⟨t',rfl⟩:=ry;exact PySem.EqNone.eq_none_int (bH I q (by simp))
  | str j=>obtain ⟨t',rfl⟩:=ry;exact PySem.EqNone.eq_none_str (bH I q (by simp))
  | _=>exact absurd (show false=true from hs) qe
 | bl i=>
  cases rx;cases y with
  | non=>cases ry;exact PySem.EqNone.eq_bool_none (bH I q (by simp))
  | bl j=>cases ry;exact eq_bool (bH I q b3n)
  | str j=>obtain ⟨t',rfl⟩:=ry;exact PySem.EqMixed.eq_bool_str (bH I q (by simp))
  | _=>exact absurd (show false=true from hs) qe
 | int i=>
  obtain ⟨t,rfl⟩:=rx;cases y with
  | non=>cases ry;exact PySem.EqNone.eq_int_none (bH I q (by simp))
  | int j=>obtain ⟨t',rfl⟩:=ry;exact eq_int (bH I q a8Y)
  | str j=>obtain ⟨t',rfl⟩:=ry;exact PySem.EqMixed.eq_int_str (bH I q (by simp))
  | _=>exact absurd (show false=true from hs) qe
 | str i=>
  obtain ⟨t,rfl⟩:=rx;cases y with
  | non=>cases ry;exact PySem.EqNone.eq_str_none (bH I q (by simp))
  | bl j=>cases ry;exact PySem.EqMixed.eq_str_bool (bH I q (by simp))
  | int j=>obtain ⟨t',rfl⟩:=ry;exact PySem.EqMixed.eq_str_int (bH I q (by simp))
  | str j=>obtain ⟨t',rfl⟩:=ry;exact eq_str (bH I q a8X)
  | _=>exact absurd (show false=true from hs) qe
 | byt i=>
  obtain ⟨t,rfl⟩:=rx;cases y with
  | byt j=>obtain ⟨t',rfl⟩:=ry;exact PySem.W.eq_bytes (bH I q a8Z)
  | _=>exact absurd (show false=true from hs) qe
 | _=>cases y<;>exact absurd (show false=true from hs) qe
def b1O:OpR X (ww .NotEq) rNe:=by
 intro pq s σ H x y v u Q I rx ry h;obtain ⟨hs,q⟩:=h;cases x with
 | non=>
  cases rx;cases y with
  | non=>cases ry;exact PySem.EqNone.ne_none_none (bH I q (by simp))
  | bl j=>cases ry;exact PySem.EqNone.ne_none_bool (bH I q (by simp))
  | int j=>obtain ⟨t',rfl⟩:=ry;exact PySem.EqNone.ne_none_int (bH I q (by simp))
  | str j=>obtain ⟨t',rfl⟩:=ry;exact PySem.EqNone.ne_none_str (bH I q (by simp))
  | _=>exact absurd (show false=true from hs) qe
 | bl i=>
  cases rx;cases y with
  | non=>cases ry;exact PySem.EqNone.ne_bool_none (bH I q (by simp))
  | bl j=>cases ry;exact ne_bool (bH I q (congrArg not b3n))
  | str j=>obtain ⟨t',rfl⟩:=ry;exact PySem.EqMixed.ne_bool_str (bH I q (by simp))
  | _=>exact absurd (show false=true from hs) qe
 | int i=>
  obtain ⟨t,rfl⟩:=rx;cases y with
  | non=>cases ry;exact PySem.EqNone.ne_int_none (bH I q (by simp))
  | int j=>obtain ⟨t',rfl⟩:=ry;exact ne_int (bH I q (congrArg not a8Y))
  | str j=>obtain ⟨t',rfl⟩:=ry;exact PySem.EqMixed.ne_int_str (bH I q (by simp))
  | _=>exact absurd (show false=true from hs) qe
 | str i=>
  obtain ⟨t,rfl⟩:=rx;cases y with
  | non=>cases ry;exact PySem.EqNone.ne_str_none (bH I q (by simp))
  | bl j=>cases ry;exact PySem.EqMixed.ne_str_bool (bH I q (by simp))
  | int j=>obtain ⟨t',rfl⟩:=ry;exact PySem.EqMixed.ne_str_int (bH I q (by simp))
  | str j=>obtain ⟨t',rfl⟩:=ry;exact ne_str (bH I q (congrArg not a8X))
  | _=>exact absurd (show false=true from hs) qe
 | byt i=>
  obtain ⟨t,rfl⟩:=rx;cases y with
  | byt j=>obtain ⟨t',rfl⟩:=ry;exact PySem.W.ne_bytes (bH I q (congrArg not a8Z))
  | _=>exact absurd (show false=true from hs) qe
 | _=>cases y<;>exact absurd (show false=true from hs) qe
def b9E:OpR X (ww .Lt) (rI0 λi j=>.bl (decide (i<j))):=b4O λ_ _ _ _ _ _ _ q=>lt_int q
def b9F:OpR X (ww .LtE) (rI0 λi j=>.bl (decide (i<=j))):=b4O λ_ _ _ _ _ _ _ q=>le_int q
def b9G:OpR X (ww .Gt) (rI0 λi j=>.bl (decide (j<i))):=b4O λ_ _ _ _ _ _ _ q=>gt_int q
def b9H:OpR X (ww .GtE) (rI0 λi j=>.bl (decide (j<=i))):=b4O λ_ _ _ _ _ _ _ q=>ge_int q
def b7C:OpR X (ww .Is) (λx y H Q=>y=.non/\Q (.bl (decide (x=.non))) H):=by
 intro pq s σ H x y v u Q I rx ry h;obtain ⟨rfl,q⟩:=h;cases ry;refine is_none_gen (bH I q ?_);cases x<;>first
  | (cases rx;rfl)
  | (obtain ⟨t,rfl⟩:=rx;rfl)
def b4H:OpR X (ww .IsNot) (λx y H Q=>y=.non/\Q (.bl (!decide (x=.non))) H):=by
 intro pq s σ H x y v u Q I rx ry h;obtain ⟨rfl,q⟩:=h;cases ry;refine isnot_none_gen (bH I q ?_);cases x<;>first
  | (cases rx;rfl)
  | (obtain ⟨t,rfl⟩:=rx;rfl)
def b1S (b:Expr) (h:op≠.In:=by decide) (h2:op≠.NotIn:=by decide):yj op b=false:=by
 have e1:(op==CmpOp.In)=false:=by cases op<;>first | rfl | exact absurd rfl h
 have e2:(op==CmpOp.NotIn)=false:=by cases op<;>first | rfl | exact absurd rfl h2
 cases b<;>simp [yj,e1,e2]
def b4C (ho:OpR X (ww op) r) (ha:PE X a ta) (hb:PE X b tb) (hm:yj op b=false):PE X (.Compare a [op] [b] pos) (tOp r ta tb):=by
 intro pq s σ H Q I h;exact wpAny_Compare1 (b8N ha hb I h λv u s2 x y H2 I2 rx ry q=>ho pq s2 σ H2 x y v u Q I2 rx ry q) hm
def b6n (t:TE):TT:=λσ H Q=>t σ H λx H'=>∃ k,x=.bl k/\Q k H'
def b4q (ho:OpR X (ww op) r) (ha:PE X a ta) (hb:PE X b tb) (hm:yj op b=false):PT X (.Compare a [op] [b] pos) (b6n (tOp r ta tb)):=by
 intro pq s σ H Q I h
 refine wpAny_isTrue_Compare1 (thn (ha pq s σ H _ I h) λv s1 ⟨x,H1,I1,r1,q1⟩=>thn (hb pq s1 σ H1 _ I1 q1) λu s2 ⟨y,H2,I2,r2,q2⟩=>
  thn (ho pq s2 σ H2 x y v u _ I2 r1 r2 q2) λc s3 ⟨z,H3,I3,r3,k,e,q3⟩=>?_) hm
 subst e;cases r3;exact ym ⟨H3,I3,q3⟩
def b6Z (r r':R2) (ta tb tc:TE):TE:=λσ H Q=>ta σ H λx H1=>tb σ H1 λy H2=>r x y H2 λz H3=>∃ k,z=.bl k /\
 (if k=true then tc σ H3 λw' H4=>r' y w' H4 Q else Q (.bl false) H3)
def b1s {op':CmpOp} {r':R2} (ho:OpR X (ww op) r) (ho':OpR X (ww op') r') (ha:PE X a ta) (hb:PE X b tb) (hc:PE X c tc)
  (hm:lastMarks [op,op'] [b,c]=false:=by with_unfolding_all rfl):PT X (.Compare a [op,op'] [b,c] pos) (b6n (b6Z r r' ta tb tc)):=by
 intro pq s σ H Q I h
 refine isTrue_chain (thn (ha pq s σ H _ I h) λv s1 ⟨x,H1,I1,r1,q1⟩=>test_link (thn (hb pq s1 σ H1 _ I1 q1) λu s2 ⟨y,H2,I2,r2,q2⟩=>
  thn (ho pq s2 σ H2 x y v u _ I2 r1 r2 q2) λd s3 ⟨z,H3,I3,r3,k,e,q3⟩=>?_)) hm
 subst e;cases r3;refine ym ?_;cases k with
 | false=>
  obtain ⟨k',e',q'⟩:=q3;cases e';exact ite_ff ⟨H3,I3,q'⟩
 | true=>
  refine ite_tt (test_last (thn (hc pq s3 σ H3 _ I3 q3) λw' s4 ⟨z',H4,I4,r4,q4⟩=>thn (ho' pq s4 σ H4 y z' u w' _ I4 r2 r4 q4) λd' s5 ⟨z2,H5,I5,r5,k2,e2,q5⟩=>?_));subst e2;cases r5;exact ym ⟨H5,I5,q5⟩
def b8S (K:qB) (x:V) (H:Hp) (k:Bool):Prop:=
 match x with
 | .non=>k=false
 | .bl b=>k=b
 | .int i=>k=(i != 0)
 | .str y=>y.length<=j5/\k=((y.length:Int) != 0)
 | .byt y=>y.size<=j5/\k=((y.size:Int) != 0)
 | .ref p=>(∃ xs,SqL K H p xs/\k=!xs.isEmpty)\/(∃ xs,SqT K H p xs/\k=!xs.isEmpty)\/∃ kvs,H p=some (.dK kvs)/\k=!kvs.isEmpty
 | _=>False
def a7w {κ:Type} {kvs:List (κ×V)} {vs:List (κ×Value)} (r:KV kvs vs):(!vs.isEmpty)=!kvs.isEmpty:=by
 cases r<;>rfl
def a1Q (r:aU xs its):(!its.toArray.isEmpty)=!xs.isEmpty:=by
 cases r<;>simp
def yI:(j5:Nat)<2 ^ 63:=by rw [yt];decide
def b6Q:c1N X (λx H Q=>∃ k,b8S X.K x H k/\Q k H):=by
 intro pq s σ H x v Q I rx h;obtain ⟨k,e,q⟩:=h;have hl:=yI;have hs:j5=16777216:=yt;cases x with
 | non=>
  cases rx;have e':k=false:=e;subst e';exact truthy_none ⟨H,I,q⟩
 | bl b=>
  cases rx;have e':k=b:=e;subst e';exact ym ⟨H,I,q⟩
 | int i=>
  obtain ⟨t,rfl⟩:=rx;have e':k=(i != 0):=e;subst e';exact PySem.P.truthy_int ⟨H,I,q⟩
 | str y=>
  obtain ⟨t,rfl⟩:=rx;obtain ⟨hy,e'⟩:y.length<=j5/\k=((y.length:Int) != 0):=e;subst e';exact PySem.P.truthy_str (by omega) ⟨H,I.tok _,q⟩
 | byt y=>
  obtain ⟨t,rfl⟩:=rx;obtain ⟨hy,e'⟩:y.size<=j5/\k=((y.size:Int) != 0):=e;subst e';exact PySem.W.truthy_bytes (by omega) ⟨H,I.tok _,q⟩
 | ref p=>
  cases rx;have e':(∃ xs,SqL X.K H p xs/\k=!xs.isEmpty)\/(∃ xs,SqT X.K H p xs/\k=!xs.isEmpty)\/∃ kvs,H p=some (.dK kvs)/\k=!kvs.isEmpty:=e;rcases e' with ⟨xs,hx,e'⟩ | ⟨xs,hx,e'⟩ | ⟨kvs,hx,e'⟩
  ·subst e'
   obtain ⟨its,r,pl,hz⟩:=I.list hx;have hlen:=r.length;exact wpAny_truthy_list pl.isList (by simp only [qP];omega) ⟨H,I.tok _,by rw [a1Q r];exact q⟩
  ·subst e'
   obtain ⟨its,r,pl,hz⟩:=I.tuple hx;have hlen:=r.length;exact truthy_tuple pl (by simp only [qP];omega) ⟨H,I.tok _,by rw [a1Q r];exact q⟩
  ·subst e'
   obtain ⟨hz,hS,vs,r,m⟩:kvs.length<=j5/\(p==yf)=false/\∃ vs,KV kvs vs/\s.heap.DictOf (bK X.prog X.w) p vs:=I.hok p _ hx;have hlen:kvs.length=vs.length:=wB r;exact wpAny_truthy_dict hS m (by omega) ⟨H,I.tok _,by rw [a7w r];exact q⟩
 | _=>exact (show False from e).elim
def a5x (ha:PE X a ta) (he:∀ whole,isTrue a X.env whole=(do let v <-whole;Qg a.pos;holding [v] (truthy v))):
  PT X a (λσ H Q=>ta σ H λx H'=>∃ k,b8S X.K x H' k/\Q k H'):=by
 intro pq s σ H Q I h;exact isTrue_plain (thn (ha pq s σ H _ I h) λv s1 ⟨x,H1,I1,r1,q1⟩=>b6Q pq s1 σ H1 x v Q I1 r1 q1) (he _)
def a7k:OpR X (uf .Add) (λx y H Q=>∃ i j,x=.str i/\y=.str j/\i.length+j.length<=j5/\Q (.str (i++j)) H):=by
 intro pq s σ H x y v u Q I rx ry h;obtain ⟨i,j,rfl,rfl,hz,q⟩:=h;obtain ⟨t,rfl⟩:=rx;obtain ⟨t',rfl⟩:=ry;exact add_str (λt' tk=>⟨.str (i++j),H,I.tok _,⟨_,rfl⟩,q⟩) hz
def vals1 {x:V} (r:aU [x] us):∃ u,us=[u]/\RelV x u:=by
 cases r with
 | cons r1 r2=>cases r2;exact ⟨_,rfl,r1⟩
def vals2 {x:V} (r:aU [x,y] us):∃ u w',us=[u,w']/\RelV x u/\RelV y w':=by
 cases r with
 | cons r1 r2=>
  cases r2 with
  | cons r3 r4=>cases r4;exact ⟨_,_,rfl,r1,r3⟩
def b0q (hc:X.calm=true):lB X (.builtin "max") (λxs H Q=>∃ i j,xs=[.int i,.int j]/\Q (.int (if j > i then j else i)) H):=by
 intro pq s σ H xs us Q I r h;obtain ⟨i,j,rfl,q⟩:=h;obtain ⟨u,w',rfl,⟨t,rfl⟩,⟨t',rfl⟩⟩:=vals2 r;refine max_two_ints (I.ok.hd hc) λh' tk k=>⟨_,H,I.kept k,?_,q⟩;by_cases hj:j > i
 ·rw [if_pos hj,if_pos hj];exact ⟨_,rfl⟩
 ·rw [if_neg hj,if_neg hj];exact ⟨_,rfl⟩
def b0o (hc:X.calm=true):lB X (.builtin "min") (λxs H Q=>∃ i j,xs=[.int i,.int j]/\Q (.int (if j<i then j else i)) H):=by
 intro pq s σ H xs us Q I r h;obtain ⟨i,j,rfl,q⟩:=h;obtain ⟨u,w',rfl,⟨t,rfl⟩,⟨t',rfl⟩⟩:=vals2 r;refine min_two_ints (I.ok.hd hc) λh' tk k=>⟨_,H,I.kept k,?_,q⟩;by_cases hj:j<i
 ·rw [if_pos hj,if_pos hj];exact ⟨_,rfl⟩
 ·rw [if_neg hj,if_neg hj];exact ⟨_,rfl⟩
end
structure ObjM (h:Heap) (x dx C:Addr) (mA:T0d):Prop where
 obj:h.get? x=some (kY C dx)
 ns:h.Ns1 dx mA
 ne:dx≠x
def a9L {h:Heap} (n:h.Ns1 dx mA):∃ od,h.get? dx=some od/\∀ name,wE name od=some (mA name):=by
 obtain ⟨o,es,ep,ho,hd,hk,_,hm⟩:=n;refine ⟨o,ho,λname=>?_⟩;have e:=hm name;unfold nsFind findBy at e;rw [<-Array.find?_toList] at e;unfold wE;rw [hd];dsimp only;split
 ·rename_i y q
  rw [q] at e;exact congrArg some e
 ·rename_i q
  rw [q] at e;have a:es.toList.any (·.refKey)=false:=by
   rw [wV];intro y hy;obtain ⟨z,t,hkey⟩:=hk y (Array.mem_toList_iff.mp hy);simp [Qa.refKey,hkey]
  have a':¬es.toList.any (·.refKey)=true:=by rw [a];exact qe
  rw [if_neg a'];exact congrArg some e
theorem ObjM.look {h:Heap} {x:Addr} (I:ObjM h x dx C mA):∃ od,PySem.W.InstAt h x (kY C dx) C (some od)/\∀ name,wE name od=some (mA name):=
 let ⟨od,ho,hl⟩:=a9L I.ns
 ⟨od,⟨I.obj,rfl,rfl,ho⟩,hl⟩
variable {f:Addr}
section
variable {K:qB} {x:Addr} {v:Value}
def b5x {expr:Bool} (X:K.In s.heap) (I:ObjM s.heap x dx C mA) (hg:zn K C name=true) (hh:vO K C=true)
  (ha:jL K (.ref C) name=some none) (hv:mA name=some v) (hv':PySem.W.handedIn v=true) (h:Q v { s with toks:=s.toks+1 }):
  wpAny (model prog w) A (getAttr (.ref x) name expr) Q E s:=by
 obtain ⟨od,J,hl⟩:=I.look;exact PySem.W.get_value X J (wG hg).1 (PySem.W.findObj_own hh ha rfl (by rw [hl,hv])) hv' h
def b2K {pl:Sem Bool} {Q:Value×List Value->Shared->Prop} (X:K.In s.heap) (I:ObjM s.heap x dx C mA) (hg:zn K C name=true)
  (hf:jL K (.ref C) name=some (some (.ref f))) (ht:vo K (.ref f)=true) (hv:mA name=none) (h:Q (.ref f,[.ref x]) s):
  wpAny (model prog w) A (getMethod (.ref x) name pl) Q E s:=by
 obtain ⟨od,J,hl⟩:=I.look;exact PySem.W.method_fn X J (wG hg).1 (wG hg).2 hf (beq_iff_eq.mp ht) (by show (wE name od).map (·.isSome)=some false;rw [hl,hv];rfl) h
def b4j {ns:T0q} {Q:Unit->Shared->Prop} (X:K.In s.heap) (I:ObjM s.heap x dx C mA)
  (hs:jL K (.ref C) "__setattr__" = some (some (.builtin "object.__setattr__"))) (hp:wR K C=true) (ht:PySem.W.takerIn K C name=some none) (hh:vO K C=true)
  (hw:PySem.Within mA ns) (hsz:ns.length<=j5)
  (h:∀ h',ObjM h' x dx C (λy=>if y=name then some v else mA y)->kj dx s.heap h'->Q () { s with heap:=h',toks:=s.toks+2 }):
  wpAny (model prog w) A (setAttr (.ref x) name v) Q E s:=by
 obtain ⟨od,J,hl⟩:=I.look;refine PySem.W.set_plain X J hs (PySem.W.osa_open (s:={ s with toks:=s.toks+1 }) (r:=none) X J hp ht λb=>?_);obtain ⟨cd,hc,hd'⟩:=PySem.W.any_some hh;have hx:s.heap.get? x=some ⟨.ref C,some dx,.plain,#[]⟩:=I.obj;refine q8 (j3 (q8 (q8 (wpAny_loadPart hx (q8 (PySem.W.Looks.here (s:={ s with toks:=s.toks+1 }) (PySem.W.looks_clsIn X hc) ?_))))));rw [hd'];refine j3 (a:=some dx) (q8 (j3 (q8 ?_)));refine wpAny_nsSet1 (s:={ s with toks:=s.toks+1 }) I.ns λh' hn2 hs2=>?_;obtain ⟨oD,esD,epD,hoD,hdD,hcD⟩:=hn2.count (PySem.Within.cons name v hw);refine q8 (wpAny_lookBehind hoD (by rw [hdD];exact pastItsLine_dict (qk hcD (by rw [qW];omega))) ?_);exact j3 (h _ ⟨(hs2.2 _ (jT I.ne)).trans I.obj,hn2,I.ne⟩ hs2)
def b2g {R:Result->Shared->Prop} {vs:T0m} (X:K.In s.heap) (hm:PySem.W.makesIn K C=true)
  (hi:jL K (.ref C) "__init__" = some (some (.ref f))) (hf:PySem.W.typeIn K (.ref f)=some (.type "function"))
  (h:ua (model prog w) (A.under (.builtin "type.__call__" ⟨.ref C::vs,kw⟩)) (.call (.ref f) ⟨.ref (s.heap.objs.size+1)::vs,kw⟩) (PySem.W.InitBack (s.heap.objs.size+1) R)
   { s with heap:=(s.heap.push jx).push (kY C s.heap.objs.size) }):
  ua (model prog w) A (.call (.ref C) ⟨vs,kw⟩) R s:=by
 obtain ⟨hh,g,d,t,os⟩:=s;exact PySem.W.make_core (PySem.W.makes_of X hm) (PySem.W.looks_findIn X hi) (λself=>PySem.W.bind_fn X self hf) (.inl rfl) h
end
def lN (f:Str) (v:V):List (Str×V)->List (Str×V)
 | []=>[(f,v)]
 | (g,x)::r=>if g=f then (g,v)::r else (g,x)::lN f v r
theorem a0t (f g:Str) (v:V):∀ fs:List (Str×V),(lN f v fs).lookup g=if g=f then some v else fs.lookup g
 | []=>by
  show zZ g [(f,v)]=_;by_cases h:g=f
  ·have hb:(g==f)=true:=beq_iff_eq.mpr h
   simp only [zZ,hb,if_pos h]
  ·have hb:(g==f)=false:=beq_eq_false_iff_ne.mpr h
   simp only [zZ,hb,if_neg h]
 | (k,x)::r=>by
  have ih:=a0t f g v r;rw [show lN f v ((k,x)::r)=(if k=f then (k,v)::r else (k,x)::lN f v r) from rfl];by_cases hk:k=f
  ·rw [if_pos hk]
   by_cases h:g=k
   ·have hb:(g==k)=true:=beq_iff_eq.mpr h
    simp only [zZ,hb,if_pos (h.trans hk)]
   ·have hb:(g==k)=false:=beq_eq_false_iff_ne.mpr h
    simp only [zZ,hb,if_neg (λe:g=f=>h (e.trans hk.symm))]
  ·rw [if_neg hk]
   by_cases h:g=k
   ·have hb:(g==k)=true:=beq_iff_eq.mpr h
    simp only [zZ,hb,if_neg (λe:g=f=>hk (h.symm.trans e))]
   ·have hb:(g==k)=false:=beq_eq_false_iff_ne.mpr h
    simp only [zZ,hb];exact ih
theorem yJ (f:Str) (v:V):∀ fs:List (Str×V),f∈(lN f v fs).map (·.1)/\∀ g,g∈fs.map (·.1)->g∈(lN f v fs).map (·.1)
 | []=>⟨by simp [lN],λg h=>by simp at h⟩
 | (k,x)::r=>by
  obtain ⟨i1,i2⟩:=yJ f v r;rw [show lN f v ((k,x)::r)=(if k=f then (k,v)::r else (k,x)::lN f v r) from rfl];by_cases hk:k=f
  ·rw [if_pos hk]
   subst hk;exact ⟨by simp,λg h=>by simpa using h⟩
  ·rw [if_neg hk]
   refine ⟨?_,λg h=>?_⟩
   ·rw [qK]
    exact qE _ i1
   ·rw [qK] at h ⊢
    rcases qI.mp h with e | e
    ·exact qI.mpr (.inl e)
    ·exact qE _ (i2 g e)
theorem a0u (f:Str) (v:V):∀ fs:List (Str×V),(lN f v fs).length<=fs.length+1
 | []=>by simp [lN]
 | (k,x)::r=>by
  have ih:=a0u f v r;rw [show lN f v ((k,x)::r)=(if k=f then (k,v)::r else (k,x)::lN f v r) from rfl];by_cases hk:k=f
  ·rw [if_pos hk,qW,qW];omega
  ·rw [if_neg hk,qW,qW];omega
def a0k.some_of {o:Option Value} (r:a0k (some v) o):∃ u,o=some u/\RelV v u:=by
 cases o with
 | none=>exact (show False from r).elim
 | some u=>exact ⟨u,rfl,r⟩
def a0k.none_of {o:Option Value} (r:a0k none o):o=none:=by
 cases o with
 | none=>rfl
 | some u=>exact (show False from r).elim
def a9X (r:RelV v u):PySem.W.handedIn u=true:=by
 cases v with
 | non=>cases (show u=jf from r);rfl
 | bl b=>cases (show u=zt b from r);rfl
 | int i=>obtain ⟨t,e⟩:=(show ∃ t,u=wL i t from r);cases e;rfl
 | str x=>obtain ⟨t,e⟩:=(show ∃ t,u=Value.str x t from r);cases e;rfl
 | byt b=>obtain ⟨t,e⟩:=(show ∃ t,u=Value.bytes b t from r);cases e;rfl
 | flt b=>obtain ⟨t,e⟩:=(show ∃ t,u=Value.float b t from r);cases e;rfl
 | ref a=>cases (show u=jU a from r);rfl
 | ty n=>cases (show u=zH n from r);rfl
section
variable {h:Heap} {fs fs':List (Str×V)}
def a4L (hok:HOk P w H h) (e:H a=some (.ins C dx fs)):∃ mA,ObjM h a dx C mA/\(∀ f,a0k (fs.lookup f) (mA f))/\PySem.Within mA (fs.map (·.1))/\fs.length<=1000/\H dx=some (.own a):=by
 obtain ⟨d,z,ne,ob,mA,n,r,q⟩:=(show cM P w H h a (.ins C dx fs) from hok a _ e);exact ⟨mA,⟨ob,n,ne⟩,r,q,z,d⟩
end
structure Cls (K:qB) (C:Addr):Prop where
 pg:zn K C Str.empty=true
 hd:vO K C=true
 po:wR K C=true
 sa:jL K (.ref C) "__setattr__" = some (some (.builtin "object.__setattr__"))
theorem Cls.get {K:qB} (c:Cls K C) (f:Str):zn K C f=true:=c.pg
def mG (K:qB) (C:Addr) (f:Str):Prop:=jL K (.ref C) f=some none
def mG.taker {K:qB} {f:Str} (n:mG K C f):PySem.W.takerIn K C f=some none:=by
 unfold PySem.W.takerIn;rw [show jL K (.ref C) f=some none from n];rfl
structure Meth (K:qB) (C:Addr) (m:Str) (f:Addr):Prop where
 at_:jL K (.ref C) m=some (some (.ref f))
 fn:vo K (.ref f)=true
 kp:jp K (.ref f)=true
section
variable {fs:List (Str×V)} {f:Str}
def a7B {b:Bool} (I:Inv X pq σ H s) (e:H a=some (.ins C dx fs)) (c:Cls X.K C) (n:mG X.K C f) (l:fs.lookup f=some v)
  (h:∀ u s',Inv X pq σ H s'->RelV v u->Q u s'):wpAny (model X.prog X.w) A (getAttr (.ref a) f b) Q E s:=by
 obtain ⟨mA,O,r,_,_,_⟩:=a4L I.hok e;obtain ⟨u,hu,ru⟩:=a0k.some_of (v:=v) (o:=mA f) (by rw [<-l];exact r f);exact b5x I.kIn O (c.get f) c.hd n hu (a9X ru) (h u _ (I.tok _) ru)
def a7A {m:Str} {g:Addr} {pl:Sem Bool} {Q:Value×List Value->Shared->Prop} (I:Inv X pq σ H s) (e:H a=some (.ins C dx fs)) (c:Cls X.K C) (k:Meth X.K C m g) (l:fs.lookup m=none)
  (h:Q (.ref g,[.ref a]) s):wpAny (model X.prog X.w) A (getMethod (.ref a) m pl) Q E s:=by
 obtain ⟨mA,O,r,_,_,_⟩:=a4L I.hok e;have hn:mA m=none:=a0k.none_of (by rw [<-l];exact r m);exact b2K I.kIn O (c.get m) k.at_ k.fn hn h
def a7b {Q:Unit->Shared->Prop} (I:Inv X pq σ H s) (e:H a=some (.ins C dx fs)) (c:Cls X.K C) (n:mG X.K C f) (hl:fs.length<1000) (ry:RelV y u)
  (h:∀ s',Inv X pq σ (upd H a (.ins C dx (lN f y fs))) s'->Q () s'):wpAny (model X.prog X.w) A (setAttr (.ref a) f u) Q E s:=by
 obtain ⟨mA,O,r,wi,_,ho⟩:=a4L I.hok e;have hz:(fs.map (·.1)).length<=j5:=by rw [qF,yt];omega
 refine b4j I.kIn O c.sa c.po n.taker c.hd wi hz λh' O' sb=>h _ ?_;have hd:∃ o,h'.get? dx=some o:=let ⟨o,_,_,e',_⟩:=O'.ns;⟨o,e'⟩
 refine I.write (x:=a) (e:=dx) (by rw [e];exact vN) (.inr ho) (λb q hb z=>(sb.2 b hb).trans z) hd ?_;refine ⟨by rw [aE O.ne];exact ho,?_,O.ne,O'.obj,_,O'.ns,λg=>?_,λg hg=>?_⟩
 ·have:=a0u f y fs;omega
 ·show a0k ((lN f y fs).lookup g) (if g=f then some u else mA g)
  rw [a0t];by_cases q:g=f
  ·rw [if_pos q,if_pos q];exact ry
  ·rw [if_neg q,if_neg q];exact r g
 ·by_cases q:g=f
  ·rw [q];exact (yJ f y fs).1
  ·refine (yJ f y fs).2 g (wi g λz=>hg ?_)
   show (if g=f then some u else mA g)=none;rw [if_neg q];exact z
theorem Inv.made (I:Inv X pq σ H s):Inv X pq σ (upd (upd H s.heap.objs.size (.own (s.heap.objs.size+1))) (s.heap.objs.size+1) (.ins C s.heap.objs.size []))
  { s with heap:=(s.heap.push jx).push (kY C s.heap.objs.size) }:=by
 have e1:(s.heap.push jx).get? s.heap.objs.size=some jx:=qJ s.heap rfl;have e2:((s.heap.push jx).push (kY C s.heap.objs.size)).get? (s.heap.objs.size+1)=some (kY C s.heap.objs.size):=by
  have:=qJ (s.heap.push jx) (o:=kY C s.heap.objs.size) rfl
  rwa [qv] at this
 have e3:(s.heap.push jx).Ns s.heap.objs.size (λ_=>none):=⟨jx,#[],_,e1,rfl,(λe he=>absurd he (by simp)),λ_=>rfl⟩;have I1:=I.laid (a:=s.heap.objs.size) (o:=.own (s.heap.objs.size+1)) (h':=s.heap.push jx) (t':=s.toks) (λb u q=>qC _ q) (qM _) ⟨_,e1⟩;refine I1.laid (a:=s.heap.objs.size+1) (o:=.ins C s.heap.objs.size []) (t':=s.toks) (λb u q=>qC _ q) (Nat.le_of_eq (qv _ _)) ?_;have ne:s.heap.objs.size≠s.heap.objs.size+1:=qc (kt _);refine ⟨by rw [aE ne,aH],qt _,ne,e2,λ_=>none,(Heap.Ns1.of_empty e3).at λo q=>qC _ q,λ_=>vN,λy hy=>absurd rfl hy⟩
def b6h {env:Env} {f:Str} (hb:ya e f env (eval e env)=eval e env)
  (h:wpAny (model prog w) A (eval e env) (λo s1z=>wpAny (model prog w) A (getAttr o f true) Q E s1z) E s):wpAny (model prog w) A (eval (.Attribute e f pos) env) Q E s:=
 Attribute_any_ h (by rw [arm_eval_Attribute,hb])
end
def c0R (K:qB) (ta:TE) (f:Str):TE:=λσ H Q=>ta σ H λx H1=>∃ a C dx fs v,x=.ref a/\H1 a=some (.ins C dx fs)/\Cls K C/\mG K C f/\fs.lookup f=some v/\Q v H1
def c1d (K:qB) (ta tv:TE) (f:Str):TS:=λD σ H=>tv σ H λy H1=>ta σ H1 λx H2=>∃ a C dx fs,x=.ref a/\H2 a=some (.ins C dx fs)/\Cls K C/\mG K C f/\fs.length<1000 /\
 D.nx σ (upd H2 a (.ins C dx (lN f y fs)))
section
variable {o:Expr} {f:Str} {tv:TE}
def b7s (he:PE X e ta) (hb:ya e f X.env (eval e X.env)=eval e X.env):PE X (.Attribute e f pos) (c0R X.K ta f):=by
 intro pq s σ H Q I h;refine b6h hb (thn (he pq s σ H _ I h) λu s1 ⟨x,H1,I1,rx,a,C,dx,fs,v,ex,ea,c,n,l,q⟩=>?_);subst ex;obtain rfl:u=jU a:=rx;exact a7B I1 ea c n l λu' s2 I2 ru=>⟨v,H1,I2,ru,q⟩
def a4u (ha:PE X o ta) (hv:PE X value tv) (hs:wy value (some (.Attribute o f pos')) pos.line X.env=pure false):PS X (.Assign [.Attribute o f pos'] value pos) (c1d X.K ta tv f):=by
 intro pq s σ H D I h;refine plainObj_wpAny_Assign_Attribute (thn (hv pq s σ H _ I h) λu s1 ⟨y,H1,I1,ry,q⟩=>thn (ha pq s1 σ H1 _ I1 q) λov s2 ⟨x,H2,I2,rx,a,C,dx,fs,ex,ea,c,n,l,q2⟩=>?_) hs;subst ex;obtain rfl:ov=jU a:=rx;exact a7b I2 ea c n l ry λs3 I3=>⟨σ,_,I3,q2⟩
end
section
variable {c:Value} {b:Bool}
end
structure Room (k:Nat) (A:Around):Prop where
 hd:A.handled=none
 dp:A.depth+3*k+5<recursionLimit
 un:A.units+16*k+200<cLine
theorem Room.mono (r:Room k A) (h:j<=k):Room j A:=⟨r.hd,by have:=r.dp;omega,by have:=r.un;omega⟩
theorem Room.deeper {k:Nat} {A:Around} (r:Room (k+1) A) (env:Env):Room k (A.deeper env):=
 ⟨r.hd,by have:=r.dp;show A.depth+1+3*k+5<_;omega,by have:=r.un;show A.units+3+16*k+200<_;omega⟩
theorem Room.in1 {k:Nat} {A:Around} (r:Room (k+1) A):Room k A.in1:=
 ⟨r.hd,by have:=r.dp;show A.depth+3*k+5<_;omega,by have:=r.un;show A.units+1+16*k+200<_;omega⟩
def a7t:(A.under (.builtin "type.__call__" ⟨.ref C::us,kw⟩)).depth=A.depth+1:=by
 first | rfl | simp [Around.under,Code.weight,Code.isCreation,Code.isGuard,Code.isCaller,Code.frames,Code.isFrame,guardIds]
def a7s:(A.under (.builtin "type.__call__" ⟨.ref C::us,kw⟩)).units=A.units+1:=by
 first | rfl | simp [Around.under,Code.cUnits,Code.frames,Code.isFrame]
theorem Room.make (r:Room (k+1) A) (C:Addr) (us:T0m) (kw:T0g):Room k (A.under (.builtin "type.__call__" ⟨.ref C::us,kw⟩)):=
 ⟨r.hd,by have:=r.dp;rw [a7t];omega,by have:=r.un;rw [a7s];omega⟩
theorem Room.depth {k:Nat} {A:Around} (r:Room k A):A.depth<recursionLimit:=by have:=r.dp;omega
theorem Room.units {k:Nat} {A:Around} (r:Room k A):A.units+64<cLine:=by have:=r.un;omega
def b6X:TA:=λ_ H Q=>Q [] H
def b6o (ta:TE) (tr:TA):TA:=λσ H Q=>ta σ H λx H1=>tr σ H1 λxs H2=>Q (x::xs) H2
variable {t:TA}
def oS:PA X [] b6X:=λ_ _ _ _ H Q I h=>Calls.spliced_nil ⟨[],H,I,.nil,h⟩
def mS (ha:PE X e te) (hr:PA X es t) (hs:j4 (e::es) X.env=(false,eval e X.env)::j4 es X.env:=by rfl):PA X (e::es) (b6o te t):=by
 intro pos pq s σ H Q I h;rw [hs];show wpAny _ _ (spliced ((false,eval e X.env)::v8 pos (j4 es X.env))) _ _ s;refine Calls.spliced_cons (thn (ha pq s σ H _ I h) λu s1 ⟨x,H1,I1,r1,q1⟩=>?_);exact thn (hr pos pq s1 σ H1 _ I1 q1) λus s2 ⟨xs,H2,I2,r2,q2⟩=>⟨x::xs,H2,I2,.cons r1 r2,q2⟩
def c0J (t:TA):TE:=λσ H Q=>t σ H λxs H1=>xs.length<=j5/\∀ p,H1 p=none->Q (.ref p) (upd H1 p (.tup xs))
def c0N (t:TA):TE:=λσ H Q=>t σ H λxs H1=>xs.length<=j5/\∀ p,H1 p=none->Q (.ref p) (upd H1 p (.lst xs))
def b7p {x1:_} (h:PA X es t):PE X (.Tuple es x1 pos) (c0J t):=by
 intro pq s σ H Q I hq;refine wpAny_Tuple_spliced (thn (h pos pq s σ H _ I hq) λus s1 ⟨xs,H1,I1,r,z,q⟩=>⟨by rw [<-r.length];exact z,?_⟩);have hf:H1 s1.heap.objs.size=none:=I1.hok.fresh (qM _);refine ⟨.ref s1.heap.objs.size,upd H1 s1.heap.objs.size (.tup xs),I1.laid (t':=s1.toks) (λb u e=>qC _ e) (qM _) ?_,rfl,q _ hf⟩;exact ⟨z,us,r,⟨_,qJ _ rfl,rfl,_,rfl⟩⟩
def a4v (h:PA X es t):PE X (.List es pos) (c0N t):=by
 intro pq s σ H Q I hq;refine wpAny_List_spliced (thn (h pos pq s σ H _ I hq) λus s1 ⟨xs,H1,I1,r,z,q⟩=>⟨by rw [<-r.length];exact z,?_⟩);have hf:H1 s1.heap.objs.size=none:=I1.hok.fresh (qM _);refine ⟨.ref s1.heap.objs.size,upd H1 s1.heap.objs.size (.lst xs),I1.laid (t':=s1.toks) (λb u e=>qC _ e) (qM _) ?_,rfl,q _ hf⟩;exact ⟨z,us,0,r,qJ _ rfl⟩
abbrev Sp:=List V->Hp->VK->XK->Prop
abbrev CXT:=List Env->Hp->Shared->XK->Value->Shared->Prop
structure Env0 (P:Program) (w:World) (K:qB) (mg:T0d) (base:Heap) (A:Around) (outer:List Env) (s:Shared) (H:Hp):Prop where
 frames:A.frames=some outer
 mod:Mod K mg base
 bs:∀ b o,base.get? b=some o->s.heap.get? b=some o/\H b=none
 bsz:base.objs.size<=s.heap.objs.size
 funs:s.heap.FunFrames base outer
 frf:∀ b∈frs outer,H b=none
 hok:HOk P w H s.heap
 bare:QC s.gens
def CE (outer:List Env) (P:Program) (w:World) (H:Hp) (s:Shared) (Q:VK) (u:Value) (s':Shared):Prop:=
 ∃ v H',s'.os=s.os/\QC s'.gens/\Un (frs outer) [] H H' s.heap s'.heap/\HOk P w H' s'.heap/\RelV v u/\Q v H'
def CR (CX:CXT) (outer:List Env) (P:Program) (w:World) (H:Hp) (s:Shared) (Q:VK) (E:XK) (r:Result) (s':Shared):Prop:=
 match r with
 | .ok (.ret u)=>CE outer P w H s Q u s'
 | .ok _=>False
 | .error e=>CX outer H s E e s'
structure FnOk (P:Program) (w:World) (K:qB) (mg:T0d) (base:Heap) (CX:CXT) (k:Nat) (f:Addr) (fd:yk) (ps:T0q) (sp:Sp):Prop where
 len:∀ vs H Q E,sp vs H Q E->vs.length=ps.length
 run:∀ (A:Around) (outer:List Env) (s:Shared) (H:Hp) (args:Args) (us:T0m) (vs:List V) (Q:VK) (E:XK),Room k A->Env0 P w K mg base A outer s H->BindsTo s fd args (ps.zip us)->aU vs us->sp vs H Q E ->
  ua (model P w) A (.call (.ref f) args) (CR CX outer P w H s Q E) s
theorem Env0.make {K:qB} {outer:List Env} (e:Env0 P w K mg base A outer s H) (C:Addr) (us:T0m) (kw:T0g):
  Env0 P w K mg base (A.under (.builtin "type.__call__" ⟨.ref C::us,kw⟩)) outer s H:=⟨by first | exact e.frames | (simpa [Around.under,Code.envs,Code.isFrame,pushEnvs] using e.frames),e.mod,e.bs,e.bsz,e.funs,e.frf,e.hok,e.bare⟩
theorem Env0.in1 {P:Program} {w:World} {K:qB} {mg:T0d} {base:Heap} {A:Around} {outer:List Env} {s:Shared} {H:Hp} (e:Env0 P w K mg base A outer s H) :
  Env0 P w K mg base A.in1 outer s H:=⟨e.frames,e.mod,e.bs,e.bsz,e.funs,e.frf,e.hok,e.bare⟩
theorem Inv.env0 (I:Inv X pq σ H s):Env0 X.prog X.w X.K X.mg X.base X.A X.stack s H:=
 ⟨I.ok.frames,I.ok.mod,I.bs,qk I.ok.bsz I.sz,I.stack,I.stkFree,I.hok,I.bare⟩
def Inv.after {Q:VK} (I:Inv X pq σ H s) (h:CE X.stack X.prog X.w H s Q u s'):EP X pq σ Q u s':=by
 obtain ⟨v,H',os,bare,un,hok,r,q⟩:=h;obtain ⟨hh,g,d,t,os'⟩:=s';obtain rfl:os'=s.os:=os;exact ⟨v,H',I.call (h':=hh) (g':=g) (d':=d) (t':=t) (ch:=[]) un hok bare (λb z=>absurd z (by simp)),r,q⟩
def b9e (sp:Sp) (dvs:List V) (E:XK) (t:TA):TE:=λσ H Q=>t σ H λvs H1=>sp (vs++dvs) H1 Q E
def b9b (C:Addr) (m:Str) (sp:Sp) (dvs:List V) (E:XK) (ta:TE) (t:TA):TE:=λσ H Q=>ta σ H λx H1=>∃ a dx fs,x=.ref a/\H1 a=some (.ins C dx fs)/\fs.lookup m=none /\
 t σ H1 λvs H2=>sp (x::(vs++dvs)) H2 Q E
def b9c (C:Addr) (sp:Sp) (dvs:List V) (E:XK) (t:TA):TE:=λσ H Q=>t σ H λvs H1=>∀ x dx,H1 x=none->H1 dx=none->dx≠x ->
 sp (.ref x::(vs++dvs)) (upd (upd H1 dx (.own x)) x (.ins C dx [])) (λv H2=>v=.non/\Q (.ref x) H2) E
def Binds (K:qB) (fd:yk) (ps:T0q) (ds:T0m):Prop:=
 ∀ (s:Shared) (us:T0m),K.In s.heap->(us++ds).length=ps.length->BindsTo s fd ⟨us,[]⟩ (ps.zip (us++ds))
theorem Binds.all {K:qB} (h:∀ us:List Value,us.length=ps.length->uo fd ⟨us,[]⟩=pure (ps.zip us)):Binds K fd ps []:=λs us _ hl=>by
 rw [jt] at hl ⊢;exact .of_eq (h us hl)
def a0l (CX:CXT) (X:Cx) (E:XK):Prop:=∀ (pq:T0b) (σ:St) (H:Hp) (s:Shared) (e:Value) (s':Shared),Inv X pq σ H s->CX X.stack H s E e s'->X.xe e s'
variable {CX:CXT} {sp:Sp} {vs:List V}
section
variable {dvs:List V} {ds:T0m} {E:XK} {x m:Str} {o:Expr}
def b1j {Q:VK} (F:FnOk X.prog X.w X.K X.mg X.base CX k f fd ps sp) (hr:Room k X.A) (hb:Binds X.K fd ps ds) (hd:aU dvs ds) (hx:a0l CX X E)
  (I:Inv X pq σ H s) (r:aU vs us) (h:sp (vs++dvs) H Q E):wpAny (model X.prog X.w) X.A (call (.ref f) us) (EP X pq σ Q) X.xe s:=by
 have r2:aU (vs++dvs) (us++ds):=r.append hd;have hl:(us++ds).length=ps.length:=by rw [<-r2.length];exact F.len _ _ _ _ h
 refine QL (yo (F.run X.A X.stack s H ⟨us,[]⟩ (us++ds) (vs++dvs) Q E hr I.env0 (hb s us I.kIn hl) r2 h) λr s' hq=>?_);cases r with
 | error e=>exact hx pq σ H s e s' I hq
 | ok fl=>
  cases fl with
  | ret u=>exact I.after hq
  | next=>exact jX hq
  | brk=>exact jX hq
  | cont=>exact jX hq
def a8n (F:FnOk X.prog X.w X.K X.mg X.base CX k f fd ps sp) (hr:Room k X.A) (hg:Gl X x) (hm:X.mg x=some (.ref f)) (hk:jp X.K (.ref f)=true) (hb:Binds X.K fd ps ds) (hd:aU dvs ds) (hx:a0l CX X E)
  (ha:PA X (e::es) t) (hdb:(x==("__debug__" : Str))=false:=by decide) (he:j4 (e::es) X.env=(false,eval e X.env)::j4 es X.env:=by rfl) (hpl:(v8 pos (j4 es X.env)).any (·.1)=false:=by rfl):
  PE X (.Call (.Name x p) (e::es) [] pos) (b9e sp dvs E t):=by
 intro pq s σ H Q I h;refine k9 (a8C I hg hm ?_ hdb);refine PySem.W.callWith_K (h₀:=X.base) I.ok.mod.kin hk (thn (ha pos pq s σ H _ I h) λus s1 ⟨vs,H1,I1,r,q⟩=>⟨I1.kIn,?_⟩) he hpl;exact b1j F hr hb hd hx I1 r q
def b1F {pl:Sem Bool} (he:PE X o ta) (c:Cls X.K C) (hm:Meth X.K C m f) (F:FnOk X.prog X.w X.K X.mg X.base CX k f fd ps sp) (hr:Room k X.A) (hb:Binds X.K fd ps ds) (hd:aU dvs ds) (hx:a0l CX X E)
  (ht:eval (.Call (.Attribute o m apos) [] [] pos) X.env=(do
   let ov <-eval o X.env
   Qg apos.atName
   let (f,first) <-holding [ov] (getMethod ov m pl)
   callWith pos f first (v8 pos (j4 [] X.env)) (yz pos (w8 [] X.env))):=by rfl):
  PE X (.Call (.Attribute o m apos) [] [] pos) (b9b C m sp dvs E ta b6X):=by
 intro pq s σ H Q I h;refine PySem.W.methodCall_KW (pl:=pl) (thn (he pq s σ H _ I h) λu s1 ⟨x,H1,I1,rx,a,dx,fs,ex,ea,l,q⟩=>?_) ht;subst ex;obtain rfl:u=jU a:=rx;refine a7A I1 ea c hm l ?_;exact PySem.W.callWith_K0 (first:=[.ref a]) I1.kIn hm.kp (b1j (us:=[.ref a]) (vs:=[.ref a]) F hr hb hd hx I1 (.cons rfl .nil) q)
structure Mk (K:qB) (C f:Addr):Prop where
 makes:PySem.W.makesIn K C=true
 init:jL K (.ref C) "__init__" = some (some (.ref f))
 fn:vo K (.ref f)=true
 kp:jp K (.ref C)=true
def b1i {Q:VK} (M:Mk X.K C f) (F:FnOk X.prog X.w X.K X.mg X.base CX k f fd ps sp) (hr:Room (k+1) X.A) (hb:Binds X.K fd ps ds) (hd:aU dvs ds)
  (hx:a0l CX X E) (I:Inv X pq σ H s) (r:aU vs us)
  (h:∀ x dx,H x=none->H dx=none->dx≠x->sp (.ref x::(vs++dvs)) (upd (upd H dx (.own x)) x (.ins C dx [])) (λv H2=>v=.non/\Q (.ref x) H2) E):
  wpAny (model X.prog X.w) X.A (call (.ref C) us) (EP X pq σ Q) X.xe s:=by
 have hq:=h (s.heap.objs.size+1) s.heap.objs.size (I.hok.fresh (kF _)) (I.hok.fresh (qM _)) (qc (kt _));have I2:=Inv.made (C:=C) I;have r2:aU (V.ref (s.heap.objs.size+1)::(vs++dvs)) (jU (s.heap.objs.size+1)::(us++ds)):=.cons rfl (r.append hd);have hl:(jU (s.heap.objs.size+1)::us++ds).length=ps.length:=by
  have e:=r2.length;rw [F.len _ _ _ _ hq] at e;exact e.symm
 refine QL (b2g (f:=f) I.kIn M.makes M.init (beq_iff_eq.mp M.fn) (yo (F.run _ X.stack _ _ ⟨jU (s.heap.objs.size+1)::us,[]⟩ (jU (s.heap.objs.size+1)::(us++ds)) _ _ E (hr.make C us [])
  (I2.env0.make C us []) (hb _ (jU (s.heap.objs.size+1)::us) I2.kIn hl) r2 hq) λr s' hq'=>?_))
 cases r with
 | error e=>exact hx pq σ _ _ e s' I2 hq'
 | ok fl=>
  cases fl with
  | ret u=>
   obtain ⟨v,H',I3,rv,ev,q3⟩:=I2.after hq';subst ev;exact ⟨rv,⟨V.ref (s.heap.objs.size+1),H',I3,rfl,q3⟩⟩
  | next=>exact jX hq'
  | brk=>exact jX hq'
  | cont=>exact jX hq'
def b4B (M:Mk X.K C f) (F:FnOk X.prog X.w X.K X.mg X.base CX k f fd ps sp) (hr:Room (k+1) X.A) (hg:Gl X x) (hm:X.mg x=some (.ref C)) (hb:Binds X.K fd ps ds) (hd:aU dvs ds) (hx:a0l CX X E)
  (ha:PA X (e::es) t) (hdb:(x==("__debug__" : Str))=false:=by decide) (he:j4 (e::es) X.env=(false,eval e X.env)::j4 es X.env:=by rfl) (hpl:(v8 pos (j4 es X.env)).any (·.1)=false:=by rfl):
  PE X (.Call (.Name x p) (e::es) [] pos) (b9c C sp dvs E t):=by
 intro pq s σ H Q I h;refine k9 (a8C I hg hm ?_ hdb);refine PySem.W.callWith_K (h₀:=X.base) I.ok.mod.kin M.kp (thn (ha pos pq s σ H _ I h) λus s1 ⟨vs,H1,I1,r,q⟩=>⟨I1.kIn,?_⟩) he hpl;exact b1i M F hr hb hd hx I1 r q
end
def PK (X:Cx) (kws:List Keyword) (t:TA):Prop:=
 ∀ (pos:Pos) (pq:T0b) (s:Shared) (σ:St) (H:Hp) (Q:List V->Hp->Prop),Inv X pq σ H s->t σ H Q->wpAny (model X.prog X.w) X.A (evalAll ((yz pos (w8 kws X.env)).map (·.2))) (AP X pq σ Q) X.xe s
section
variable {ks:T0q} {E:XK} {x m:Str} {kpos:Pos} {o:Expr} {kws:List Keyword} {tk:TA} {nm:Option Str}
def b7m:PK X [] b6X:=λ_ _ _ _ H Q I h=>wpAny_evalAll_nil ⟨[],H,I,.nil,h⟩
def b4v (ha:PE X e te) (hr:PK X kws t):PK X (⟨nm,e,kpos⟩::kws) (b6o te t):=by
 intro pos pq s σ H Q I h;show wpAny _ _ (evalAll ((do let v <-eval e X.env;Qg pos;pure v)::(yz pos (w8 kws X.env)).map (·.2))) _ _ s;refine QM (q8 (thn (ha pq s σ H _ I h) λu s1 ⟨x,H1,I1,r1,q1⟩=>q8 (ur (j3 ?_))));exact thn (hr pos pq s1 σ H1 _ I1 q1) λus s2 ⟨xs,H2,I2,r2,q2⟩=>⟨x::xs,H2,I2,.cons r1 r2,q2⟩
variable {g:List Value->List Value->List Value} {gV:List V->List V->List V}
end
structure FnScope (N P:T0q) (sc:Scope):Prop where
 kind:sc.kind=.function
 co:sc.isCoroutine=false
 gen:sc.isGenerator=false
 nd:N.Nodup
 pre:N.take P.length=P
 par:∀ x∈P,sc.names.lookup x=some .local\/sc.names.lookup x=some .cell
 nofree:∀ y∈sc.names,y.2≠.free
theorem a3T {kindOf:Str->Option yy} {x:Str}:∀ {binds:T0g} {m:T0d},(∀ v,(x,v)∉binds)->bindL kindOf binds m x=m x
 | [],_,_=>rfl
 | (n,v)::r,m,h=>by
  unfold bindL;rw [a3T λw hw=>h w (qE _ hw)];split
  ·have:x≠n:=by rintro rfl;exact h v qf
   simp [this]
  ·rfl
theorem a3V {kindOf:Str->Option yy} {x:Str}:∀ {binds:T0g} {m:T0d},(∀ v,(x,v)∉binds)->bindC kindOf binds m x=m x
 | [],_,_=>rfl
 | (n,v)::r,m,h=>by
  unfold bindC;rw [a3V λw hw=>h w (qE _ hw)];split
  ·rfl
  ·have:x≠n:=by rintro rfl;exact h v qf
   simp [this]
theorem a3U {kindOf:Str->Option yy} {x:Str} {v:Value}:∀ {P:T0q} {vs:T0m} {i:Nat} {m:T0d},P.Nodup->P[i]?=some x->vs[i]?=some v->kindOf x=some .local ->
  bindL kindOf (P.zip vs) m x=some v
 | [],_,_,_,_,h,_,_=>by simp at h
 | _::_,[],_,_,_,_,h,_=>by simp at h
 | p::P,w::vs,0,m,nd,h1,h2,hk=>by
  simp at h1 h2;subst h1;subst h2;show bindL kindOf ((p,w)::P.zip vs) m p=_;unfold bindL;rw [a3T λv hv=>(kA.mp nd).1 (List.of_mem_zip hv).1,if_pos hk];simp
 | p::P,w::vs,i+1,m,nd,h1,h2,hk=>by
  show bindL kindOf ((p,w)::P.zip vs) m x=_;unfold bindL;exact a3U (i:=i) (kA.mp nd).2 (by simpa using h1) (by simpa using h2) hk
theorem a3W {kindOf:Str->Option yy} {x:Str} {v:Value}:∀ {P:T0q} {vs:T0m} {i:Nat} {m:T0d},P.Nodup->P[i]?=some x->vs[i]?=some v->kindOf x≠some .local ->
  bindC kindOf (P.zip vs) m x=some v
 | [],_,_,_,_,h,_,_=>by simp at h
 | _::_,[],_,_,_,_,h,_=>by simp at h
 | p::P,w::vs,0,m,nd,h1,h2,hk=>by
  simp at h1 h2;subst h1;subst h2;show bindC kindOf ((p,w)::P.zip vs) m p=_;unfold bindC;rw [a3V λv hv=>(kA.mp nd).1 (List.of_mem_zip hv).1,if_neg hk];simp
 | p::P,w::vs,i+1,m,nd,h1,h2,hk=>by
  show bindC kindOf ((p,w)::P.zip vs) m x=_;unfold bindC;exact a3W (i:=i) (kA.mp nd).2 (by simpa using h1) (by simpa using h2) hk
def start (N:T0q) (vs:List V):St:=vs.map some++List.replicate (N.length - vs.length) none
def a6n (CX:CXT) (P:Program) (w:World) (K:qB) (mg:T0d) (base:Heap) (N:T0q) (qual:Str) (scope:Scope) (f:Addr) (cd:Value) (A:Around) (outer:List Env) (s:Shared) (H:Hp) (E:XK):Cx where
 prog:=P
 w:=w
 K:=K
 mg:=mg
 base:=base
 A:=A.deeper (um qual scope s.heap.objs.size f cd)
 N:=N
 s₀:=s
 H₀:=H
 env:=um qual scope s.heap.objs.size f cd
 outer:=outer
 stack:=um qual scope s.heap.objs.size f cd::outer
 ex:=[]
 calm:=true
 fn:=λ_=>true
 pn:=[]
 xe:=λe s'=>wpAny (model P w) (A.deeper (um qual scope s.heap.objs.size f cd)) (leaving (um qual scope s.heap.objs.size f cd) e) (λ_ s''=>CX outer H s E e s'') (λe' s''=>CX outer H s E e' s'') s'
def xC {sc:Scope} {x:Str} (h:sc.names.lookup x=some .cell):∃ c,(v6 n sc.names []).lookup x=some c:=by
 have q:=vk sc.names n [] (.inl h);exact Option.isSome_iff_exists.mp q
def a3E {K:qB} {cd:Value} {outer:List Env} {s1:Shared} {E:XK} 
  (S:FnScope N ps scope) (hd:A.handled=none) (e0:Env0 P w K mg base A outer s H) (hl:vs.length=ps.length) (r:aU vs us)
  (x:InCallC s s.heap.objs.size (bindL (um qual scope s.heap.objs.size f cd).kindOf (ps.zip us) λ_=>none) (v6 (s.heap.objs.size+1) scope.names []) (bindC (um qual scope s.heap.objs.size f cd).kindOf (ps.zip us) λ_=>none) s1):
  Inv (a6n CX P w K mg base N qual scope f cd A outer s H E) [] (start N vs) H s1:=by
 have hpl:ps.length<=N.length:=by have:=congrArg vZ S.pre;rw [ju] at this;omega
 obtain ⟨h1,tk,rfl,hk⟩:=x.done;have noA:∀ b:Addr,b∉(a6n CX P w K mg base N qual scope f cd A outer s H E).ex:=λb z=>absurd (show b∈([]:T0o) from z) (by simp)
 refine ⟨⟨e0.mod,S.kind,rfl,rfl,qM _,λy z c h1 h2=>?_,λy hy=>?_,λy c _ h=>?_,λ_=>hd,Around.frames_deeper e0.frames,.inr ⟨rfl,rfl⟩,λb z=>absurd z (noA b),e0.bs,e0.bsz,λb _ _=>noA b,λb z=>absurd z (noA b),e0.funs,e0.frf⟩,
  rfl,e0.bare,Un.kept hk,⟨_,x.toInCall.ns,λi y v h1 h2 h3=>?_⟩,λy c h=>⟨_,x.cell y c h⟩,e0.hok.fresh (qM _),λy c h=>?_,λp hp=>absurd (show p∈([]:T0b) from hp) (by simp),e0.hok.kept hk,?_⟩
 ·exact name_of_addr x.apart (ql h1) (ql h2)
 ·have hy:scope.names.lookup y=some .cell\/scope.names.lookup y=some .free:=hy
  rcases hy with hy | hy
  ·exact xC hy
  ·exact absurd rfl (S.nofree _ (ql hy))
 ·exact jN (x.above y c (ql h))
 ·have hi:i<vs.length:=by
   unfold start at h2;by_cases hi:i<vs.length
   ·exact hi
   ·rw [jQ (by simpa using hi)] at h2
    rw [va] at h2;split at h2<;>cases h2
  have ha:vs[i]?=some v:=by
   unfold start at h2;rw [jH (by simpa using hi),qQ] at h2;cases e:vs[i]? with
   | none=>rw [e] at h2;cases h2
   | some a=>rw [e] at h2;cases h2;rfl
  obtain ⟨u,hu,rv⟩:=r.get ha;have hp:ps[i]?=some y:=by
   rw [<-S.pre,kZ (by omega)];exact h1
  have ndP:ps.Nodup:=by rw [<-S.pre];exact S.nd.sublist (vT _ _)
  refine ⟨u,rv,?_⟩;rcases S.par y (List.mem_of_getElem? hp) with k | k
  ·exact .inl ⟨k,a3U ndP hp hu k⟩
  ·obtain ⟨c,e⟩:=xC (n:=s.heap.objs.size+1) k
   refine .inr ⟨.inl k,c,e,?_⟩;have q:=x.cell y c e;rw [a3W ndP hp hu (by show scope.names.lookup y≠_;rw [k];decide)] at q;exact q
 ·exact e0.hok.fresh (jN (x.above y c (ql h)))
 ·unfold start
  show _=N.length;rw [qY,qF,List.length_replicate];omega
def b6D {K:qB} {dV kV:Value} 
  {osl:Array (Option Value)} (lk:K.lookup f=some ⟨oc,od,.func (je name qual params body scope dV kV doc pm an cdv ct),osl⟩) (hcd:zN K cdv qual=true) (S:FnScope N ps scope)
  (len:∀ vs H Q E,sp vs H Q E->vs.length=ps.length)
  (hbody:∀ (A:Around) (outer:List Env) (s:Shared) (H:Hp) (vs:List V) (Q:VK) (E:XK),Room k (A.deeper (um qual scope s.heap.objs.size f cdv))->sp vs H Q E ->
   ∃ t,PSs (a6n CX P w K mg base N qual scope f cdv A outer s H E) body t/\t { nx:=λ_ H'=>Q .non H',rt:=Q } (start N vs) H):
  FnOk P w K mg base CX (k+1) f (je name qual params body scope dV kV doc pm an cdv ct) ps sp:=by
 refine ⟨len,λA outer s H args us vs Q E hr e0 hb r hsp=>?_⟩;have hl:=len _ _ _ _ hsp;have KX:K.In s.heap:=e0.mod.kin.keeps λb o e=>(e0.bs b o e).1;have lim:s.heap.NoLimit:=e0.mod.nolimit.keeps λb o e=>(e0.bs b o e).1;have hkind:∀ y∈ps.zip us,scope.names.lookup y.1=some .local\/(scope.names.lookup y.1=some .cell/\((v6 (s.heap.objs.size+1) scope.names []).lookup y.1).isSome=true):=λ⟨n,v⟩ hy=>by
  rcases S.par n (List.of_mem_zip hy).1 with q | q
  ·exact .inl q
  ·exact .inr ⟨q,vk _ _ _ (.inl q)⟩
 refine codeAny_call_function hr.depth (KX _ _ lk) rfl S.co S.gen rfl (PySem.W.codeRec_of KX hcd) (hb _ _ _ _ ?_);refine wpAny_newFunctionEnv_cells S.kind hkind λenv he s1 x=>?_;subst he;refine ⟨lim.keeps x.toInCall.keep,codeAny_func ?_⟩;obtain ⟨t,ht,hq⟩:=hbody A outer s H vs Q E (hr.deeper _) hsp;have I:Inv (a6n CX P w K mg base N qual scope f cdv A outer s H E) [] (start N vs) H s1:=a3E S hr.hd e0 hl r x;refine yi (ht [] s1 (start N vs) H _ I hq) (λfl s' hs=>?_) λe s' hs=>hs;have fin:∀ {σ':St} {H':Hp} {v:V} {u:Value},Inv (a6n CX P w K mg base N qual scope f cdv A outer s H E) [] σ' H' s'->RelV v u->Q v H'->CE outer P w H s Q u s':=
  λ{σ' H' v u} J rv q=>⟨v,H',J.os,J.bare,J.base,J.hok,rv,q⟩
 cases fl with
 | ret u=>
  obtain ⟨v,σ',H',J,rv,q⟩:=hs;exact fin J rv q
 | next=>
  obtain ⟨σ',H',J,q⟩:=hs;exact fin (v:=V.non) (u:=jf) J rfl q
 | brk=>
  obtain ⟨_,_,_,q⟩:=hs;exact jX q
 | cont=>
  obtain ⟨_,_,_,q⟩:=hs;exact jX q
section
variable {x:Str} {id:String} {r:List V->Hp->VK->Prop}
def tCB (r:List V->Hp->VK->Prop) (t:TA):TE:=λσ H Q=>t σ H λvs H1=>r vs H1 Q
def b1K (hc:lB X (.builtin id) r) (hg:Gl X x) (hm:X.mg x=none) (hv:yc x=some (.builtin id)) (ha:PA X (e::es) t) (hn:x ≠ "__name__":=by decide) (hdb:(x==("__debug__" : Str))=false:=by decide)
  (he:j4 (e::es) X.env=(false,eval e X.env)::j4 es X.env:=by rfl) (hpl:(v8 pos (j4 es X.env)).any (·.1)=false:=by rfl):PE X (.Call (.Name x p) (e::es) [] pos) (tCB r t):=by
 intro pq s σ H Q I h;refine k9 (iV I hg hm hv ?_ hn hdb);exact PyProof.Rows.callWith_builtin1 (thn (ha pos pq s σ H _ I h) λus s1 ⟨vs,H1,I1,r1,q1⟩=>hc pq s1 σ H1 vs us Q I1 r1 q1) he hpl
def a3b (hc:lB X (.type T) r) (hg:Gl X x) (hm:X.mg x=none) (hv:yc x=some (.type T)) (ha:PA X (e::es) t) (hn:x ≠ "__name__":=by decide) (hdb:(x==("__debug__" : Str))=false:=by decide)
  (he:j4 (e::es) X.env=(false,eval e X.env)::j4 es X.env:=by rfl) (hpl:(v8 pos (j4 es X.env)).any (·.1)=false:=by rfl):PE X (.Call (.Name x p) (e::es) [] pos) (tCB r t):=by
 intro pq s σ H Q I h;refine k9 (iV I hg hm hv ?_ hn hdb);exact jq (thn (ha pos pq s σ H _ I h) λus s1 ⟨vs,H1,I1,r1,q1⟩=>hc pq s1 σ H1 vs us Q I1 r1 q1) he hpl
end
end L2
variable {H H' H1 H2 G G' H0 Gz G1:L2.Hp} {o o':L2.HO} {X:L2.Cx} {σ:L2.St} {v y:L2.V} {ta tb te tv td:L2.TE} {xs:List L2.V} {tc:L2.TT} {wi:L2.TI} {r:L2.R2} {CX:L2.CXT} {sp:L2.Sp} {J:L2.It} {kvs:List (L2.Key×j0)}
namespace HT
open PySem PyProof.Rows
section
open PySem.SeqAt
open PySem.AutoSeq1 (wpAny_loadPart')
open PySem.MeetsSeq PySem.MeetsSeq2 PySem.MeetsSeq3
end
variable {t sl:Addr} {lo hi:Option Int}
def cat_tup {b:Addr} {ws:T0m} (ht:IsTup s.heap t vs.toArray) (hb:IsTup s.heap b ws.toArray) (hv:vs≠[])
  (h1:ws=[]->Q (.ref t) s) (h2:ws≠[]->Q (.ref s.heap.objs.size) { s with heap:=s.heap.push { cls:=.type "tuple", data:=.seq (vs++ws).toArray } })
  (hsz:vs.length+ws.length<=j5):wpAny (model prog w) A (uf .Add (.ref t) (.ref b)) Q E s:=by
 obtain ⟨⟨cls,dd,data,sl⟩,ho,hc,n,hd⟩:=id ht;obtain ⟨⟨cls2,dd2,data2,sl2⟩,ho2,hc2,n2,hd2⟩:=id hb;simp only at hc hd hc2 hd2;subst hc hd hc2 hd2;have e:vs.toArray++ws.toArray=(vs++ws).toArray:=by simp
 by_cases hw:ws=[]
 ·exact QX ⟨_,ho,rfl⟩ ⟨_,ho2,rfl⟩ QR seq_tuple_add PySem.F.slot_tuple_add PySem.F.entry_tuple_add (PySem.F.args_tuple_add_2 _ _)
   (tuple_addW1 t b vs.toArray ws.toArray n n2 dd dd2 sl sl2 (by simpa using hv) (by simp [hw])) ⟨ho,ho2,h1 hw⟩
 ·refine QX ⟨_,ho,rfl⟩ ⟨_,ho2,rfl⟩ QR seq_tuple_add PySem.F.slot_tuple_add PySem.F.entry_tuple_add (PySem.F.args_tuple_add_2 _ _)
   (tuple_addW2 t b vs.toArray ws.toArray n n2 dd dd2 sl sl2 (by simpa using hv) (by simpa using hw) (by rw [qP,qP];exact hsz)) ⟨ho,ho2,?_⟩
  rw [e];exact h2 hw
def sIx (n d:Nat):Option Int->Nat
 | none=>d
 | some v=>if v<0 then (v+(n:Int)).toNat else min v.toNat n
def sIx_none (n d:Nat):sIx n d none=d:=rfl
def b7e (n d:Nat) (hd:d<=n) (o:Option Int):sIx n d o<=n:=by
 cases o with
 | none=>exact hd
 | some v=>
  show (if v<0 then (v+(n:Int)).toNat else min v.toNat n)<=n;by_cases hv:v<0
  ·rw [if_pos hv];omega
  ·rw [if_neg hv];exact Nat.min_le_right _ _
def a9b (v:Int) (n d:Nat):(if v<0 then max (v+(n:Int)) 0 else min v (n:Int))=((sIx n d (some v):Nat):Int):=by
 show (if v<0 then max (v+(n:Int)) 0 else min v (n:Int))=(((if v<0 then (v+(n:Int)).toNat else min v.toNat n):Nat):Int);by_cases hv:v<0
 ·simp only [if_pos hv];omega
 ·simp only [if_neg hv];omega
def a7U (lo hi:Option Int) (n:Nat):vn lo hi 1 (n:Int)=(((sIx n 0 lo:Nat):Int),((sIx n n hi:Nat):Int)):=by
 have h1:¬((1:Int)<0):=by omega
 unfold vn;simp only [h1,if_false];refine Prod.ext ?_ ?_
 ·cases lo with
  | none=>rfl
  | some v=>exact a9b v n 0
 ·cases hi with
  | none=>rfl
  | some v=>exact a9b v n n
def a7h (i j:Nat):zU (i:Int) (j:Int) 1=j - i:=by
 unfold zU;have h1:(1:Int) > 0:=by omega
 simp only [h1,if_true,Int.ediv_one];split<;>omega
def a1f {v:Value} {o:Option Int} {Q:Option Int->Shared->Prop} (p:QV v o) (h:Q o s):wpAny (model prog w) A (Builtin.Slice.slicePartIndex v) Q E s:=by
 cases p with
 | none=>exact slicePart_none h
 | int i t=>exact slicePart_int h
def nV {vl:Value} {Q:Int×Int×Nat->Shared->Prop} (hs:s.heap.IsSliceOf sl vl vu .none) (pl:QV vl lo) (pu:QV vu hi)
  (h:Q (((sIx n 0 lo:Nat):Int),1,sIx n n hi - sIx n 0 lo) s):wpAny (model prog w) A (Builtin.Slice.sliceApplied (.ref sl) (pure (n:Int))) Q E s:=by
 obtain ⟨os,hos,hcs,hds⟩:=id hs;unfold Builtin.Slice.sliceApplied Builtin.Slice.sliceFields;refine q8 (q8 (w9 hos hds (x:=vl) rfl (q8 (w9 hos hds (x:=vu) rfl (q8 (w9 hos hds (x:=.none) rfl (j3 ?_)))))));refine q8 (slicePart_none ?_);show wpAny _ _ (if ((1:Int)==0)=true then _ else _) _ _ s;rw [if_neg (by decide)];refine q8 (a1f pl (q8 (a1f pu (q8 (j3 ?_)))));show wpAny _ _ (match vn lo hi 1 (n:Int) with | (lo,hi)=>pure (lo,(1:Int),zU lo hi 1)) _ _ s;rw [a7U lo hi n];show wpAny _ _ (pure (((sIx n 0 lo:Nat):Int),(1:Int),zU ((sIx n 0 lo:Nat):Int) ((sIx n n hi:Nat):Int) 1)) _ _ s;rw [a7h];exact j3 h
def b1B (xs:Array Value) (i k:Nat):((qV k).filterMap λ(m:Nat)=>xs[((i:Int)+(m:Int)*1).toNat]?).toArray=((xs.toList.drop i).take k).toArray:=by
 have e:(λ(m:Nat)=>xs[((i:Int)+(m:Int)*1).toNat]?)=λm=>xs[i+m]?:=by
  funext m
  have:((i:Int)+(m:Int)*1).toNat=i+m:=by omega
  rw [this]
 rw [e];have:=pick_run xs i k;rw [List.filterMap_map] at this;have e2:((λx=>xs[x]?)∘λx=>i+x)=λm=>xs[i+m]?:=rfl;rw [e2] at this;rw [this]
def getItem_tuple_cut {vl:Value} (ht:IsTup s.heap t items) (hs:s.heap.IsSliceOf sl vl vu .none) (pl:QV vl lo) (pu:QV vu hi)
  (hw:¬(sIx items.size 0 lo=0/\sIx items.size items.size hi=items.size))
  (h:Q (.ref s.heap.objs.size) { s with heap:=s.heap.push { cls:=.type "tuple", data:=.seq ((items.toList.drop (sIx items.size 0 lo)).take (sIx items.size items.size hi - sIx items.size 0 lo)).toArray } })
  (hsz:items.size<=j5):wpAny (model prog w) A (Qd (.ref t) (.ref sl)) Q E s:=by
 have htake:sizeOk (.seq ((items.toList.drop (sIx items.size 0 lo)).take (sIx items.size items.size hi - sIx items.size 0 lo)).toArray):=by
  show ((items.toList.drop (sIx items.size 0 lo)).take (sIx items.size items.size hi - sIx items.size 0 lo)).toArray.size<=j5;rw [qP,ju,zq,qS];omega
 have hj:sIx items.size items.size hi<=items.size:=b7e _ _ (qM _) hi;obtain ⟨os,hos,hcs,hds⟩:=id hs;have hTs:s.TypeIs (.ref sl) "slice" := ⟨os,hos,hcs⟩;unfold Qd
 try with_reducible refine wz ?_
 first | refine q8 (j3 ?_) | skip
 refine q8 (wpAny_sequenceKey ht.typeIs (by decide) ?_)
 refine q8 (j9 (name:=jB "__getitem__") ht.typeIs ja
  (j7 ja ht.typeIs entry_tuple_getitem ?_ (args_tuple_getitem _ _)))
 show wpAny _ _ (vc (.ref t)>>=_) _ _ s;refine q8 (tupleItemsOf_ ht ?_);refine q8 (y0 hTs ?_);rw [if_pos (by decide)];refine q8 (nV hs pl pu ?_);have hno:¬((((sIx items.size 0 lo:Nat):Int)==0&&(1:Int)==1&&(sIx items.size items.size hi - sIx items.size 0 lo)==items.size)=true):=by
  intro q;rw [qL,qL] at q;have q1:((sIx items.size 0 lo:Nat):Int)=0:=eq_of_beq q.1.1;have q2:sIx items.size items.size hi - sIx items.size 0 lo=items.size:=eq_of_beq q.2;exact hw ⟨by omega,by omega⟩
 show wpAny _ _ (if (((sIx items.size 0 lo:Nat):Int)==0&&(1:Int)==1&&(sIx items.size items.size hi - sIx items.size 0 lo)==items.size)=true then _ else _) _ _ s;rw [if_neg hno,b1B]
 first
  | exact q8 (m:=zX _) (j8 (j3 ⟨_,rfl,j3 h⟩) htake)
  | exact q8 (m:=zX _) (j8 (q8 (j3 (j3 ⟨_,rfl,j3 h⟩))) htake)
  | exact q8 (q8 (m:=zX _) (j8 (j3 (j3 ⟨_,rfl,j3 h⟩)) htake))
  | exact q8 (q8 (m:=zX _) (j8 (j3 ⟨_,rfl,j3 h⟩) htake))
end HT
namespace L2
open PySem PySem.Spec PyProof.Rows
abbrev TO:=St->Hp->(Option Int->Hp->Prop)->Prop
def PO (X:Cx) (e:Option Expr) (t:TO):Prop:=
 ∀ (pq:T0b) (s:Shared) (σ:St) (H:Hp) (Q:Option Int->Hp->Prop),Inv X pq σ H s->t σ H Q ->
  wpAny (model X.prog X.w) X.A (evalPart e X.env) (λu s'=>∃ o H',Inv X pq σ H' s'/\QV u o/\Q o H') X.xe s
def b4a:TO:=λ_ H Q=>Q none H
def b8Z (t:TE):TO:=λσ H Q=>t σ H λx H1=>∃ i,x=.int i/\Q (some i) H1
def intsAre_of:∀ {us:T0m},aU (ns.map V.int) us->ul us ns:=by
 induction ns with
 | nil=>intro us r;rw [zj] at r;cases r;exact .nil
 | cons n ns ih=>
  intro us r;rw [qK] at r;cases r with
  | cons r1 r2=>
   obtain ⟨t,e⟩:=r1;subst e;exact .cons n t (ih r2)
section
variable {tl th:TO}
def b4u:PO X none b4a:=by
 intro pq s σ H Q I h;rw [evalPart_none];exact j3 ⟨none,H,I,.none,h⟩
def b4t (h:PE X e te):PO X (some e) (b8Z te):=by
 intro pq s σ H Q I hw;rw [evalPart_some];refine thn (h pq s σ H _ I hw) λu s1 ⟨x,H1,I1,r1,q1⟩=>?_;obtain ⟨i,rfl,q⟩:=q1;obtain ⟨t,rfl⟩:=r1;exact ⟨some i,H1,I1,.int i t,q⟩
def SlR (X:Cx) (r:V->Option Int->Option Int->Hp->VK->Prop):Prop:=
 ∀ (pq:T0b) (s:Shared) (σ:St) (H:Hp) (x:V) (v vl vu:Value) (lo hi:Option Int) (sl:Addr) (Q:VK),Inv X pq σ H s->RelV x v->s.heap.IsSliceOf sl vl vu .none->QV vl lo->QV vu hi->r x lo hi H Q ->
  ∃ T id,typeLookup (.type T) "__getitem__" = pure (some (.builtin id))/\s.TypeIs v T/\wpAny (model X.prog X.w) X.A (Qd v (.ref sl)) (EP X pq σ Q) X.xe s
theorem SlR.or {r r':V->Option Int->Option Int->Hp->VK->Prop} (h:SlR X r) (h':SlR X r'):SlR X (λx lo hi H Q=>r x lo hi H Q\/r' x lo hi H Q):=by
 intro pq s σ H x v vl vu lo hi sl Q I rx hs pl pu q;rcases q with q | q
 ·exact h pq s σ H x v vl vu lo hi sl Q I rx hs pl pu q
 ·exact h' pq s σ H x v vl vu lo hi sl Q I rx hs pl pu q
def tSl (r:V->Option Int->Option Int->Hp->VK->Prop) (te:TE) (tl th:TO):TE:=λσ H Q=>te σ H λx H1=>tl σ H1 λl H2=>th σ H2 λu H3=>r x l u H3 Q
def a5z {r:V->Option Int->Option Int->Hp->VK->Prop} (hr:SlR X r) (he:PE X e te) (hl:PO X lo tl) (hu:PO X hi th):PE X (.Subscript e (.Slice lo hi none p2) pos) (tSl r te tl th):=by
 intro pq s σ H Q I h;refine Subscript_ (thn (he pq s σ H _ I h) λv s1 ⟨x,H1,I1,r1,q1⟩=>?_);refine wpAny_Slice (thn (hl pq s1 σ H1 _ I1 q1) λvl s2 ⟨l,H2,I2,pl,q2⟩=>thn (hu pq s2 σ H2 _ I2 q2) λvu s3 ⟨u,H3,I3,pu,q3⟩=>?_);rw [evalPart_none];refine j3 ?_;have I4:Inv X pq σ H3 { s3 with heap:=s3.heap.push { cls:=.type "slice", data:=.fields #[vl,vu,.none] } }:=I3.kept (t':=s3.toks) λb ob q=>qC _ q;obtain ⟨T,id,hT,ht,hg⟩:=hr pq { s3 with heap:=s3.heap.push { cls:=.type "slice", data:=.fields #[vl,vu,.none] } } σ H3 x v vl vu l u s3.heap.objs.size Q I4 r1 (Heap.IsSliceOf.new ..) pl pu q3;show wpAny (model X.prog X.w) X.A (subscriptTail e (.Slice lo hi none p2) v (.ref s3.heap.objs.size)) (EP X pq σ Q) X.xe { s3 with heap:=s3.heap.push { cls:=.type "slice", data:=.fields #[vl,vu,.none] } };exact tail_any (ops:=[.ref s3.heap.objs.size,v]) ht hT hg (by with_unfolding_all rfl)
def a6o (xs:List V) (lo hi:Option Int):List V:=(xs.drop (HT.sIx xs.length 0 lo)).take (HT.sIx xs.length xs.length hi - HT.sIx xs.length 0 lo)
def a0B (xs:List V) (lo hi:Option Int):(a6o xs lo hi).length<=xs.length:=by
 unfold a6o;rw [ju,zq];omega
def c1f (K:qB):V->Option Int->Option Int->Hp->VK->Prop:=λx lo hi H Q=>∃ a xs,x=.ref a/\SqT K H a xs /\
 ¬(HT.sIx xs.length 0 lo=0/\HT.sIx xs.length xs.length hi=xs.length)/\∀ p,H p=none->Q (.ref p) (upd H p (.tup (a6o xs lo hi)))
def b1b:SlR X (c1f X.K):=by
 intro pq s σ H x v vl vu lo hi sl Q I rx hs pl pu h;obtain ⟨a,xs,rfl,hx,hw,q⟩:=h;cases rx;obtain ⟨its,r,ht,hz⟩:=I.tuple hx;have hlen:its.toArray.size=xs.length:=by rw [qP];exact r.length.symm
 refine ⟨"tuple", _,ja.lookup,ht.typeIs,?_⟩;refine HT.getItem_tuple_cut ht hs pl pu (by rw [hlen];exact hw) ?_ (by rw [hlen];exact hz);rw [hlen];refine ⟨.ref s.heap.objs.size,_,I.laid (t':=s.toks) (o:=.tup (a6o xs lo hi)) (λb ob q=>qC _ q) (qM _) ?_,rfl,q _ (I.hok.fresh (qM _))⟩;exact ⟨qk (a0B xs lo hi) hz,_,(r.drop (HT.sIx xs.length 0 lo)).take (HT.sIx xs.length xs.length hi - HT.sIx xs.length 0 lo),IsTup.new _ _⟩
def b9r (K:qB):R2:=λx y H Q=>∃ a b xs ys,x=.ref a/\y=.ref b/\SqT K H a xs/\SqT K H b ys/\xs≠[]/\xs.length+ys.length<=j5 /\
 (ys=[]->Q (.ref a) H)/\(ys≠[]->∀ p,H p=none->Q (.ref p) (upd H p (.tup (xs++ys))))
def aU.nil_iff (r:aU xs us):us=[]↔xs=[]:=by
 cases r with
 | nil=>simp
 | cons _ _=>simp
def b4M:OpR X (uf .Add) (b9r X.K):=by
 intro pq s σ H x y v u Q I rx ry h;obtain ⟨a,b,xs,ys,rfl,rfl,ha,hb,hx,hz,q1,q2⟩:=h;cases rx;cases ry;obtain ⟨its,r1,p1,_⟩:=I.tuple ha;obtain ⟨its2,r2,p2,_⟩:=I.tuple hb;refine HT.cat_tup p1 p2 (λz=>hx (r1.nil_iff.mp z)) (λz=>⟨.ref a,H,I,rfl,q1 (r2.nil_iff.mp z)⟩) (λz=>?_) (by rw [<-r1.length,<-r2.length];exact hz);refine ⟨.ref s.heap.objs.size,_,I.laid (t':=s.toks) (o:=.tup (xs++ys)) (λb ob q=>qC _ q) (qM _) ?_,rfl,q2 (λw=>z (r2.nil_iff.mpr w)) _ (I.hok.fresh (qM _))⟩;exact ⟨by rw [qY];exact hz,_,r1.append r2,IsTup.new _ _⟩
end
def ixN (n:Nat) (i:Int):Option Nat:=if 0<=i then (if i<n then some i.toNat else none) else if -(n:Int)<=i then some (i+n).toNat else none
def atI {α:Type} (xs:List α) (i:Int):Option α:=(ixN xs.length i).bind λj=>xs[j]?
variable {i:Int}
def b5o (h:ixN n i=some j):seqIndex? i n=some j/\j<n/\-(n:Int)<=i/\i<n:=by
 unfold ixN at h;by_cases h0:0<=i
 ·rw [if_pos h0] at h
  by_cases h1:i<n
  ·rw [if_pos h1] at h
   have e:i.toNat=j:=qA h;exact ⟨by rw [seqIndex_of h0 h1,e],by omega,by omega,h1⟩
  ·rw [if_neg h1] at h;cases h
 ·rw [if_neg h0] at h
  by_cases h1:-(n:Int)<=i
  ·rw [if_pos h1] at h
   have e:(i+n).toNat=j:=qA h;exact ⟨by rw [seqIndex_neg (by omega) h1,e],by omega,h1,by omega⟩
  ·rw [if_neg h1] at h;cases h
def a5g {α:Type} {xs:List α} {v:α} (h:atI xs i=some v):∃ j,seqIndex? i xs.length=some j/\xs[j]?=some v/\j<xs.length/\-(xs.length:Int)<=i/\i<xs.length:=by
 unfold atI at h;cases e:ixN xs.length i with
 | none=>rw [e] at h;cases h
 | some j=>
  rw [e] at h;obtain ⟨h1,h2,h3,h4⟩:=b5o e;exact ⟨j,h1,h,h2,h3,h4⟩
def a0R (b:Expr):Prop:=∀ o i,subscripted b false o i=operate [o,i] (Qd o i)
def IxR (X:Cx) (r:R2):Prop:=
 ∀ (value slice:Expr) (pq:T0b) (s:Shared) (σ:St) (H:Hp) (x y:V) (v u:Value) (Q:VK),Inv X pq σ H s->RelV x v->RelV y u->r x y H Q ->
  subscripted slice false v u=operate [v,u] (Qd v u)->wpAny (model X.prog X.w) X.A (subscriptTail value slice v u) (EP X pq σ Q) X.xe s
def MtR (X:Cx) (id:String) (r:V->List V->Hp->VK->Prop):Prop:=
 ∀ (pq:T0b) (s:Shared) (σ:St) (H:Hp) (x:V) (xs:List V) (v:Value) (us:T0m) (Q:VK),Inv X pq σ H s->RelV x v->aU xs us->r x xs H Q ->
  wpAny (model X.prog X.w) X.A (call (.builtin id) (v::us)) (EP X pq σ Q) X.xe s
variable {v:Value}
section
variable {a:Expr}
theorem IxR.or {r':R2} (h:IxR X r) (h':IxR X r'):IxR X (λx y H Q=>r x y H Q\/r' x y H Q):=by
 intro value slice pq s σ H x y v u Q I rx ry q hs;rcases q with q | q
 ·exact h value slice pq s σ H x y v u Q I rx ry q hs
 ·exact h' value slice pq s σ H x y v u Q I rx ry q hs
def b1G (hr:IxR X r) (ha:PE X a ta) (hb:PE X b tb) (hs:a0R b):PE X (.Subscript a b pos) (tOp r ta tb):=by
 intro pq s σ H Q I h;exact Subscript_ (b8N ha hb I h λv u s2 x y H2 I2 rx ry q=>hr a b pq s2 σ H2 x y v u Q I2 rx ry q (hs _ _))
def b9m (K:qB):R2:=λx y H Q=>∃ p xs i v,x=.ref p/\y=.int i/\SqL K H p xs/\atI xs i=some v/\Q v H
def b9k (K:qB):R2:=λx y H Q=>∃ p xs i v,x=.ref p/\y=.int i/\SqT K H p xs/\atI xs i=some v/\Q v H
def b9l:R2:=λx y H Q=>∃ z i c,x=.str z/\y=.int i/\z.length<=j5/\atI z.cps.toList i=some c/\Q (.str ⟨#[c]⟩) H
def a8G:IxR X (b9m X.K):=by
 intro value slice pq s σ H x y v u Q I rx ry h hs;obtain ⟨p,xs,i,z,rfl,rfl,hq,he,q⟩:=h;cases rx;obtain ⟨t,rfl⟩:=ry;obtain ⟨its,r,pl,hz⟩:=I.list hq;obtain ⟨j,h1,h2,h3,h4,h5⟩:=a5g he;obtain ⟨w,ew,rw'⟩:=r.get h2;have hl:=r.length;have hn:=yI;have fin:EP X pq σ Q w s:=⟨z,H,I,rw',q⟩;by_cases h0:0<=i
 ·have hj:i.toNat=j:=by
   rw [seqIndex_of h0 h5] at h1;exact qA h1
  exact item_listR pl.isList h0 (by omega) (by rw [hj];simpa using ew) fin hs
 ·have hj:(i+(its.toArray.size:Int)).toNat=j:=by
   rw [seqIndex_neg (by omega) h4] at h1;rw [qP,<-hl];exact qA h1
  exact u0 (x:=w) pl.isList.typeIs slot_list_getitem.lookup
   (wpAny_getItem_list_neg (Q:=λr s'=>r=w/\EP X pq σ Q r s') pl.isList (by omega) (by rw [qP]<;>omega) (by omega) (by rw [hj];simpa using ew) ⟨rfl,fin⟩) hs
def b8e:IxR X (b9k X.K):=by
 intro value slice pq s σ H x y v u Q I rx ry h hs;obtain ⟨p,xs,i,z,rfl,rfl,hq,he,q⟩:=h;cases rx;obtain ⟨t,rfl⟩:=ry;obtain ⟨its,r,pl,hz⟩:=I.tuple hq;obtain ⟨j,h1,h2,h3,h4,h5⟩:=a5g he;obtain ⟨w,ew,rw'⟩:=r.get h2;have hl:=r.length;have hn:=yI;have fin:EP X pq σ Q w s:=⟨z,H,I,rw',q⟩;exact u0 (x:=w) pl.typeIs slot_tuple_getitem.lookup
  (getItem_tuple (j:=j) (Q:=λr s'=>r=w/\EP X pq σ Q r s') pl (by omega) (by omega) (by rw [qP,<-hl];exact h1) (by simpa using ew) ⟨rfl,fin⟩) hs
def b8f:IxR X b9l:=by
 intro value slice pq s σ H x y v u Q I rx ry h hs;obtain ⟨z,i,c,rfl,rfl,hz,he,q⟩:=h;obtain ⟨t,rfl⟩:=rx;obtain ⟨t',rfl⟩:=ry;obtain ⟨j,h1,h2,h3,h4,h5⟩:=a5g he;have hl:z.cps.toList.length=z.length:=by simp [Str.length]
 rw [hl] at h1 h4 h5;have hn:=yI
 exact tail_any (typeIs_str s z t) slot_str_getitem.lookup (getItem_str (c:=c) (by
  have e1:decide (i < -(2 ^ 63:Int))=false:=decide_eq_false (by omega);have e2:decide (i>=2 ^ 63)=false:=decide_eq_false (by omega)
  rw [e1,e2,wQ]) (by rw [h1];simpa using h2) ⟨.str ⟨#[c]⟩,H,I.tok _,⟨_,rfl⟩,q⟩) hs
def rIx (K:qB):R2:=λx y H Q=>b9m K x y H Q\/b9k K x y H Q\/b9l x y H Q
def b8g:IxR X (rIx X.K):=a8G.or (b8e.or b8f)
def a4n (lo hi:Option Int) (n:Nat):(uw lo hi none n).1=((HT.sIx n 0 lo:Nat):Int)/\(uw lo hi none n).2.1=((HT.sIx n n hi:Nat):Int)/\(uw lo hi none n).2.2=1:=by
 refine ⟨?_,?_,rfl⟩
 ·cases lo with
  | none=>simp [uw,HT.sIx]
  | some i=>
   simp only [uw,HT.sIx,Option.getD_none,show (1:Int) > 0 by decide,if_true];by_cases h:i<0
   ·simp only [h,if_true]<;>omega
   ·simp only [h,if_false]<;>omega
 ·cases hi with
  | none=>simp [uw,HT.sIx]
  | some i=>
   simp only [uw,HT.sIx,Option.getD_none,show (1:Int) > 0 by decide,if_true];by_cases h:i<0
   ·simp only [h,if_true]<;>omega
   ·simp only [h,if_false]<;>omega
def a2x (its:T0m) (lo hi:Option Int):slicePick its.toArray lo hi none=((its.drop (HT.sIx its.length 0 lo)).take (HT.sIx its.length its.length hi - HT.sIx its.length 0 lo)).toArray:=by
 obtain ⟨h1,h2,h3⟩:=a4n lo hi its.toArray.size;unfold slicePick;rw [h1,h2,h3];simp only [sliceRange_one,pick_run,qP]<;>rfl
def c1g (K:qB):V->Option Int->Option Int->Hp->VK->Prop:=λx lo hi H Q=>∃ a xs,x=.ref a/\SqL K H a xs/\∀ p,H p=none->Q (.ref p) (upd H p (.lst (a6o xs lo hi)))
def b4f:SlR X (c1g X.K):=by
 intro pq s σ H x v vl vu lo hi sl Q I rx hs pl pu h;obtain ⟨a,xs,rfl,hx,q⟩:=h;cases rx;obtain ⟨its,r,ht,hz⟩:=I.list hx;have hlen:=r.length;refine ⟨"list", _,slot_list_getitem.lookup,ht.isList.typeIs,?_⟩;refine wpAny_getItem_list_slice ht.isList hs pl pu .none (by simp) ?_ (by rw [qP]<;>omega);rw [a2x,<-hlen];refine ⟨.ref s.heap.objs.size,_,I.laid (t':=s.toks) (o:=.lst (a6o xs lo hi)) (λb ob q=>qC _ q) (qM _) ?_,rfl,q _ (I.hok.fresh (qM _))⟩;exact ⟨qk (a0B xs lo hi) hz,_,0,(r.drop (HT.sIx xs.length 0 lo)).take (HT.sIx xs.length xs.length hi - HT.sIx xs.length 0 lo),qJ _ rfl⟩
def pO:V->Bool
 | .non=>true
 | .bl _=>true
 | .int _=>true
 | .str _=>true
 | _=>false
def eqV:V->V->Bool
 | .non,.non=>true
 | .bl a,.bl b=>a==b
 | .bl a,.int b=>(if a then 1 else 0)==b
 | .int a,.bl b=>a==(if b then 1 else 0)
 | .int a,.int b=>a==b
 | .str a,.str b=>a==b
 | _,_=>false
def b8r {x:V} (ry:RelV y u) (rx:RelV x v) (fy:pO y=true) (fx:pO x=true):SeqAt.EqAt A s u v (eqV y x):=by
 cases y with
 | non=>
  cases ry;cases x with
  | non=>cases rx;exact SeqAt.EqAt.same _
  | bl b=>cases rx;exact SeqAt.EqAt.none_bool b
  | int b=>obtain ⟨t,rfl⟩:=rx;exact SeqAt.EqAt.none_int b t
  | str b=>obtain ⟨t,rfl⟩:=rx;exact SeqAt.EqAt.none_str b t
  | _=>exact absurd (show false=true from fx) qe
 | bl a=>
  cases ry;cases x with
  | non=>cases rx;exact SeqAt.EqAt.bool_none a
  | bl b=>cases rx;exact SeqAt.EqAt.bool_bool a b
  | int b=>obtain ⟨t,rfl⟩:=rx;exact SeqAt.EqAt.bool_int a b t
  | str b=>obtain ⟨t,rfl⟩:=rx;exact SeqAt.EqAt.bool_str a b t
  | _=>exact absurd (show false=true from fx) qe
 | int a=>
  obtain ⟨t',rfl⟩:=ry;cases x with
  | non=>cases rx;exact SeqAt.EqAt.int_none a t'
  | bl b=>cases rx;exact SeqAt.EqAt.int_bool a t' b
  | int b=>obtain ⟨t,rfl⟩:=rx;exact SeqAt.EqAt.int_int a t' b t
  | str b=>obtain ⟨t,rfl⟩:=rx;exact SeqAt.EqAt.int_str a t' b t
  | _=>exact absurd (show false=true from fx) qe
 | str a=>
  obtain ⟨t',rfl⟩:=ry;cases x with
  | non=>cases rx;exact SeqAt.EqAt.str_none a t'
  | bl b=>cases rx;exact SeqAt.EqAt.str_bool a t' b
  | int b=>obtain ⟨t,rfl⟩:=rx;exact SeqAt.EqAt.str_int a t' b t
  | str b=>obtain ⟨t,rfl⟩:=rx;exact SeqAt.EqAt.str_str a t' b t
  | _=>exact absurd (show false=true from fx) qe
 | _=>exact absurd (show false=true from fy) qe
def eqU (x:V) (u:Value):Bool:=match u with
 | .none=>eqV .non x
 | .bool b=>eqV (.bl b) x
 | .int i _=>eqV (.int i) x
 | .str z _=>eqV (.str z) x
 | _=>false
def b2U {x:V} (r:RelV y u) (f:pO y=true):eqU x u=eqV y x:=by
 cases y with
 | non=>cases r;rfl
 | bl b=>cases r;rfl
 | int i=>obtain ⟨t,rfl⟩:=r;rfl
 | str z=>obtain ⟨t,rfl⟩:=r;rfl
 | _=>exact absurd (show false=true from f) qe
theorem a5h {x:V}:∀ {xs:List V} {us:T0m},aU xs us->xs.all pO=true->us.any (eqU x)=xs.any λy=>eqV y x
 | _,_,.nil,_=>rfl
 | y::xs,u::us,.cons r t,f=>by
  rw [jG,qL] at f;rw [jz,jz,b2U r f.1,a5h t f.2]
theorem a1B {A:Around} {s:Shared} {x:V} {v:Value} (rx:RelV x v) (fx:pO x=true):∀ {xs:List V} {us:T0m},aU xs us->xs.all pO=true->∀ u∈us,SeqAt.EqAt A s u v (eqU x u)
 | _,_,.nil,_=>λu hu=>by cases hu
 | y::xs,u::us,.cons r t,f=>λu' hu=>by
  rw [jG,qL] at f;rcases qI.mp hu with rfl | hu
  ·rw [b2U r f.1];exact b8r r rx f.1 fx
  ·exact a1B rx fx t f.2 u' hu
def inV (x:V) (xs:List V):Bool:=xs.any λy=>eqV y x
def rIn (K:qB) (neg:Bool):R2:=λx y H Q=>∃ p xs,y=.ref p/\(SqL K H p xs\/SqT K H p xs)/\pO x=true/\xs.all pO=true/\Q (.bl (if neg then !inV x xs else inV x xs)) H
def a3e:OpR X (ww .In) (rIn X.K false):=by
 intro pq s σ H x y v u Q I rx ry h;obtain ⟨p,xs,rfl,hq,fx,fs,q⟩:=h;cases ry;rcases hq with hq | hq
 ·obtain ⟨its,r,pl,hz⟩:=I.list hq
  refine SeqAt.in_listAt (eqU x) pl.isList (λw hw=>a1B rx fx r fs w (by simpa using hw)) ⟨.bl _,H,I,rfl,?_⟩;rw [show its.toArray.any (eqU x)=its.any (eqU x) by simp,a5h r fs];exact q
 ·obtain ⟨its,r,pl,hz⟩:=I.tuple hq
  refine SeqAt.in_tupleAt (eqU x) pl (λw hw=>a1B rx fx r fs w (by simpa using hw)) ⟨.bl _,H,I,rfl,?_⟩;rw [show its.toArray.any (eqU x)=its.any (eqU x) by simp,a5h r fs];exact q
def xE:lB X (.builtin "len") (λxs H Q=>∃ p ys,xs=[.ref p]/\(SqL X.K H p ys\/SqT X.K H p ys)/\Q (.int ys.length) H):=by
 intro pq s σ H xs us Q I r h;obtain ⟨p,ys,rfl,hq,q⟩:=h;obtain ⟨u,rfl,rx⟩:=vals1 r;cases rx;have hn:=yI;rcases hq with hq | hq
 ·obtain ⟨its,r',pl,hz⟩:=I.list hq
  have hlen:=r'.length;exact Calls.call_len_list pl.isList (by simp only [qP]<;>omega) ⟨.int ys.length,H,I.tok _,⟨s.toks+1,by rw [qP,hlen]⟩,q⟩
 ·obtain ⟨its,r',pl,hz⟩:=I.tuple hq
  have hlen:=r'.length;exact len_tuple pl (by simp only [qP]<;>omega) ⟨.int ys.length,H,I.tok _,⟨s.toks+1,by rw [qP,hlen]⟩,q⟩
def a5c:lB X (.builtin "len") (λxs H Q=>∃ z,xs=[.str z]/\z.length<=j5/\Q (.int z.length) H):=by
 intro pq s σ H xs us Q I r h;obtain ⟨z,rfl,hz,q⟩:=h;obtain ⟨u,rfl,t,rfl⟩:=vals1 r;have hn:=yI;exact len_str (by omega) ⟨.int z.length,H,I.tok _,⟨_,rfl⟩,q⟩
def tQ:lB X (.type "tuple") (λxs H Q=>∃ p ys,xs=[.ref p]/\((SqL X.K H p ys/\∀ l,H l=none->Q (.ref l) (upd H l (.tup ys)))\/(SqT X.K H p ys/\Q (.ref p) H))):=by
 intro pq s σ H xs us Q I r h;obtain ⟨p,ys,rfl,h⟩:=h;obtain ⟨u,rfl,rx⟩:=vals1 r;cases rx;rcases h with ⟨hq,q⟩ | ⟨hq,q⟩
 ·obtain ⟨its,r',pl,hz⟩:=I.list hq
  have hlen:=r'.length;refine call_tuple_list pl.isList (λh' kp=>?_) (by simp only [qP]<;>omega);have I1:Inv X pq σ H { s with heap:=h' }:=I.kept (t':=s.toks) kp;have I2:Inv X pq σ (upd H h'.objs.size (.tup ys)) { s with heap:=h'.push { cls:=.type "tuple", data:=.seq its.toArray } }:=
   I1.laid (t':=s.toks) (λb o e=>qC _ e) (qM _) (show cM X.prog X.w _ _ _ (.tup ys) from ⟨hz,its,r',IsTup.new _ _⟩)
  exact ⟨.ref h'.objs.size,_,I2,rfl,q _ (I1.hok.fresh (qM _))⟩
 ·obtain ⟨its,r',pl,hz⟩:=I.tuple hq
  exact call_tuple_same pl ⟨.ref p,H,I,rfl,q⟩
def tyV (K:qB) (T:String) (x:V) (H:Hp):Prop:=match x with
 | .str _=>T = "str"
 | .int _=>T = "int"
 | .ref p=>(T = "list" /\ ∃ xs,SqL K H p xs)\/(T = "tuple" /\ ∃ o,K.lookup p=some o/\o.cls=.type "tuple" /\ o.dict=none) \/
   (T = "dict" /\ ((∃ kvs,H p=some (.dK kvs))\/∃ kvs,H p=some (.dT kvs)))\/(T = "set" /\ ∃ S n,H p=some (.set S n))
 | _=>False
def b0Q {x:V} (I:Inv X pq σ H s) (r:RelV x v) (ty:tyV X.K T x H):
  s.TypeIs v T/\∀ a,v=.ref a->∃ ob,s.heap.get? a=some ob/\ob.dict=none:=by
 cases x with
 | str z=>
  obtain ⟨t,rfl⟩:=r;cases (show T = "str" from ty);exact ⟨typeIs_str s z t,λ_ e=>nomatch e⟩
 | int i=>
  obtain ⟨t,rfl⟩:=r;cases (show T = "int" from ty);exact ⟨typeIs_int s i t,λ_ e=>nomatch e⟩
 | ref p=>
  cases r;rcases ty with ⟨rfl,xs,hq⟩ | ⟨rfl,o,hk,hc,hd⟩ | ⟨rfl,hk⟩ | ⟨rfl,S,n,hk⟩
  ·obtain ⟨its,_,pl,_⟩:=I.list hq
   refine ⟨pl.isList.typeIs,λa e=>?_⟩;cases e;obtain ⟨o,n,e,c,hd,_⟩:=pl;exact ⟨o,e,hd⟩
  ·refine ⟨⟨o,I.kIn p o hk,hc⟩,λa e=>?_⟩
   cases e;exact ⟨o,I.kIn _ o hk,hd⟩
  ·have z:∃ o,s.heap.get? p=some o/\o.ExactDict:=by
    rcases hk with ⟨kvs,hk⟩ | ⟨kvs,hk⟩
    ·obtain ⟨_,_,_,_,o,_,_,e,ex,_⟩:=I.hok p _ hk
     exact ⟨o,e,ex⟩
    ·obtain ⟨_,_,_,_,o,_,_,e,ex,_⟩:=I.hok p _ hk
     exact ⟨o,e,ex⟩
   obtain ⟨o,e,ex⟩:=z;refine ⟨⟨o,e,ex.1⟩,λa e2=>?_⟩;cases e2;exact ⟨o,e,ex.2.1⟩
  ·obtain ⟨o,_,_,_,e,ex,_⟩:=I.hok p _ hk
   refine ⟨⟨o,e,ex.1⟩,λa e2=>?_⟩;cases e2;exact ⟨o,e,ex.2.1⟩
 | _=>exact jX ty
def c0S (K:qB) (T:String) (r:V->List V->Hp->VK->Prop) (to:TE):TE:=λσ H Q=>to σ H λx H1=>tyV K T x H1/\r x [] H1 Q
def tBM (K:qB) (T:String) (r:V->List V->Hp->VK->Prop) (to:TE) (t:TA):TE:=λσ H Q=>to σ H λx H1=>tyV K T x H1/\t σ H1 λxs H2=>r x xs H2 Q
variable {o:Expr} {to:TE} {t:TA} {id:String} {r:V->List V->Hp->VK->Prop}
def b7t (pa:PlainAttrs T) (slot:Slot T name id) (hty:typeOf (.builtin id)=pure (.type "method_descriptor")) (hm:MtR X id r) (ho:PE X o to)
  (hbase:ya o name X.env (eval o X.env)=eval o X.env:=by rfl) (hline:(apos.endLine==cpos.line)=true:=by rfl):PE X (.Call (.Attribute o name apos) [] [] cpos) (c0S X.K T r to):=by
 intro pq s σ H Q I h;refine wpAny_Call_method0_late hbase hline (thn (ho pq s σ H _ I h) λv s1 ⟨x,H1,I1,r1,ty,q1⟩=>?_);obtain ⟨h1,h2⟩:=b0Q I1 r1 ty;exact ⟨T,id,pa,slot,hty,h1,h2,wK rfl (PySem.evalArgs_none (hm pq s1 σ H1 x [] v [] Q I1 r1 .nil q1))⟩
def a5A (pa:PlainAttrs T) (slot:Slot T name id) (hty:typeOf (.builtin id)=pure (.type "method_descriptor")) (hm:MtR X id r) (ho:PE X o to) (ha:PA X (e::es) t)
  (hbase:ya o name X.env (eval o X.env)=eval o X.env:=by rfl)
  (hfew:((v8 cpos (j4 (e::es) X.env)).all (λx=>!x.1)&&(yz cpos (w8 [] X.env)).all (λx=>x.1.isSome)
   && decide ((e::es).length+([]:List Keyword).length+(if ([]:List Keyword).isEmpty then 0 else 1)<30))=true:=by rfl)
  (hline:(apos.endLine==cpos.line)=true:=by rfl) (hs:j4 (e::es) X.env=(false,eval e X.env)::j4 es X.env:=by rfl) (hplain:(v8 cpos (j4 es X.env)).any (·.1)=false:=by rfl):
  PE X (.Call (.Attribute o name apos) (e::es) [] cpos) (tBM X.K T r to t):=by
 intro pq s σ H Q I h;refine wpAny_Call_method_late hbase hfew hline rfl (thn (ho pq s σ H _ I h) λv s1 ⟨x,H1,I1,r1,ty,q1⟩=>?_);obtain ⟨h1,h2⟩:=b0Q I1 r1 ty;refine ⟨T,id,pa,slot,hty,h1,h2,?_⟩;have hA:=ha cpos pq s1 σ H1 _ I1 q1;rw [hs] at hA ⊢;refine wK (by show (false || (v8 cpos (j4 es X.env)).any (·.1))=false;rw [hplain]<;>rfl) (Calls.evalArgs_plain ?_);exact thn hA λus s2 ⟨vs,H2,I2,r2,q2⟩=>hm pq s2 σ H2 x vs v us Q I2 r1 r2 q2
end
def MtM (X:Cx) (id:String) (r:V->List V->Hp->VK->Prop):Prop:=
 ∀ (pq:T0b) (s:Shared) (σ:St) (H:Hp) (x:V) (xs:List V) (v:Value) (us:T0m) (Q:VK),Inv X pq σ H s->RelV x v->aU xs us->r x xs H Q ->
  wpAny (model X.prog X.w) X.A (call (.builtin id) (v::us)) (EP X pq σ Q) X.xe s
theorem aU.one:∀ {x:V} {us:T0m},aU [x] us->∃ u,us=[u]/\RelV x u
 | _,_,.cons r .nil=>⟨_,rfl,r⟩
def aU.zero:∀ {us:T0m},aU [] us->us=[]
 | _,.nil=>rfl
theorem aU.dropLast {xs:List V} {us:T0m} (h:aU xs us):aU xs.dropLast us.dropLast:=by
 induction h with
 | nil=>exact .nil
 | cons r t ih=>
  cases t with
  | nil=>exact .nil
  | cons q t'=>exact .cons r ih
def a7F {α:Type} (l:List α):l.eraseIdx (l.length - 1)=l.dropLast:=by
 induction l with
 | nil=>rfl
 | cons a r ih=>
  cases r with
  | nil=>rfl
  | cons b r=>
   have e:(a::b::r).length - 1=((b::r).length - 1)+1:=by
    have h1:(a::b::r).length=r.length+2:=rfl;have h2:(b::r).length=r.length+1:=rfl;omega
   rw [e,List.eraseIdx_cons_succ,ih]
   all_goals rfl
section
variable {b:Addr} {ys zs:List V}
theorem Inv.lset {its':T0m} {f:Array Value->Array Value} (I:Inv X pq σ H s) (hH:H l=some (.lst xs))
  (e:s.heap.get? l=some { cls:=.type "list", data:=.seq its.toArray n }) (hf:f its.toArray=its'.toArray) (hv:aU ys its') (hz:ys.length<=j5):
  Inv X pq σ (upd H l (.lst ys)) { s with heap:=s.heap.update l (kK f),toks:=t' }:=by
 have q:=PySem.IsL.update e f;rw [hf] at q;refine I.write (x:=l) (e:=l) (by rw [hH];exact trivial) (.inl rfl) (λb' u hb hu=>(jk s.heap (kK f) (jT hb)).trans hu) ⟨_,q⟩ ?_;exact ⟨hz,its',_,hv,q⟩
theorem Inv.lnew (I:Inv X pq σ H s) (hv:aU ys its) (hz:ys.length<=j5):
  Inv X pq σ (upd H s.heap.objs.size (.lst ys)) { s with heap:=s.heap.push { cls:=.type "list", data:=.seq its.toArray },toks:=t' }:=
 I.laid (λ_ _ q=>qC _ q) (qM _) ⟨hz,its,0,hv,qJ _ rfl⟩
theorem Inv.fresh (I:Inv X pq σ H s):H s.heap.objs.size=none:=I.hok.fresh (qM _)
theorem Inv.lstM (I:Inv X pq σ H s) (hH:H l=some (.lst xs)):xs.length<=j5/\∃ (its:T0m) (n:Nat),aU xs its/\xs.length=its.length/\s.heap.get? l=some { cls:=.type "list", data:=.seq its.toArray n }:=by
 obtain ⟨z,its,n,r,e⟩:=I.hok l _ hH;exact ⟨z,its,n,r,r.length,e⟩
def b1R (h:n<=j5):vy n=false:=by
 unfold vy;exact decide_eq_false (by omega)
end
def b4m:V->List V->Hp->VK->Prop:=λx vs H Q=>∃ l xs y,x=.ref l/\vs=[y]/\H l=some (.lst xs)/\xs.length<j5/\Q .non (upd H l (.lst (xs++[y])))
def sP:MtM X "list.append" b4m:=by
 intro pq s σ H x vs v us Q I rx rv h;obtain ⟨l,xs,y,rfl,rfl,hH,hz,q⟩:=h;cases rx;obtain ⟨u,rfl,ru⟩:=rv.one;obtain ⟨z,its,n,r,hl,e⟩:=I.lstM hH;refine call_meets F.slot_list_append ⟨_,e,rfl⟩ F.entry_list_append (F.args_list_append_2 _ _) (PySem.list_append l its.toArray n u (by rw [qP];omega)) ⟨e,?_⟩;refine ⟨.non,_,I.lset (its':=its++[u]) hH e (by simp) (r.append (.cons ru .nil)) ?_,rfl,q⟩;rw [qY,jO];omega
def c1h:V->List V->Hp->VK->Prop:=λx vs H Q=>∃ l xs y,x=.ref l/\vs=[]/\H l=some (.lst xs)/\xs[xs.length - 1]?=some y/\Q y (upd H l (.lst xs.dropLast))
def b7S:MtM X "list.pop" c1h:=by
 intro pq s σ H x vs v us Q I rx rv h;obtain ⟨l,xs,y,rfl,rfl,hH,hy,q⟩:=h;cases rx;have hus:=rv.zero;subst hus;obtain ⟨z,its,n,r,hl,e⟩:=I.lstM hH;obtain ⟨u,hu,ru⟩:=r.get hy;have hy':its.toArray[its.toArray.size - 1]?=some u:=by
  show its.toArray[its.length - 1]?=some u;rw [<-jo,<-hl];exact hu
 refine call_meets F.slot_list_pop ⟨_,e,rfl⟩ F.entry_list_pop (F.args_list_pop_1 _) (MeetsSeq.list_pop_last l its.toArray n u hy' (by rw [qP];omega)) ⟨e,?_⟩;refine ⟨y,_,I.lset (its':=its.dropLast) hH e ?_ r.dropLast ?_,ru,q⟩
 ·show its.toArray.eraseIdxIfInBounds (its.toArray.size - 1)=its.dropLast.toArray
  rw [qP,List.eraseIdxIfInBounds_toArray,a7F]
 ·rw [List.length_dropLast]
  omega
end L2
namespace Att
open PySem PySem.W PySem.Calls PyProof.Rows
def a0I {P:Params} {h:Heap}:∀ (ns:T0s) (vs:T0m),WellAll P h vs (ns.map WData.int)->ul vs ns:=by
 intro ns
 induction ns with
 | nil=>
  intro vs w;rw [zj] at w;cases w;exact .nil
 | cons n ns ih=>
  intro vs w;rw [qK] at w;cases w with
  | cons a b=>
   cases a;exact .cons _ _ (ih _ b)
def a9s {l:OpenLaw} (hn:l.most=some n) {P:Params} {h:Heap} {args:List WData} {vals:T0m} 
  (hpre:l.row.toRowW.claim.pre args=true) (hwl:WellAll P h vals args):
  ∃ a vs ns,vals=[jU a]/\args=[WData.list (ns.map WData.int)]/\h.get? a=some { cls:=.type "list", data:=.seq vs.toArray }/\ul vs ns/\ns.length<=n:=by
 have hsh:WShape.hasAll [] args [.list .int]=true:=(pre_splitW hpre).1;have hc:l.pre.holds [] { args:=args }=true:=(pre_splitW hpre).2;obtain ⟨d,r,rfl,h1,h2⟩:=hasAllW_cons hsh;obtain rfl:=hasAllW_nil h2;obtain ⟨xs,rfl,h3⟩:=hasW_list h1;obtain ⟨ns,rfl⟩:=items_int h3;have hlen:ns.length<=n:=by
  unfold OpenLaw.pre at hc;have h4:(WTm.not (.lt (.lit (.int (n:Int))) (.len (.arg 0)))).holds [] { args:=[.list (ns.map .int)] }=true:=by
   have h4:=(holds_andW hc).1;rw [hn] at h4;exact h4
  have h5:=condW_of h4 (w_not (w_lt w_lit (w_len_list (w_arg rfl))));rw [qF] at h5;refine Nat.le_of_not_lt λq=>?_;have q':(n:Int)<((ns.length:Nat):Int):=by omega
  first
   | (rw [decide_eq_true q'] at h5;exact absurd h5 (by decide))
   | (simp at h5;omega)
 cases hwl with
 | cons w1 w2=>
  cases w2;cases w1 with
  | list ho hall=>exact ⟨_,_,ns,rfl,rfl,ho,a0I ns _ hall,hlen⟩
def a9z (l:OpenLaw) (args:List WData):l.row.toRowW.claim.post args (.bool true) args=true:=
 postW_of (r:=l.row.toRowW) (X:=(true==true))
  (show WShape.has [] (.bool true) .bool=true by first | rfl | decide | simp [WShape.has,WShape.arms,WShape.armsAll])
  (show (WTm.eq .res (.lit (.bool true))).value [] { args:=args,res:=some (.bool true),after:=args }=some (.bool (true==true)) from w_eq_bool (w_res rfl) w_lit) rfl
def attach_call {l:OpenLaw} {q:Program} {loose:T0q} {XP:(Str->Option Value)->Heap->Prop} {YP:World->Heap->Prop} {d:DefRec} 
  (hn:l.most=some n) (hdf:d.params.defaults=[])
  (call:∀ (w:World) (s₀ s1z:Shared) (mg mb:T0d) (fa:Addr) (o:Obj) (pm cd doc:Value) (a:Addr) (vs:T0m) (ns:T0s),
   Ground q loose [] XP w s₀ mg mb s1z.heap->YP w s1z.heap ->
   s1z.heap.get? fa=some o->o.data=.func (docDef d.name d.params d.body d.scope pm cd doc)->s1z.heap.CodeRec cd d.name->mg d.name=some (.ref fa) ->
   s1z.heap.get? a=some { cls:=.type "list", data:=.seq vs.toArray }->ul vs ns->ns.length<=n->s1z.gens=#[] ->
   ua (model l.prog w) Qc (.call (.ref fa) ⟨[.ref a],[]⟩) (λr s'=>r=.ok (.ret (.bool true))/\OldK s1z.heap s'.heap/\s'.os=s1z.os/\QC s'.gens) s1z):
  WalkO q loose XP YP l.row.toRowW d [] (λf vs=>PySem.call f vs):=by
 intro w s₀ s1z mg mb G Y fa o pm cd doc dV kV ho hd hcd hD hmg hg args vals as hpre hlay hrd hwl hlo;obtain rfl:dV=.none:=Dflts.none hD hdf;obtain rfl:kV=.none:=Dflts.noKw hD;obtain ⟨a,vs,ns,rfl,rfl,hobj,hints,hlen⟩:=a9s hn hpre hwl;refine enter_call (yo (call w s₀ s1z mg mb fa o pm cd doc a vs ns G Y ho (fd_plain hd) hcd hmg hobj hints hlen hg) λr s' hq=>?_);obtain ⟨rfl,h2,h3,h4⟩:=hq;exact ⟨.inl ⟨.bool true,.bool true,[],rfl,λ_=>rfl,.bool true,a9z l _,λ_=>⟨List.Pairwise.nil,λ_ hm=>(nomatch hm)⟩⟩,h2,h3,h4⟩
section
variable {K:Frag}
end
end Att
namespace L2
open PySem PySem.Spec PyProof.Rows
theorem xR:∀ {vs:T0m} {ns:T0s},ul vs ns->aU (ns.map V.int) vs
 | _,_,.nil=>.nil
 | _,_,.cons n t h=>.cons ⟨t,rfl⟩ (xR h)
def c1O (H:Hp):Prop:=∀ b,H b=none\/∃ o xs,H b=some (.frz o (.lst xs))
def eJ (s:Stmt):Arguments:=match s with
 | .FunctionDef _ a _ _ _ _ _ _ _ _=>a
 | _=>{ posonlyargs:=[],args:=[],vararg:=none,kwonlyargs:=[],kw_defaults:=[],kwarg:=none,defaults:=[] }
def bN (s:Stmt):List Stmt:=match s with
 | .FunctionDef _ _ b _ _ _ _ _ _ _=>b
 | _=>[]
def aD (s:Stmt):Scope:=match s with
 | .FunctionDef _ _ _ _ _ _ sc _ _ _=>sc
 | _=>{ kind:=.function,names:=[],isGenerator:=false,isCoroutine:=false }
abbrev CX0:CXT:=λ_ _ _ _ _ _=>False
abbrev E0:XK:=λ_ _ _=>False
def a8p:a0l CX0 X E0:=λ_ _ _ _ _ _ _ h=>h.elim
structure Fun (K:qB) (x qual:Str) (st:Stmt) (f:Addr) (fd:yk):Prop where
 ex:∃ (oc:Value) (od:T0k) (kV doc pm:Value) (an:T0k) (cdv ct:Value) (osl:Array (Option Value)),
  fd=je x qual (eJ st) (bN st) (aD st) .none kV doc pm an cdv ct/\K.lookup f=some ⟨oc,od,.func fd,osl⟩/\zN K cdv qual=true
 kp:jp K (.ref f)=true
variable {f:Addr}
section
variable {K:qB}
theorem Fun.ok {x:Str} (F:Fun K x qual st f fd) (S:FnScope N ps (aD st)) (len:∀ vs H Q E,sp vs H Q E->vs.length=ps.length)
  (hbody:∀ (cdv:Value) (A:Around) (outer:List Env) (s:Shared) (H:Hp) (vs:List V) (Q:VK) (E:XK),Room k (A.deeper (um qual (aD st) s.heap.objs.size f cdv))->sp vs H Q E ->
   ∃ t,PSs (a6n CX0 P w K mg base N qual (aD st) f cdv A outer s H E).nox (bN st) t/\t { nx:=λ_ H'=>Q .non H',rt:=Q } (start N vs) H):FnOk P w K mg base CX0 (k+1) f fd ps sp:=by
 obtain ⟨oc,od,kV,doc,pm,an,cdv,ct,osl,rfl,lk,hcd⟩:=F.ex;refine b6D lk hcd S len λA outer s H vs Q E hr hsp=>?_;obtain ⟨t,h,q⟩:=hbody cdv A outer s H vs Q E hr hsp;exact ⟨t,h.nox,q⟩
def Fun.binds {x:Str} (F:Fun K x qual st f fd)
  (h:∀ (kV doc pm:Value) (an:T0k) (cdv ct:Value) (us:T0m),us.length=ps.length->uo (je x qual (eJ st) (bN st) (aD st) .none kV doc pm an cdv ct) ⟨us,[]⟩=pure (ps.zip us)):Binds K fd ps []:=by
 obtain ⟨oc,od,kV,doc,pm,an,cdv,ct,osl,rfl,lk,hcd⟩:=F.ex;exact .all (h kV doc pm an cdv ct)
def a4O {x:Str} {osl:Array (Option Value)} {kV:Value} (l:K.lookup f=some ⟨oc,od,.func (je x qual (eJ st) (bN st) (aD st) .none kV doc pm an cdv ct),osl⟩)
  (c:zN K cdv qual=true) (k:jp K (.ref f)=true):Fun K x qual st f (je x qual (eJ st) (bN st) (aD st) .none kV doc pm an cdv ct):=⟨⟨oc,od,kV,doc,pm,an,cdv,ct,osl,rfl,l,c⟩,k⟩
end
def nU (h:n<=1000):n<j5:=vF h (by decide)
def pv (i:Nat) {x:Str} (hN:X.N[i]?=some x:=by rfl) (hv:Vis X.env.scope x:=by first | exact kC rfl | exact jY (kC rfl) | exact jY (jY rfl)) (hd:(x==("__debug__" : Str))=false:=by decide)
  (hcd:(x==("__classdict__" : Str))=false:=by decide):PE X (.Name x pos) (b8Y i):=dI hN hv hd hcd
variable {A B:Prop}
def c1r (h:B):if false=true then A else B:=by
 rw [if_neg qe];exact h
def c1q (h:A):if true=true then A else B:=by
 rw [if_pos rfl];exact h
def bJ (H H':Hp):Prop:=∀ b o,H b=some o->H' b=some o
def bJ.refl (H:Hp):bJ H H:=λ_ _ h=>h
def bJ.trans (a:bJ H H1) (b:bJ H1 H2):bJ H H2:=λc o h=>b c o (a c o h)
def bJ.free (e:bJ H H') (h:H' l=Option.none):H l=Option.none:=by
 cases q:H l with
 | none=>rfl
 | some o=>
  rw [e l o q] at h;cases h
theorem bJ.seq {K:qB} (e:bJ H H') (h:SqL K H a xs):SqL K H' a xs:=by
 rcases h with (h | ⟨o,h⟩) | h
 ·exact .inl (.inl (e _ _ h))
 ·exact .inl (.inr ⟨o,e _ _ h⟩)
 ·exact .inr h
def a7E {α β:Type} {l:List α} {f:α->β->Sem (ForInStep β)} {g:α->β->β}:∀ (c:β),(∀ x∈l,∀ c,f x c=pure (.yield (g x c)))->(forIn l c f:Sem β)=pure (l.foldl (λc x=>g x c) c):=by
 induction l with
 | nil=>intro c _;rfl
 | cons x r ih=>
  intro c h;rw [vA,h x qf];exact ih _ λy hy=>h y (qE _ hy)
def nJ (env:Env) (p:Str×yy) (cs:T0f):List (Str×Addr):=
 if p.2=.free then (match env.cells.lookup p.1 with | some a=>(p.1,a)::cs | none=>cs) else cs
def xB (scope:Scope) (env:Env):List (Str×Addr):=scope.names.foldl (λcs p=>nJ env p cs) []
def pF {env:Env} (h:∀ p∈scope.names,p.2=.free->∃ c,env.cells.lookup p.1=some c):closureFor scope env=pure (xB scope env):=by
 simp only [closureFor]
 rw [a7E (g:=nJ env) [] (λx hx c=>by
  obtain ⟨n,kind⟩:=x;by_cases hk:kind=.free
  ·subst hk
   obtain ⟨a,e⟩:=h _ hx rfl;have e':env.cells.lookup n=some a:=e;simp [nJ,e',cellOf]
   try rfl
  ·have hb:(kind==kz)=false:=by simpa using hk
   simp [nJ,hb,hk])]
 rfl
theorem b6J {env:Env}:∀ (names:List (Str×yy)) (cs:T0f),(∀ x c,(x,c)∈cs->env.cells.lookup x=some c) ->
  ∀ x c,(x,c)∈names.foldl (λcs p=>nJ env p cs) cs->env.cells.lookup x=some c
 | [],cs,h=>h
 | p::r,cs,h=>by
  refine b6J r _ ?_;intro x c hx;unfold nJ at hx;dsimp only at hx;split at hx
  ·split at hx
   ·rename_i a e
    rcases qI.mp hx with z | z
    ·cases z;exact e
    ·exact h x c z
   ·exact h x c hx
  ·exact h x c hx
theorem a9c {env:Env} {q:Str×Addr}:∀ (names:List (Str×yy)) (cs:T0f),q∈cs->q∈names.foldl (λcs p=>nJ env p cs) cs
 | [],_,h=>h
 | p::r,cs,h=>by
  refine a9c r _ ?_;unfold nJ;dsimp only;split
  ·split
   ·exact qE _ h
   ·exact h
  ·exact h
theorem b3z {env:Env} {x:Str} {c:Addr} (e:env.cells.lookup x=some c):∀ (names:List (Str×yy)) (cs:T0f),(x,kz)∈names->(x,c)∈names.foldl (λcs p=>nJ env p cs) cs
 | [],_,h=>by simp at h
 | p::r,cs,h=>by
  rcases qI.mp h with z | z
  ·subst z
   refine a9c r _ ?_;unfold nJ;dsimp only;rw [if_pos rfl,e];exact qf
  ·exact b3z e r _ z
theorem lQ {α:Type} {x:Str} {c:α}:∀ {l:List (Str×α)},(x,c)∈l->∃ c',l.lookup x=some c'
 | [],h=>by simp at h
 | (y,d)::r,h=>by
  by_cases e:x=y
  ·subst e;exact ⟨d,by simp [kR]⟩
  ·have hb:(x==y)=false:=by simpa using e
   rcases qI.mp h with z | z
   ·cases z;exact absurd rfl e
   ·obtain ⟨c',q⟩:=lQ z
    exact ⟨c',by simp [kR,hb,q]⟩
variable {c:Addr}
def a4Z {env:Env} {x:Str} (h:(xB scope env).lookup x=some c):env.cells.lookup x=some c:=
 b6J scope.names [] (λ_ _ z=>by simp at z) x c (ql h)
def xA {env:Env} {x:Str} (hx:(x,kz)∈scope.names) (e:env.cells.lookup x=some c):(xB scope env).lookup x=some c:=by
 obtain ⟨c',q⟩:=lQ (b3z e scope.names [] hx);have:=a4Z (scope:=scope) q;rw [e] at this;cases this;exact q
theorem lA {env:Env} (hf:env.scope.kind=.function):∀ {names:List (Str×yy)} {x:Str},names.lookup x=some .free->env.kindOf x=some .cell ->
  (names.map λ(n,k)=>if (k==kz&&env.scope.kind==.function&&env.kindOf n==some .cell) then (n,wC) else (n,k)).lookup x=some .cell
 | [],_,h,_=>by simp at h
 | (n,k)::r,x,h,hk=>by
  have ih:=@lA env hf r x;show zZ x ((if (k==kz&&env.scope.kind==.function&&env.kindOf n==some .cell)=true then (n,wC) else (n,k))::_)=_;cases hx:x==n with
  | true=>
   simp only [kR,hx] at h;have e:x=n:=by simpa using hx
   subst e;cases h;have hc:(kz==kz&&env.scope.kind==.function&&env.kindOf x==some wC)=true:=by rw [hf,hk];rfl
   rw [if_pos hc];simp [kR]
  | false=>
   simp only [kR,hx] at h;by_cases hc:(k==kz&&env.scope.kind==.function&&env.kindOf n==some .cell)=true
   ·rw [if_pos hc];simp only [kR,hx];exact ih h hk
   ·rw [if_neg hc];simp only [kR,hx];exact ih h hk
theorem lH:∀ (names:List (Str×yy)) (n:Nat) (acc cl:T0f),v6 n names (acc++cl)=v6 n names acc++cl
 | [],_,_,_=>rfl
 | (x,k)::r,n,acc,cl=>by
  unfold v6;split
  ·exact lH r (n+1) ((x,n)::acc) cl
  ·exact lH r n acc cl
def fW (names:List (Str×yy)) (n:Nat) (cl:T0f) {x:Str} (h:(v6 n names cl).lookup x=some c):
  (v6 n names []).lookup x=some c\/((v6 n names []).lookup x=none/\cl.lookup x=some c):=by
 have e:=lH names n [] cl;rw [zB] at e;rw [e,vH] at h;cases q:(v6 n names []).lookup x with
 | some d=>rw [q] at h;exact .inl h
 | none=>rw [q] at h;exact .inr ⟨rfl,h⟩
def a6s (names:List (Str×yy)) (n:Nat) (cl:T0f) {x:Str} (h:cl.lookup x=some c):∃ d,(v6 n names cl).lookup x=some d:=by
 have e:=lH names n [] cl;rw [zB] at e;rw [e,vH];cases q:(v6 n names []).lookup x with
 | some d=>exact ⟨d,rfl⟩
 | none=>exact ⟨c,h⟩
def a6t (names:List (Str×yy)) (n:Nat) (cl:T0f) {x:Str} (h0:(v6 n names []).lookup x=none) (h:cl.lookup x=some c):(v6 n names cl).lookup x=some c:=by
 have e:=lH names n [] cl;rw [zB] at e;rw [e,vH,h0];exact h
def a6u (names:List (Str×yy)) (n:Nat) (cl:T0f) {x:Str} (h:(v6 n names []).lookup x=some c):(v6 n names cl).lookup x=some c:=by
 have e:=lH names n [] cl;rw [zB] at e;rw [e,vH,h];rfl
theorem a0b:∀ (names:List (Str×yy)) (n:Nat) (acc:T0f) {x:Str} {c:Addr},(x,c)∈v6 n names acc->(x,c)∈acc\/(x,wC)∈names
 | [],_,_,_,_,h=>.inl h
 | (y,k)::r,n,acc,x,c,h=>by
  unfold v6 at h;split at h
  ·rename_i hk
   have hk':k=.cell:=by simpa using hk
   rcases a0b r (n+1) ((y,n)::acc) h with z | z
   ·rcases qI.mp z with z | z
    ·cases z;subst hk';exact .inr qf
    ·exact .inl z
   ·exact .inr (qE _ z)
  ·rcases a0b r n acc h with z | z
   ·exact .inl z
   ·exact .inr (qE _ z)
def b6e {A:Around} {globals:Addr} {cl:T0f} {env:Env} {Q:Env->Shared->Prop} 
  (hQ:Q (newEnv scope s.heap.objs.size globals (v6 (s.heap.objs.size+1) scope.names cl) qual none .none (some env) u5) { s with heap:=Qf (s.heap.push { cls:=.type "dict", data:=.dict #[] }) scope.names }):
  wpAny M A (QJ scope globals cl [] qual none .none (some env)) Q E s:=by
 simp only [QJ,Option.isSome_some,if_true];refine q8 (wpAny_alloc ?_);refine q8 (wpAny_layCells _ (λname kind cells=>by cases hkc:kind==wC<;>simp [hkc]) _ _ _ _ ?_);rw [show ({ s with heap:=s.heap.push { cls:=.type "dict", data:=.dict #[] } }:Shared).heap.objs.size=s.heap.objs.size+1 from qv ..];refine q8 (j3 ?_);exact j3 hQ
structure Blk (X:Cx) (scope:Scope) (N':T0q) (cap:T0e):Prop where
 kind:scope.kind=.function
 cells:∀ y∈scope.names,y.2=.cell->scope.names.lookup y.1=some .cell
 names:∀ y∈scope.names,y.2=.local->scope.names.lookup y.1=some .local
 free:∀ y∈scope.names,y.2=.free->X.env.kindOf y.1=some .cell
 caps:∀ (i j:Nat),cap[i]?=some (some j)->∃ x,N'[i]?=some x/\X.N[j]?=some x/\scope.names.lookup x=some .free
 len:cap.length=N'.length
 nd:N'.Nodup
def fX (cap:T0e) (σ:St):St:=cap.map λo=>match o with
 | some j=>(σ[j]?).getD none
 | none=>none
def bY (X:Cx) (scope:Scope) (N':T0q) (C:Addr) (s3z:Shared) (H3z:Hp) (fp:T0o):Cx:=
 { X with env:=compEnvC scope (v6 (C+1) scope.names (xB scope X.env)) C X.env,N:=N',s₀:=s3z,H₀:=H3z,outer:=X.stack,ex:=fp,fn:=λx=>decide (scope.names.lookup x=some .cell),pn:=[],xe:=λ_ _=>False }
def b6d {cap:T0e} {tk:Nat} {m':T0d} 
  (B:Blk X scope N' cap) (I:Inv X pq σ H s) (hf:∀ b∈fp,xM X pq H b) (hlt:∀ b∈fp,b<s.heap.objs.size)
  (hn:h'.Ns s.heap.objs.size m') (hk:∀ b o,s.heap.get? b=some o->h'.get? b=some o) (ow:CellsOk h' (s.heap.objs.size+1) (v6 (s.heap.objs.size+1) scope.names [])):
  Inv (bY X scope N' s.heap.objs.size s H fp) [] (fX cap σ) H { s with heap:=h',toks:=tk }:=by
 have cl:∀ x c,(xB scope X.env).lookup x=some c->X.env.cells.lookup x=some c:=λx c h=>a4Z h;have hsz:∀ x c,X.env.cells.lookup x=some c->c<s.heap.objs.size:=λx c e=>by
  obtain ⟨v,q⟩:=I.cell x c e;exact q.lt
 have own:∀ x c,(v6 (s.heap.objs.size+1) scope.names []).lookup x=some c->h'.IsCell c none/\s.heap.objs.size<c:=λx c e=>by
  obtain ⟨q1,q2⟩:=ow.empty x c (ql e);exact ⟨q1,qa (kt _) q2⟩
 refine ⟨⟨I.ok.mod,B.kind,I.ok.glob,I.ok.blt,qM _,?_,?_,?_,I.ok.hd,I.ok.frames,.inl rfl,?_,I.bs,qk I.ok.bsz I.sz,?_,?_,I.stack,I.stkFree⟩,
  rfl,I.bare,Un.kept hk,⟨m',hn,?_⟩,?_,I.hok.fresh (qM _),?_,?_,I.hok.kept hk,?_⟩
 ·intro x y c h1 h2
  rcases fW _ _ _ h1 with a1 | ⟨_,a1⟩<;>rcases fW _ _ _ h2 with a2 | ⟨_,a2⟩
  ·exact name_of_addr ow.apart (ql a1) (ql a2)
  ·exact absurd (hsz y c (cl y c a2)) (wm (own x c a1).2)
  ·exact absurd (hsz x c (cl x c a1)) (wm (own y c a2).2)
  ·exact I.ok.inj x y c (cl x c a1) (cl y c a2)
 ·intro x hx
  have hx:(relabel scope X.env).names.lookup x=some .cell\/(relabel scope X.env).names.lookup x=some .free:=hx;have key:∃ k,(relabel scope X.env).names.lookup x=some k/\(k=.cell\/k=.free):=by
   rcases hx with h | h
   ·exact ⟨_,h,.inl rfl⟩
   ·exact ⟨_,h,.inr rfl⟩
  obtain ⟨k,hk1,hk2⟩:=key;obtain ⟨⟨n,k0⟩,hm,he⟩:=qO.mp (ql hk1);have fr:(k0=.free\/k0=.cell)/\n=x:=by
   dsimp only at he;by_cases hc:(k0==kz&&X.env.scope.kind==.function&&X.env.kindOf n==some .cell)=true
   ·rw [if_pos hc] at he
    cases he;simp only [qL] at hc;exact ⟨.inl (by simpa using hc.1.1),rfl⟩
   ·rw [if_neg hc] at he
    cases he;rcases hk2 with z | z
    ·exact ⟨.inr z,rfl⟩
    ·exact ⟨.inl z,rfl⟩
  obtain ⟨hk0,rfl⟩:=fr;rcases hk0 with rfl | rfl
  ·obtain ⟨c,e⟩:=I.ok.has n (.inl (B.free _ hm rfl))
   exact a6s _ _ _ (xA hm e)
  ·obtain ⟨c,e⟩:=xC (sc:=scope) (n:=s.heap.objs.size+1) (B.cells _ hm rfl)
   exact ⟨c,a6u _ _ _ e⟩
 ·intro x c hx e
  have hx:scope.names.lookup x=some .cell:=of_decide_eq_true hx;rcases fW _ _ _ e with e | ⟨n0,_⟩
  ·exact jN (own x c e).2
  ·obtain ⟨d,q⟩:=xC (sc:=scope) (n:=s.heap.objs.size+1) hx
   rw [q] at n0;cases n0
 ·intro b hb
  refine ⟨qc (hlt b hb),λx c e=>?_⟩;rcases fW _ _ _ e with e | ⟨_,e⟩
  ·exact λz=>absurd (hlt b hb) (wm (by rw [<-z];exact (own x c e).2))
  ·exact (hf b hb).2.2.2.2.1 x c (cl x c e)
 ·intro b o e hb
  rcases (hf b hb).2.2.2.1 with z | z
  ·exact I.ok.noex b o e z
  ·exact absurd (qa (qN e) (qk I.ok.bsz z)) (ji _)
 ·intro b hb hfs
  rcases qI.mp (I.stkSub b hfs) with z | z
  ·exact (hf b hb).2.1 z
  ·exact (hf b hb).2.2.1 z
 ·intro i x v e1 e2 _
  have e1:N'[i]?=some x:=e1;have e2:(fX cap σ)[i]?=some (some v):=e2;unfold fX at e2;rw [qQ] at e2;cases hc:cap[i]? with
  | none=>rw [hc] at e2;cases e2
  | some o=>
   rw [hc] at e2;cases o with
   | none=>cases e2
   | some j=>
    have e3:(σ[j]?).getD none=some v:=qA e2;have e4:σ[j]?=some (some v):=by
     cases q:σ[j]? with
     | none=>rw [q] at e3;cases e3
     | some w'=>rw [q] at e3;have:w'=some v:=e3;rw [this]
    obtain ⟨y,h1,h2,h3⟩:=B.caps i j hc;rw [e1] at h1;cases h1;have hcell:X.env.kindOf x=some .cell:=B.free _ (ql h3) rfl;obtain ⟨m,_,hl⟩:=I.loc;obtain ⟨u,r,l⟩:=hl j x v h2 e4 (.inr (.inl hcell));refine ⟨u,r,?_⟩;rcases l with ⟨k,_⟩ | ⟨_,c,e,z⟩
    ·rw [hcell] at k;cases k
    ·refine .inr ⟨.inl ?_,c,a6t _ _ _ ?_ (xA (ql h3) e),?_⟩
     ·exact lA I.ok.kind h3 hcell
     ·cases q:(v6 (s.heap.objs.size+1) scope.names []).lookup x with
      | none=>rfl
      | some d=>
       rcases a0b _ _ _ (ql q) with z | z
       ·cases z
       ·rw [B.cells _ z rfl] at h3;cases h3
     ·obtain ⟨o,q1,q2⟩:=z
      exact ⟨o,hk c o q1,q2⟩
 ·intro x c e
  rcases fW _ _ _ e with e | ⟨_,e⟩
  ·exact ⟨none,(own x c e).1⟩
  ·obtain ⟨v,o,q1,q2⟩:=I.cell x c (cl x c e)
   exact ⟨v,o,hk c o q1,q2⟩
 ·intro x c e
  rcases fW _ _ _ e with e | ⟨_,e⟩
  ·exact I.hok.fresh (jN (own x c e).2)
  ·exact I.freeC x c (cl x c e)
 ·intro p hp
  exact absurd (show p∈([]:T0b) from hp) (by simp)
 ·show (fX cap σ).length=N'.length
  unfold fX;rw [qF];exact B.len
def PTs (X:Cx) (ifs:T0n) (t:TT):Prop:=
 ∀ (pq:T0b) (s:Shared) (σ:St) (H:Hp) (Q:Bool->Hp->Prop),Inv X pq σ H s->t σ H Q ->
  wpAny (model X.prog X.w) X.A (forIn ifs true λc r=>if r=true then do let ok <-isTrue c X.env (eval c X.env);pure (ForInStep.yield ok) else pure (ForInStep.yield r)) (TP X pq σ Q) X.xe s
def c0V:TT:=λ_ H Q=>Q true H
def b4p:PTs X [] c0V:=λ_ _ _ H _ I h=>wpAny_tests_nil ⟨H,I,h⟩
def b4o {c:Expr} {t:TT} (h:PT X c t):PTs X [c] t:=λpq s σ H Q I hw=>wpAny_tests_one (h pq s σ H Q I hw)
def xL (J:It) (g:TG) (tc:TT) (te:TE) (σ0:St) (H:Hp) (Q:VK):Prop:=
 ∃ W:Addr->Nat->Nat->List V->St->Hp->Prop,∀ D,H D=none->(∃ m,W D 0 m [] σ0 (upd H D (.lst [])))/\∀ i m ys σ1 H1,W D i m ys σ1 H1->H1 D=some (.lst ys) ->
  (J.stop i H1/\Q (.ref D) H1)\/(J.go i H1/\∀ x H2,J.yld i H1 x H2->g x σ1 H2 λσ3 H3=>tc σ3 H3 λb H4=>
   if b=true then te σ3 H4 λv H5=>H5 D=some (.lst ys)/\ys.length<j5/\∃ m',m'<m/\W D (i+1) m' (ys++[v]) σ3 (upd H5 D (.lst (ys++[v])))
   else H4 D=some (.lst ys)/\∃ m',m'<m/\W D (i+1) m' ys σ3 H4)
variable {tn:Nat->Heap->Prop} {g:TG} {Q:VK}
def b0l (XE:Addr->Shared->Hp->List Addr->Value->Shared->Prop) {cap:T0e} 
  {RR:Value->Addr->Result->Shared->Prop} (hc:X.calm=true) (B:Blk X scope N' cap) (I:Inv X pq σ H s) (T:Turn X.prog X.w X.K tg J fp it tn) (st:tn 0 s.heap) (hf:∀ b∈fp,xM X pq H b)
  (hg:∀ C s3z H3z fp,PG (bY X scope N' C s3z H3z fp) tg g) (ht:∀ C s3z H3z fp,PTs (bY X scope N' C s3z H3z fp) ifs tc) (he:∀ C s3z H3z fp,PE ((bY X scope N' C s3z H3z fp).wish (XE C s3z H3z fp)) elt te)
  (w:xL J g tc te (fX cap σ) H Q)
  (hx:∀ D s3z H3z e s',Inv X pq σ H3z s3z->(∀ b∈fp,xM X pq H3z b)->H D=none->H3z=upd H D (.lst [])->s.heap.objs.size<=s3z.heap.objs.size->XE s3z.heap.objs.size s3z H3z fp e s' ->
   notedBy (model X.prog X.w) X.A (compEnvC scope (v6 (s3z.heap.objs.size+1) scope.names (xB scope X.env)) s3z.heap.objs.size X.env) (λx s'=>RR (.ref D) s3z.heap.objs.size (.error x) s') e s')
  (fin:∀ D C s' H' m',s.heap.get? C=none->s.heap.objs.size<=C->s'.heap.Ns C m'->H' C=none->Inv X pq σ H' s'->Q (.ref D) H'->RR (.ref D) C (.ok .next) s'):
  wpAny (model X.prog X.w) X.A (newList []) (λacc s3z=>wpAny (model X.prog X.w) X.A (QJ scope X.env.globals (xB scope X.env) [] X.env.qual none .none (some X.env)) (λcenv s4z=>
   cenv.frame=X.env.frame/\ua (model X.prog X.w) X.A (.compStart (.ListComp elt [⟨tg,iter,ifs,0⟩] scope pos) 0 (.ref it) acc { cenv with scope:=relabel scope X.env }) (RR acc cenv.locals) s4z) X.xe s3z) X.xe s:=by
 refine j8 (b6e ?_);dsimp only;obtain ⟨W,hW⟩:=w;have hD:H s.heap.objs.size=none:=I.hok.fresh (qM _);obtain ⟨⟨m0,w0⟩,turn⟩:=hW s.heap.objs.size hD;have I3:Inv X pq σ (upd H s.heap.objs.size (.lst [])) { s with heap:=s.heap.push { cls:=.type "list", data:=.seq ([]:T0m).toArray } }:=I.lnew (its:=[]) (ys:=[]) (t':=s.toks) .nil (qt _);generalize hH2:s.heap.push { cls:=.type "list", dict:=none,data:=.seq ([]:T0m).toArray }=H2 at I3 ⊢;have hC:H2.objs.size=s.heap.objs.size+1:=by rw [<-hH2,qv]
 have lt3:∀ b∈fp,b<s.heap.objs.size:=λb hb=>by
  obtain ⟨o,e,_⟩:=T.obj 0 _ st b hb;exact qN e
 have hf3:∀ b∈fp,xM X pq (upd H s.heap.objs.size (.lst [])) b:=λb hb=>by
  refine ⟨?_,(hf b hb).2⟩;rw [aE (qc (lt3 b hb))];exact (hf b hb).1
 have ow:CellsOk (Qf (H2.push { cls:=.type "dict", data:=.dict #[] }) scope.names) (H2.objs.size+1) (v6 (H2.objs.size+1) scope.names []):=by
  have ok:=cellsFrom_ok scope.names (H2.push { cls:=.type "dict", data:=.dict #[] }) (H2.objs.size+1) [] ⟨λ_ _ hm=>(nomatch hm),List.Pairwise.nil⟩ (by rw [qv];exact qM _);rw [qv] at ok;exact ok
 have hns1:(Qf (H2.push { cls:=.type "dict", data:=.dict #[] }) scope.names).Ns H2.objs.size λ_=>none:=(Heap.Ns.new H2 (.type "dict")).keeps (pushCells_keeps _ _);have keep:∀ b o,H2.get? b=some o->(Qf (H2.push { cls:=.type "dict", data:=.dict #[] }) scope.names).get? b=some o:=λb o e=>pushCells_keeps _ _ b o (qC _ e);generalize Qf (H2.push { cls:=.type "dict", data:=.dict #[] }) scope.names=h₁ at ow hns1 keep ⊢;have I4:Inv (bY X scope N' H2.objs.size { s with heap:=H2 } (upd H s.heap.objs.size (.lst [])) fp) [] (fX cap σ) (upd H s.heap.objs.size (.lst [])) { s with heap:=h₁ }:=
  b6d (s:={ s with heap:=H2 }) B I3 hf3 (λb hb=>by show b<H2.objs.size;rw [hC];exact jl (lt3 b hb)) hns1 keep ow
 have st4:tn 0 h₁:=T.keep 0 _ _ st λb hb o e=>keep b o (by rw [<-hH2];exact qC _ e);have loop:∀ s5z:Shared,s5z={ s with heap:=h₁ } ->
   ua (model X.prog X.w) X.A (.compLoop (.ListComp elt [⟨tg,iter,ifs,0⟩] scope pos) 0 (.ref it) (.ref s.heap.objs.size) (compEnvC scope (v6 (H2.objs.size+1) scope.names (xB scope X.env)) H2.objs.size X.env))
    (RR (.ref s.heap.objs.size) H2.objs.size) s5z:=by
  rintro s5z rfl;refine codeAny_loop rfl (λn s'=>∃ i ys σ' H',Inv (bY X scope N' H2.objs.size { s with heap:=H2 } (upd H s.heap.objs.size (.lst [])) fp) [] σ' H' s'/\tn i s'.heap/\(∀ b∈fp,H' b=none)/\H' s.heap.objs.size=some (.lst ys)/\W s.heap.objs.size i n ys σ' H') ?_ m0
   ⟨0,[],_,_,I4,st4,λb hb=>(hf3 b hb).1,aH,w0⟩
  rintro n s6 ⟨i,ys,σ6,H6,I6,st6,fr6,hD6,w6⟩;show wpAny _ X.A ((compTurn (.ListComp elt [⟨tg,iter,ifs,0⟩] scope pos) 0 (.ref it) (.ref s.heap.objs.size) (compEnvC scope (v6 (H2.objs.size+1) scope.names (xB scope X.env)) H2.objs.size X.env)).onRaise (λx=>do noteFrame x (compEnvC scope (v6 (H2.objs.size+1) scope.names (xB scope X.env)) H2.objs.size X.env);theTreesLotGoes x)) _ _ s6;refine wpAny_noted ?_;rw [compTurn_list];have stat:∀ {H':Hp},(∀ b∈fp,H' b=none)->∀ b∈fp,xM (bY X scope N' H2.objs.size { s with heap:=H2 } (upd H s.heap.objs.size (.lst [])) fp) [] H' b:=λhn b hb=>
   ⟨hn b hb,qc (by show b<H2.objs.size;rw [hC];exact jl (lt3 b hb)),I4.ok.exfs b hb,.inl hb,λx c e=>(I4.ok.exf b hb).2 x c e,λp hp=>absurd (show p∈([]:T0b) from hp) (by simp)⟩
  rcases turn i n ys σ6 H6 w6 hD6 with ⟨stop,qn⟩ | ⟨go,step⟩
  ·refine q8 (ur (q8 (thn (T.done (bY X scope N' H2.objs.size { s with heap:=H2 } (upd H s.heap.objs.size (.lst [])) fp) rfl rfl rfl hc i [] s6 _ H6 _ I6 (stat fr6) st6 stop) λr s7 ⟨hr,I7⟩=>?_)))
   subst hr;refine j3 ?_;obtain ⟨m7,hn7,_⟩:=I7.loc;refine fin _ _ s7 H6 m7 ?_ ?_ hn7 I7.free ?_ qn
   ·exact vI (by rw [hC];exact kF _)
   ·rw [hC];exact kF _
   ·refine I3.call' (ch:=fp) ?_ ?_ I7.hok I7.bare λb hb=>?_
    ·exact I7.os
    ·exact I7.base
    ·obtain ⟨f0,f1,f2,f3,f4,f5⟩:=hf3 b hb
     exact ⟨f3,f1,f4,f5⟩
  ·refine q8 (ur (q8 (thn (T.item (bY X scope N' H2.objs.size { s with heap:=H2 } (upd H s.heap.objs.size (.lst [])) fp) rfl rfl rfl hc i [] s6 _ H6 _ I6 (stat fr6) st6 go) λr s7 ⟨u,hr,h7⟩=>?_)))
   subst hr;refine q8 (thn h7 λ_ s8 ⟨x,H8,I8,r8,y8,st8,fr8⟩=>?_);have I8':=I8.pinned (stat fr8) (T.obj _ _ st8);have bad:∀ {α:Type} {t:Sem α} {Q':α->Shared->Prop} {s':Shared} {E:T0a},wpAny (model X.prog X.w) X.A t Q' (λ_ _=>False) s'->wpAny (model X.prog X.w) X.A t Q' E s':=λh=>yi h (λ_ _ q=>q) λ_ _ z=>z.elim;refine q8 (bad (thn (hg _ _ _ _ _ s8 _ H8 x u _ I8' r8 (step x H8 y8)) λ_ s9 ⟨σ9,H9,I9,q9⟩=>?_));refine q8 (bad (thn (ht _ _ _ _ _ s9 σ9 H9 _ I9 q9) λok s10 ⟨H10,I10,q10⟩=>?_));have again:∀ {σ':St} {H':Hp} {ys':List V} {s':Shared} {m':Nat},Inv (bY X scope N' H2.objs.size { s with heap:=H2 } (upd H s.heap.objs.size (.lst [])) fp) ([]++a1r fp s8.heap) σ' H' s'->H' s.heap.objs.size=some (.lst ys') ->
     m'<n->W s.heap.objs.size (i+1) m' ys' σ' H' ->
     ∃ m,m<n/\∃ i ys σ' H',Inv (bY X scope N' H2.objs.size { s with heap:=H2 } (upd H s.heap.objs.size (.lst [])) fp) [] σ' H' s'/\tn i s'.heap/\(∀ b∈fp,H' b=none)/\H' s.heap.objs.size=some (.lst ys)/\W s.heap.objs.size i m ys σ' H':=λ{σ' H' ys' s' m'} J' hD' hm' w'=>by
    refine ⟨m',hm',i+1,ys',σ',H',J'.unpinned,T.keep _ _ _ st8 λb hb o e=>(J'.pin (b,o) (qu _ (qu _ (oV hb e)))).1,λb hb=>?_,hD',w'⟩;obtain ⟨o,e,d⟩:=T.obj _ _ st8 b hb;exact (J'.pin (b,o) (qu _ (qu _ (oV hb e)))).2.1
   cases ok with
   | false=>
    obtain ⟨hD10,m',hm',w'⟩:=q10;exact j3 ⟨rfl,again I10 hD10 hm' w'⟩
   | true=>
    refine q8 (q8 (yi (he _ _ _ _ _ s10 σ9 H10 _ (I10.wish _) q10) (λy s11 ⟨v,H11,I11w,r11,hD11,hlen,m',hm',w'⟩=>?_) λe s' z=>hx _ { s with heap:=H2 } _ e s' I3 hf3 hD rfl (by show s.heap.objs.size<=H2.objs.size;rw [hC];exact kF _) z));have I11:=I11w.unwish;refine q8 (bad <| thn (sP (X:=bY X scope N' H2.objs.size { s with heap:=H2 } (upd H s.heap.objs.size (.lst [])) fp) _ s11 σ9 H11 (.ref s.heap.objs.size) [v] (.ref s.heap.objs.size) [y] (λ_ H'=>H'=upd H11 s.heap.objs.size (.lst (ys++[v]))) I11 rfl (.cons r11 .nil) ⟨_,_,_,rfl,rfl,hD11,hlen,rfl⟩) λ_ s12 ⟨_,H12,I12,_,e12⟩=>?_);subst e12;exact j3 (j3 ⟨rfl,again I12 aH hm' w'⟩)
 exact ⟨rfl,codeAny_compStart_list (loop _ rfl) (T.self _ 0 _ _ _ st4 (loop _ rfl))⟩
def a6p {cap:T0e} 
  {RR:Value->Addr->Result->Shared->Prop} (hc:X.calm=true) (B:Blk X scope N' cap) (I:Inv X pq σ H s) (T:Turn X.prog X.w X.K tg J fp it tn) (st:tn 0 s.heap) (hf:∀ b∈fp,xM X pq H b)
  (hg:∀ C s3z H3z fp,PG (bY X scope N' C s3z H3z fp) tg g) (ht:∀ C s3z H3z fp,PTs (bY X scope N' C s3z H3z fp) ifs tc) (he:∀ C s3z H3z fp,PE (bY X scope N' C s3z H3z fp) elt te)
  (w:xL J g tc te (fX cap σ) H Q)
  (fin:∀ D C s' H' m',s.heap.get? C=none->s.heap.objs.size<=C->s'.heap.Ns C m'->H' C=none->Inv X pq σ H' s'->Q (.ref D) H'->RR (.ref D) C (.ok .next) s'):
  wpAny (model X.prog X.w) X.A (newList []) (λacc s3z=>wpAny (model X.prog X.w) X.A (QJ scope X.env.globals (xB scope X.env) [] X.env.qual none .none (some X.env)) (λcenv s4z=>
   ua (model X.prog X.w) X.A (.compStart (.ListComp elt [⟨tg,iter,ifs,0⟩] scope pos) 0 (.ref it) acc { cenv with scope:=relabel scope X.env }) (RR acc cenv.locals) s4z) X.xe s3z) X.xe s:=
 yi (b0l (λ_ _ _ _ _ _=>False) hc B I T st hf hg ht he w (λ_ _ _ _ _ _ _ _ _ _ z=>z.elim) fin) (λ_ _ h=>yi h (λ_ _ z=>z.2) λ_ _ z=>z) λ_ _ z=>z
def b6p (wi:TI) (cap:T0e) (g:TG) (tc:TT) (te:TE):TE:=λσ H Q=>wi σ H λJ H1=>xL J g tc te (fX cap σ) H1 Q
section
variable {cap:T0e}
def a8m (hc:X.calm=true) (B:Blk X scope N' cap) (hi:PI X tg iter wi)
  (hg:∀ C s3z H3z fp,PG (bY X scope N' C s3z H3z fp) tg g) (ht:∀ C s3z H3z fp,PTs (bY X scope N' C s3z H3z fp) ifs tc) (he:∀ C s3z H3z fp,PE (bY X scope N' C s3z H3z fp) elt te)
  (hs:∀ x,w5 iter X.env x=pure x:=by intro _;rfl):PE X (.ListComp elt [⟨tg,iter,ifs,0⟩] scope pos) (b6p wi cap g tc te):=by
 intro pq s σ H Q I h;rw [eval_ListComp];refine wpAny_comprehension_free (use:=none) rfl hs (pF λp hp hk=>I.ok.has p.1 (.inl (B.free p hp hk))) B.kind B.names ?_;refine thn (hi pq s σ H _ I h) λv s1 h1=>thn h1 λitv s2 ⟨it,fp,tn,J,H2,e,I2,T,st2,f2,w⟩=>?_;subst e;refine a6p (RR:=λacc C=>compPost (model X.prog X.w) X.A X.xe none (EP X pq σ Q) acc C) hc B I2 T st2 f2 hg ht he w ?_;intro D C s' H' m' hC hCs hn hCf I' q;refine ⟨m',hn,λh'' hs''=>⟨.ref D,H',?_,rfl,q⟩⟩;refine I'.turned (t':=s'.toks) (it:=C) (λb o hb e=>hs''.extBut b o hb e) hCf ?_ (.inr (qk I2.sz hCs)) ?_ ?_
 ·exact jS (qa I2.lt hCs)
 ·intro x c e z
  obtain ⟨v,q⟩:=I2.cell x c e;exact absurd (qa q.lt (by rw [z];exact hCs)) (ji _)
 ·intro p hp z
  exact absurd (qa (qN (I2.pin p hp).1) (by rw [z];exact hCs)) (ji _)
def a4t {x:Str} (hN:X.N.Nodup) (hxi:X.N[i]?=some x) (hx:X.env.scope.names.lookup x=some .local) (hc:X.calm=true) (B:Blk X scope N' cap) (hi:PI X tg iter wi)
  (hg:∀ C s3z H3z fp,PG (bY X scope N' C s3z H3z fp) tg g) (ht:∀ C s3z H3z fp,PTs (bY X scope N' C s3z H3z fp) ifs tc) (he:∀ C s3z H3z fp,PE (bY X scope N' C s3z H3z fp) elt te)
  (hsw:wy (.ListComp elt [⟨tg,iter,ifs,0⟩] scope pos) (some (.Name x pos')) spos.line X.env=pure true)
  (hs:∀ x,w5 iter X.env x=pure x:=by intro _;rfl):
  PS X (.Assign [.Name x pos'] (.ListComp elt [⟨tg,iter,ifs,0⟩] scope pos) spos) (b9f (b6p wi cap g tc te) (b2N i)):=by
 intro pq s σ H Dn I h;rw [exec_Assign_Name_used _ _ _ _ hsw];refine q8 (ur (q8 ?_));show wpAny _ X.A (do let _ <-comprehension (.ListComp elt [⟨tg,iter,ifs,0⟩] scope pos) scope X.env _ (newList []) false (eval iter X.env) (some (assign (.Name x pos') X.env))) _ _ s;refine q8 (yi (wpAny_comprehension_free (use:=some (assign (.Name x pos') X.env)) (Q:=λ_ s'=>SP X pq Dn .next s') rfl hs (pF λp hp hk=>I.ok.has p.1 (.inl (B.free p hp hk))) B.kind B.names ?_) (λ_ s' hq=>j3 (j3 hq)) λ_ _ e=>e);refine thn (hi pq s σ H _ I h) λv s1 h1=>thn h1 λitv s2 ⟨it,fp,tn,J,H2,e,I2,T,st2,f2,w⟩=>?_;subst e;refine a6p (RR:=λacc C=>compPost (model X.prog X.w) X.A X.xe (some (assign (.Name x pos') X.env)) (λ_ s'=>SP X pq Dn .next s') acc C) hc B I2 T st2 f2 hg ht he w ?_;intro D C s' H' m' hC hCs hn hCf I' q;have nL:C≠X.env.locals:=jS (qa I2.lt hCs);have nC:∀ y c,X.env.cells.lookup y=some c->c≠C:=λy c e z=>by
  obtain ⟨v,q⟩:=I2.cell y c e;exact absurd (qa q.lt (by rw [z];exact hCs)) (ji _)
 show wpAny _ X.A (assign (.Name x pos') X.env (.ref D)) _ _ _;refine wpAny_assign_Name (a2N (v:=.ref D) I' hN hxi (.inl hx) rfl (λs3 I3 ⟨a,hsb,ha⟩=>?_) (.inr hx));have ne:C≠a:=by
  rcases ha with z | z
  ·rw [z];exact nL
  ·exact λy=>nC x a z y.symm
 refine ⟨m',hn.sameBut hsb ne,λh'' hs''=>⟨_,H',?_,q⟩⟩;refine I3.turned (t':=s3.toks) (it:=C) (λb o hb e=>hs''.extBut b o hb e) hCf nL (.inr (qk I2.sz hCs)) nC ?_;intro p hp z;exact absurd (qa (qN (I2.pin p hp).1) (by rw [z];exact hCs)) (ji _)
end
end L2
namespace L2.L3
open PySem PySem.Spec PyProof.Rows PySem.W
def c0e (K:Frag) (c:Str):Option Addr:=match nsIn K j6 c with
 | some (some (.ref C))=>some C
 | _=>none
structure ExO (h:Heap) (a C:Addr) (ox:Obj):Prop where
 at_:h.get? a=some ox
 cls:ox.cls=.ref C
end L2.L3
namespace L2.HS
open PySem PyProof.Rows
def hsh:Nat->j0->Bool
 | _,.int _=>true
 | _,.str x=>jJ (.str x)
 | n+1,.tuple ds=>ds.all (hsh n)
 | _,_=>false
def hD (w:World):Nat->j0->Int
 | _,.int i=>hashInt i
 | _,.str x=>hashStr w x
 | n+1,.tuple ds=>reduceHash (jm (ds.map (hD w n)))
 | _,_=>0
def drw:Nat->j0->Nat
 | _,.int _=>1
 | _,.str _=>1
 | n+1,.tuple ds=>(ds.map (drw n)).sum+1
 | _,_=>0
def oX:∀ (n:Nat) (d:j0),hsh n d=true->d.canLay0=true:=by
 intro n
 induction n with
 | zero=>intro d h;cases d<;>first | (simp [hsh] at h;done) | (simp [jJ];done) | exact h
 | succ n ih=>
  have all:∀ ds:List j0,ds.all (hsh n)=true->kr ds=true:=by
   intro ds
   induction ds with
   | nil=>intro _;simp [kr]
   | cons x xs ihx=>
    intro h;rw [jG,qL] at h;rw [kr,qL];exact ⟨ih x h.1,ihx h.2⟩
  intro d h;cases d with
  | tuple ds=>rw [jJ];exact all ds h
  | int i=>simp [jJ]
  | str x=>exact h
  | _=>simp [hsh] at h
def a9V:∀ (n:Nat) (d:j0),hsh n d=true->d.depth<=n+1:=by
 intro n
 induction n with
 | zero=>intro d h;cases d<;>first | (simp [hsh] at h;done) | (simp [jr];done)
 | succ n ih=>
  have all:∀ ds:List j0,ds.all (hsh n)=true->zO ds<=n+1:=by
   intro ds
   induction ds with
   | nil=>intro _;simp [zO]
   | cons x xs ihx=>
    intro h;rw [jG,qL] at h;rw [zO];exact Nat.max_le.mpr ⟨ih x h.1,ihx h.2⟩
  intro d h;cases d with
  | tuple ds=>
   have:=all ds h;rw [jr];omega
  | int i=>simp [jr]
  | str x=>simp [jr]
  | _=>simp [hsh] at h
def b8q:∀ (n m:Nat) (x y:j0),hsh n x=true->hsh m y=true->qw x y=true->x=y:=by
 intro n
 induction n with
 | zero=>
  intro m x y h h' e;cases x<;>first | (simp [hsh] at h;done) | (cases y<;>first | (simp [qw] at e;done) | (cases m<;>simp [hsh] at h';done) | (rw [qw] at e;rw [eq_of_beq e]))
 | succ n ih=>
  intro m x y h h' e;cases x with
  | tuple xs=>
   cases y with
   | tuple ys=>
    cases m with
    | zero=>simp [hsh] at h'
    | succ m=>
     have all:∀ xs ys:List j0,xs.all (hsh n)=true->ys.all (hsh m)=true->jI xs ys=true->xs=ys:=by
      intro xs
      induction xs with
      | nil=>intro ys _ _ e;cases ys with | nil=>rfl | cons _ _=>simp [jI] at e
      | cons a xs ihx=>
       intro ys h h' e;cases ys with
       | nil=>simp [jI] at e
       | cons b ys=>
        rw [jG,qL] at h h';rw [jI,qL] at e;rw [ih m a b h.1 h'.1 e.1,ihx ys h.2 h'.2 e.2]
     rw [qw] at e;rw [all xs ys h h' e]
   | _=>simp [qw] at e
  | int i=>cases y<;>first | (simp [qw] at e;done) | (cases m<;>simp [hsh] at h';done) | (rw [qw] at e;rw [eq_of_beq e])
  | str i=>cases y<;>first | (simp [qw] at e;done) | (cases m<;>simp [hsh] at h';done) | (rw [qw] at e;rw [eq_of_beq e])
  | _=>simp [hsh] at h
def a7z:∀ (n:Nat) (d:j0) (v:Value) (as:T0o) (A:Around) (E:T0a) (s:Shared) (Q:Int->Shared->Prop),hsh n d=true->Reads s.heap v d as->A.units+n<cLine->Q (hD w n d) { s with toks:=s.toks+drw n d }->wpAny (model prog w) A (pyHash v) Q E s:=by
 intro n
 induction n with
 | zero=>
  intro d v as A E s Q h r hu q;cases r with
  | int i t=>exact QT q
  | str x t=>exact QU q
  | _=>simp [hsh] at h
 | succ n ih=>
  intro d v as A E s Q h r hu q;cases r with
  | int i t=>exact QT q
  | str x t=>exact QU q
  | @tuple a o vs n' ds as ho hcl hd hi=>
   have hT:s.TypeIs (.ref a) "tuple" := ⟨o,ho,hcl⟩;unfold pyHash
   first | unfold pyHashByItsType | skip
   first | refine q8 (wpAny_cRoomFor_or (.inr (by omega)) ?_) | skip
   refine q8 (QB hT vv.lookup ?_);show wpAny _ _ (if (some (Value.builtin "tuple.__hash__")==some jf)=true then _ else _) Q E s;rw [if_neg (by rw [beq_builtin_none];exact qe)];refine q8 (QB hT vv.lookup ?_);show wpAny _ _ (callSpecialIfBoundUnlessNone? (.ref a) "__hash__" _>>=_) Q E s;refine q8 (wpAny_callSpecialIfBoundUnlessNone?_slot hT vv (j7 vv hT F.entry_tuple_hash ?_ (F.args_tuple_hash_1 _)));show wpAny _ _ (vc (.ref a)>>=_) _ _ s;refine q8 (QN ho hd ?_);refine q8 ?_;rw [<-vK];refine wpAny_forIn_list _
    (λrest (b:Array Int) s'=>∃ done left bs,ds=done++left/\QF s.heap rest left bs/\left.all (hsh n)=true/\b.toList=done.map (hD w n)/\s'={ s with toks:=s.toks+(done.map (drw n)).sum })
    _ ?_ ?_ _ _ ⟨[],ds,_,rfl,hi,h,rfl,rfl⟩
   ·rintro x rest b s' ⟨done,left,bs,rfl,hl,hh,hb,rfl⟩
    cases hl with
    | @cons _ _ k ks' _ _ h1 hl'=>
     rw [jG,qL] at hh;refine q8 (ih k x _ _ _ _ _ hh.1 h1 (by show A.units+1+n<cLine;omega) ?_)
     first
      | exact j3 ⟨done++[k],ks',_,by simp,hl',hh.2,by simp [hb],by simp [wM]⟩
      | exact q8 (j3 (j3 ⟨done++[k],ks',_,by simp,hl',hh.2,by simp [hb],by simp [wM]⟩))
   ·rintro b s' ⟨done,left,bs,rfl,hl,hh,hb,rfl⟩
    cases hl;rw [jt] at q;show wpAny _ _ (retInt (jm b.toList)) _ _ _;rw [hb];refine wpAny_ret_mkInt ?_;show wpAny _ _ (if (decide (-(2:Int) ^ 63<=jm (done.map (hD w n)))&&decide (jm (done.map (hD w n))<2 ^ 63))=true then _ else _) Q E _;have q:Q (reduceHash (jm (done.map (hD w n)))) { s with toks:=s.toks+((done.map (drw n)).sum+1) }:=q;unfold reduceHash at q;by_cases hr:(decide (-(2:Int) ^ 63<=jm (done.map (hD w n)))&&decide (jm (done.map (hD w n))<2 ^ 63))=true
    ·rw [if_pos hr]
     rw [if_pos hr] at q;exact j3 (by simpa [wM] using q)
    ·rw [if_neg hr]
     rw [if_neg hr] at q;exact q8 (yd (j3 (by simpa [wM] using q)))
  | _=>simp [hsh] at h
def a5w:∀ (n m:Nat) (d:j0) (v:Value) (as:T0o) (A:Around) (E:T0a) (s:Shared) (Q:Bool->Shared->Prop),n<=m->hsh n d=true->Reads s.heap v d as->Q true s->wpAny (model prog w) A (eqIsQuiet m v) Q E s:=by
 intro n
 induction n with
 | zero=>
  intro m d v as A E s Q hm h r q;cases r with
  | int i t=>rw [uy _ rfl];exact j3 q
  | str x t=>rw [uy _ rfl];exact j3 q
  | _=>simp [hsh] at h
 | succ n ih=>
  intro m d v as A E s Q hm h r q;cases r with
  | int i t=>rw [uy _ rfl];exact j3 q
  | str x t=>rw [uy _ rfl];exact j3 q
  | @tuple a o vs n' ds as ho hcl hd hi=>
   obtain ⟨m,rfl⟩:∃ m',m=m'+1:=⟨m - 1,by omega⟩;have hT:s.TypeIs (.ref a) "tuple" := ⟨o,ho,hcl⟩;unfold eqIsQuiet;refine q8 (QB hT F.slot_tuple_eq.lookup ?_);show wpAny _ _ (isInstance (.ref a) (.type "tuple")>>=_) _ _ s;refine q8 (yv hT isSubtype_tuple_tuple ?_);simp only [Bool.not_true,kE,if_false];refine q8 (wu ho hd ?_);refine q8 ?_;show wpAny _ _ (forIn vs _ _) _ _ s;rw [<-vK];refine wpAny_forIn_list _ (λrest r s'=>r.1=none/\s'=s/\∃ left bs,QF s.heap rest left bs/\left.all (hsh n)=true) _ ?_ ?_ _ _ ⟨rfl,rfl,ds,_,hi,h⟩
   ·rintro v rest r s' ⟨hr,rfl,left,bs,hl,hh⟩
    cases hl with
    | @cons _ _ k ks' _ _ h1 hl'=>
     rw [jG,qL] at hh;refine q8 (ih m k v _ _ _ _ _ (by omega) hh.1 h1 ?_);simp only [Bool.not_true,kE,if_false];exact j3 ⟨rfl,rfl,ks',_,hl',hh.2⟩
   ·rintro ⟨r1,r2⟩ s' ⟨hr,rfl,_⟩
    simp only at hr;subst hr;exact j3 q
  | _=>simp [hsh] at h
def a7g {h:Heap} {d:Addr} {o:Obj} {es:Array Qa} (ho:h.get? d=some o) (hd:o.data=.dict es ep) (hs:kj d h h'):∀ (n:Nat) (x:j0) (v:Value) (as:T0o),hsh n x=true->Reads h v x as->Reads h' v x as:=by
 intro n
 induction n with
 | zero=>
  intro x v as hx r;cases r with
  | int i t=>exact .int i t
  | str x t=>exact .str x t
  | _=>simp [hsh] at hx
 | succ n ih=>
  have all:∀ (xs:T0l) (vs:T0m) (as:T0o),xs.all (hsh n)=true->QF h vs xs as->QF h' vs xs as:=by
   intro xs
   induction xs with
   | nil=>intro vs as _ r;cases r;exact .nil
   | cons x xs ihx=>
    intro vs as hx r;rw [jG,qL] at hx;cases r with
    | cons r rs=>exact .cons (ih _ _ _ hx.1 r) (ihx _ _ hx.2 rs)
  intro x v as hx r;cases r with
  | int i t=>exact .int i t
  | str x t=>exact .str x t
  | @tuple a o' vs n' ds as g1 g2 g3 g4=>
   have ne:a≠d:=λz=>by
    subst z;rw [ho] at g1;cases g1;rw [hd] at g3;cases g3
   exact .tuple ((hs.2 a ne).trans g1) g2 g3 (all _ _ _ hx g4)
  | _=>simp [hsh] at hx
def seenO (w:World) (a:Addr) (xs:List (j0×Addr×Value)):HO:=.ext λh=>(a==yf)=false/\∃ o es ep,h.get? a=some o/\o.ExactDict/\o.data=.dict es ep/\es.toList=xs.map λx=>(⟨hD w 4 x.1,.ref x.2.1,x.2.2⟩:Qa)
noncomputable instance pyDec:DecidableEq j0:=λa b=>Classical.propDecidable (a=b)
noncomputable def nest (prog:Program) (w:World):HeapKind prog w j0 where
 is:=λh d a=>hsh 4 d=true/\∃ as,Reads h (.ref a) d as
 hash:=hD w 4
 draws:=drw 4
 room:=λA=>A.units+8<cLine
 inj:=λ⟨h1,as,r1⟩ ⟨h2,bs,r2⟩=>SeqAt.Reads.unique _ _ _ _ _ (oX _ _ h1) r1 r2
 keeps:=λ⟨h1,as,r1⟩ ho hd hs=>⟨h1,as,a7g ho hd hs 4 _ _ _ h1 r1⟩
 pyHash:=λhu ⟨h1,as,r1⟩ q=>a7z 4 _ _ _ _ _ _ _ h1 r1 (by omega) q
 eqBool:=λ{A E s x y a b Q} hu ⟨h1,as,r1⟩ ⟨h2,bs,r2⟩ q=>by
  have d1:=a9V 4 _ h1;have hmn:min x.depth y.depth<=x.depth:=Nat.min_le_left _ _;refine SeqAt.eqAt_reads x y A s _ _ as bs r1 r2 (oX _ _ h1) (oX _ _ h2) (by omega) prog w E Q ?_;have e:qw x y=decide (x=y):=by
   by_cases c:x=y
   ·rw [decide_eq_true c,<-c];exact SeqAt.eqv_refl x (oX _ _ h1)
   ·rw [decide_eq_false c]
    cases z:qw x y with
    | false=>rfl
    | true=>exact absurd (b8q 4 4 x y h1 h2 z) c
  rw [e];exact q
 quiet:=λ⟨h1,as,r1⟩ q=>a5w 4 8 _ _ _ _ _ _ _ (by decide) h1 r1 q
end L2.HS
namespace L2.L3
open PySem PySem.Spec PyProof.Rows
def dX:Key->j0
 | .inl i=>.int i
 | .inr x=>.str x
def pB (K:qB):Addr:=match jD K j6 "Filling" with
 | some (some (.ref c))=>c
 | _=>0
def fFs (v1 v2 v3 v4:V):List (Str×V):=[("filled", v1),("taken", v2),("waiting", v3),("left", v4)]
mutual
inductive Rep (K:qB) (G:Hp):V->j0->Prop
 | none:Rep K G .non .none
 | bool (b:Bool):Rep K G (.bl b) (.bool b)
 | int (i:Int):Rep K G (.int i) (.int i)
 | str (x:Str):Rep K G (.str x) (.str x)
 | list {a:Addr} {xs:List V} {ds:T0l}:SqL K G a xs->RepAll K G xs ds->Rep K G (.ref a) (.list ds)
 | tuple {a:Addr} {xs:List V} {ds:T0l}:SqT K G a xs->RepAll K G xs ds->Rep K G (.ref a) (.tuple ds)
 | fil {a dx:Addr} {v1 v2 v3 v4:V} {ds:T0l}:G a=some (.ins (pB K) dx (fFs v1 v2 v3 v4))->RepAll K G [v1,v2,v3,v4] ds->Rep K G (.ref a) (.dict [(.none,.tuple ds)])
 | dict {a:Addr} {kvs:List (Key×V)} {D:List (j0×j0)}:Rd G a (.dK kvs)->D.map (·.1)=kvs.map (λp=>dX p.1)->RepAll K G (kvs.map (·.2)) (D.map (·.2))->Rep K G (.ref a) (.dict D)
inductive RepAll (K:qB) (G:Hp):List V->List j0->Prop
 | nil:RepAll K G [] []
 | cons {v:V} {vs:List V} {d:j0} {ds:T0l}:Rep K G v d->RepAll K G vs ds->RepAll K G (v::vs) (d::ds)
end
variable {u:HO}
def a0L {a:Addr} (e:bJ H H') (h:Rd H a u):Rd H' a u:=h.imp (e _ _) λ⟨o,h⟩=>⟨o,e _ _ h⟩
def lI {K:qB} {a:Addr} (e:bJ H H') (h:SqT K H a xs):SqT K H' a xs:=by
 rcases h with (h | ⟨o,h⟩) | h
 ·exact .inl (.inl (e _ _ h))
 ·exact .inl (.inr ⟨o,e _ _ h⟩)
 ·exact .inr h
section
variable {K:qB}
mutual
theorem Rep.mono (s:bJ G G'):∀ {v:V} {d:j0},Rep K G v d->Rep K G' v d
 | _,_,.none=>.none
 | _,_,.bool b=>.bool b
 | _,_,.int i=>.int i
 | _,_,.str x=>.str x
 | _,_,.list h r=>.list (s.seq h) (RepAll.mono s r)
 | _,_,.tuple h r=>.tuple (lI s h) (RepAll.mono s r)
 | _,_,.dict h e r=>.dict (a0L s h) e (RepAll.mono s r)
 | _,_,.fil h r=>.fil (s _ _ h) (RepAll.mono s r)
theorem RepAll.mono (s:bJ G G'):∀ {vs:List V} {ds:T0l},RepAll K G vs ds->RepAll K G' vs ds
 | _,_,.nil=>.nil
 | _,_,.cons r t=>.cons (Rep.mono s r) (RepAll.mono s t)
end
theorem RepAll.length:∀ {vs:List V} {ds:T0l},RepAll K G vs ds->vs.length=ds.length
 | _,_,.nil=>rfl
 | _,_,.cons _ t=>by simp [RepAll.length t]
theorem RepAll.get:∀ {vs:List V} {ds:T0l} {i:Nat} {d:j0},RepAll K G vs ds->ds[i]?=some d->∃ v,vs[i]?=some v/\Rep K G v d
 | _,_,_,_,.nil,e=>by simp at e
 | _,_,0,_,.cons r _,e=>by simp at e;subst e;exact ⟨_,rfl,r⟩
 | _,_,i+1,d,.cons _ t,e=>by
  obtain ⟨u,h1,h2⟩:=RepAll.get (i:=i) (d:=d) t (by simpa using e);exact ⟨u,by simpa using h1,h2⟩
theorem RepAll.append:∀ {vs ws:List V} {ds es:T0l},RepAll K G vs ds->RepAll K G ws es->RepAll K G (vs++ws) (ds++es)
 | _,_,_,_,.nil,h=>h
 | _,_,_,_,.cons r t,h=>.cons r (RepAll.append t h)
theorem RepAll.take:∀ {vs:List V} {ds:T0l} (n:Nat),RepAll K G vs ds->RepAll K G (vs.take n) (ds.take n)
 | _,_,0,_=>.nil
 | _,_,_+1,.nil=>.nil
 | _,_,n+1,.cons r t=>.cons r (RepAll.take n t)
theorem RepAll.drop:∀ {vs:List V} {ds:T0l} (n:Nat),RepAll K G vs ds->RepAll K G (vs.drop n) (ds.drop n)
 | _,_,0,r=>r
 | _,_,_+1,.nil=>.nil
 | _,_,n+1,.cons _ t=>RepAll.drop n t
theorem RepAll.ints:∀ {vs:List V} {ns:T0s},RepAll K G vs (ns.map .int)->vs=ns.map V.int
 | [],[],_=>rfl
 | _,[],.nil=>rfl
 | _,n::r,.cons (.int _) t=>by rw [RepAll.ints (ns:=r) t];rfl
theorem RepAll.strs:∀ {vs:List V} {ns:T0q},RepAll K G vs (ns.map .str)->vs=ns.map V.str
 | [],[],_=>rfl
 | _,[],.nil=>rfl
 | _,n::r,.cons (.str _) t=>by rw [RepAll.strs (ns:=r) t];rfl
theorem RepAll.bools:∀ {vs:List V} {ns:List Bool},RepAll K G vs (ns.map .bool)->vs=ns.map V.bl
 | [],[],_=>rfl
 | _,[],.nil=>rfl
 | _,n::r,.cons (.bool _) t=>by rw [RepAll.bools (ns:=r) t];rfl
end
theorem a1H:∀ {kvs:List (Key×V)} {vs:List (Key×Value)},KV kvs vs->kvs.map (·.1)=vs.map (·.1)/\aU (kvs.map (·.2)) (vs.map (·.2))
 | _,_,.nil=>⟨rfl,.nil⟩
 | _,_,.cons h t=>by
  obtain ⟨a,b⟩:=a1H t;exact ⟨by rw [qK,qK,a,h.1],.cons h.2 b⟩
mutual
def pQ:j0->Bool
 | .dict _=>false
 | .list xs=>noDcs xs
 | .tuple xs=>noDcs xs
 | _=>true
def noDcs:List j0->Bool
 | []=>true
 | x::xs=>pQ x&&noDcs xs
end
mutual
theorem uS:∀ d:j0,d.canLay0=true->pQ d=true
 | .none,_=>by simp [pQ]
 | .bool _,_=>by simp [pQ]
 | .int _,_=>by simp [pQ]
 | .str _,_=>by simp [pQ]
 | .list xs,h=>by rw [pQ];exact noDcs_of xs (by simpa [jJ] using h)
 | .tuple xs,h=>by rw [pQ];exact noDcs_of xs (by simpa [jJ] using h)
 | .dict _,h=>by simp [jJ] at h
theorem noDcs_of:∀ ds:List j0,kr ds=true->noDcs ds=true
 | [],_=>by simp [noDcs]
 | x::xs,h=>by
  rw [kr,qL] at h;rw [noDcs,qL];exact ⟨uS x h.1,noDcs_of xs h.2⟩
end
def dB (h:qb d=true):pQ d=true:=uS d (jj h)
mutual
theorem Rep.reads (I:Inv X pq σ H s):∀ {v:V} {d:j0} {u:Value},Rep X.K H v d->pQ d=true->RelV v u->∃ as,Reads s.heap u d as
 | _,_,_,.none,_,r=>by cases r;exact ⟨_,.none⟩
 | _,_,_,.bool b,_,r=>by cases r;exact ⟨_,.bool b⟩
 | _,_,_,.int i,_,r=>by obtain ⟨t,rfl⟩:=r;exact ⟨_,.int i t⟩
 | _,_,_,.str x,_,r=>by obtain ⟨t,rfl⟩:=r;exact ⟨_,.str x t⟩
 | _,_,_,.list h q,hc,r=>by
  cases r;obtain ⟨its,rv,⟨o,n,e,hcl,_,hd⟩,_⟩:=I.list h;obtain ⟨as,z⟩:=RepAll.reads I q (by simpa [pQ] using hc) rv;exact ⟨_,.list e hcl hd (by simpa using z)⟩
 | _,_,_,.tuple h q,hc,r=>by
  cases r;obtain ⟨its,rv,⟨o,e,hcl,n,hd⟩,_⟩:=I.tuple h;obtain ⟨as,z⟩:=RepAll.reads I q (by simpa [pQ] using hc) rv;exact ⟨_,.tuple e hcl hd (by simpa using z)⟩
 | _,_,_,.dict h e0 q,hc,r=>by simp [pQ] at hc
 | _,_,_,.fil h q,hc,r=>by simp [pQ] at hc
theorem RepAll.reads (I:Inv X pq σ H s):∀ {vs:List V} {ds:T0l} {us:T0m},RepAll X.K H vs ds->noDcs ds=true->aU vs us->∃ as,QF s.heap us ds as
 | _,_,_,.nil,_,.nil=>⟨_,.nil⟩
 | _,_,_,.cons r t,hc,.cons q w=>by
  rw [noDcs,qL] at hc;obtain ⟨as,a⟩:=Rep.reads I r hc.1 q;obtain ⟨bs,b⟩:=RepAll.reads I t hc.2 w;exact ⟨_,.cons a b⟩
end
def fC:List Str:=["in_ending_order", "in_laying_order", "_law_did", "by_heads", "best_choice"]
def lamQ (x:Str):Str:=x ++ ".<locals>." ++ "<lambda>"
def cdO (c:Addr) (q:Str):HO:=.ext λh=>h.CodeRec (.ref c) q
def Tab (P:Addr) (q:Str) (H:Hp):Prop:=
 ∃ ps,H P=some (.tbl (q,ps))/\QE ps.toList/\∀ pos cv,QQ pos ps.toList=some cv->∃ c,cv=.ref c/\H c=some (cdO c q)
def NoT (G:Hp):Prop:=∀ b ps,G b≠some (.tbl ps)
def pG (K:qB) (G H:Hp):Prop:=(∀ x∈fC,∀ c P,jh K x=some (c,P)->Tab P (lamQ x) H)/\NoT G
theorem NoT.upd {G:Hp} {a:Addr} {o:HO} (n:NoT G) (h:∀ ps,o≠.tbl ps):NoT (L2.upd G a o):=λb ps e=>by
 by_cases hb:b=a
 ·subst hb;rw [aH] at e;cases e;exact h _ rfl
 ·rw [aE hb] at e;exact n b ps e
theorem Tab.same {P:Addr} (t:Tab P q H) (s:bJ H H'):Tab P q H':=by
 obtain ⟨ps,h1,h2,h3⟩:=t;refine ⟨ps,s _ _ h1,h2,λpos cv e=>?_⟩;obtain ⟨c,e1,e2⟩:=h3 pos cv e;exact ⟨c,e1,s _ _ e2⟩
theorem Tab.wr {P a:Addr} (t:Tab P q H) (h:H a=some (.lst xs)):Tab P q (upd H a o):=by
 obtain ⟨ps,h1,h2,h3⟩:=t;refine ⟨ps,by rw [aE (cO h1 h (by nofun))];exact h1,h2,λpos cv e=>?_⟩;obtain ⟨c,e1,e2⟩:=h3 pos cv e;exact ⟨c,e1,by rw [aE (cO e2 h (by unfold cdO;nofun))];exact e2⟩
structure Sm (H H':Hp):Prop where
 keep:∀ b o,H b=some o->(∀ ps,o≠.tbl ps)->H' b=some o
 tbl:∀ b ps,H b=some (.tbl ps)->∃ ps',H' b=some (.tbl ps')
 tab:∀ P q,Tab P q H->Tab P q H'
theorem Sm.of (s:bJ H H'):Sm H H':=⟨λb o h _=>s b o h,λb ps h=>⟨ps,s _ _ h⟩,λP q t=>t.same s⟩
theorem Sm.refl (H:Hp):Sm H H:=.of (.refl _)
def Sm.trans (a:Sm H H1) (b:Sm H1 H2):Sm H H2:=⟨λc o h n=>b.keep c o (a.keep c o h n) n,λc ps h=>by
 obtain ⟨p1,h1⟩:=a.tbl c ps h
 exact b.tbl c p1 h1,λP q t=>b.tab P q (a.tab P q t)⟩
theorem Sm.ne (s:Sm H H') {b:Addr} (h:H b=some o):∃ o',H' b=some o':=by
 cases o with
 | tbl ps=>obtain ⟨p,e⟩:=s.tbl b ps h;exact ⟨_,e⟩
 | _=>exact ⟨_,s.keep b _ h (by nofun)⟩
def Sm.free (s:Sm H H') (h:H' l=none):H l=none:=by
 cases q:H l with
 | none=>rfl
 | some o=>
  obtain ⟨o',e⟩:=s.ne q;rw [h] at e;cases e
theorem Sm.lst {H H':Hp} (s:Sm H H') {l:Addr} {xs:List V} (h:H l=some (.lst xs)):H' l=some (.lst xs):=s.keep l _ h (by nofun)
theorem Sm.wr {H H':Hp} (s:Sm H H') {l:Addr} {xs:List V} {o:HO} (h0:H l=none) (h:H' l=some (.lst xs)):Sm H (upd H' l o):=
 ⟨λb u e n=>by rw [aE (aO e h0)];exact s.keep b u e n,λb ps e=>by rw [aE (aO e h0)];exact s.tbl b ps e,λP q t=>(s.tab P q t).wr h⟩
theorem pG.wr {K:qB} {G H:Hp} {a:Addr} {xs:List V} {o:HO} (t:pG K G H) (h:H a=some (.lst xs)):pG K G (upd H a o):=⟨λx hx c P e=>(t.1 x hx c P e).wr h,t.2⟩
structure Grow (G H G' H':Hp):Prop where
 gg:bJ G G'
 hh:Sm H H'
 sub:bJ G' H'
 new:∀ a,G a=none->H a≠none->G' a=none
 nt:NoT G->NoT G'
def pG.more {K:qB} (t:pG K G H) (g:Grow G H G' H'):pG K G' H':=⟨λx hx c P e=>g.hh.tab _ _ (t.1 x hx c P e),g.nt t.2⟩
theorem Grow.refl {G H:Hp} (s:bJ G H):Grow G H G H:=⟨.refl _,.refl _,s,λ_ e _=>e,id⟩
theorem Grow.trans {G H G1 H1 G2 H2:Hp} (a:Grow G H G1 H1) (b:Grow G1 H1 G2 H2):Grow G H G2 H2:=
 ⟨a.gg.trans b.gg,a.hh.trans b.hh,b.sub,λc e n=>b.new c (a.new c e n) (λz=>by
  cases q:H c with
  | none=>exact n q
  | some o=>obtain ⟨o',e'⟩:=a.hh.ne q;rw [e'] at z;cases z),λn=>b.nt (a.nt n)⟩
def bF {p:Addr} (h:H p=none):bJ H (upd H p o):=λb u e=>by rw [aE (aO e h)];exact e
def a2W {p:Addr} (s:bJ G H):bJ (upd G p o) (upd H p o):=λb u e=>by
 by_cases hb:b=p
 ·subst hb;rw [aH] at e ⊢;exact e
 ·rw [aE hb] at e ⊢;exact s b u e
theorem Grow.put {p:Addr} (s:bJ G H) (h:H p=none) (ho:∀ ps,o≠.tbl ps:=by nofun):Grow G H (upd G p o) (upd H p o):=
 ⟨bF (s.free h),.of (bF h),a2W s,λa e n=>by rw [aE (λz=>n (by rw [z];exact h))];exact e,λn=>n.upd ho⟩
theorem Grow.side {p:Addr} (s:bJ G H) (h:H p=none):Grow G H G (upd H p o):=
 ⟨.refl _,.of (bF h),s.trans (bF h),λa e _=>e,id⟩
inductive Ent where
 | no
 | val (d:j0)
 | lst (ds:T0l)
 | exc (c:Str)
 | nst (dss:List (List j0))
 | dct (kvs:List (Key×j0))
 | seen (w:World) (ks:T0l)
def xcO (a C:Addr):HO:=.ext λh=>∃ ox,ExO h a C ox
def b8T (K:qB) (H0 G H:Hp) (b:Addr) (ds:T0l):Prop:=∃ xs,H b=some (.lst xs)/\G b=none/\H0 b=none/\RepAll K G xs ds
def eT (K:qB) (G:Hp) (vs:List (Key×V)) (kvs:List (Key×j0)):Prop:=vs.map (·.1)=kvs.map (·.1)/\RepAll K G (vs.map (·.2)) (kvs.map (·.2))
theorem eT.mono {K:qB} {G G':Hp} {vs:List (Key×V)} {kvs:List (Key×j0)} (h:eT K G vs kvs) (s:bJ G G'):eT K G' vs kvs:=⟨h.1,h.2.mono s⟩
def rW (K:qB) (H0 G H:Hp) (o:Option V) (w:World) (ks:T0l):Prop:=∃ a xs,o=some (.ref a)/\H a=some (HS.seenO w a xs)/\G a=none/\H0 a=none/\xs.map (·.1)=ks/\ks.Nodup/\∀ x∈xs,HS.hsh 4 x.1=true/\Rep K G (.ref x.2.1) x.1
section
variable {K:qB} {o:Option V} {x:Addr} {u':HO}
theorem rW.frz (h:rW K H0 G H o w ks) (hx:H x=some u) (hu:∀ φ,u≠.ext φ) (gg:bJ G (upd G x u)):rW K H0 (upd G x u) H o w ks:=by
 obtain ⟨a,xs,e,g1,g2,g3,g4,g5,g6⟩:=h;exact ⟨a,xs,e,g1,by rw [aE (cO g1 hx (λz=>hu _ z.symm))];exact g2,g3,g4,g5,λy hy=>⟨(g6 y hy).1,(g6 y hy).2.mono gg⟩⟩
theorem rW.wr (h:rW K H0 G H o w ks) (hx:H x=some u') (hu:∀ φ,u'≠.ext φ):rW K H0 G (upd H x u) o w ks:=by
 obtain ⟨a,xs,e,g1,g2,r⟩:=h;exact ⟨a,xs,e,by rw [aE (cO g1 hx (λz=>hu _ z.symm))];exact g1,g2,r⟩
def rW.more (h:rW K H0 G H o w ks) (g:Grow G H G' H'):rW K H0 G' H' o w ks:=by
 obtain ⟨a,xs,e,g1,g2,g3,g4,g5,g6⟩:=h;exact ⟨a,xs,e,g.hh.keep a _ g1 (by unfold HS.seenO;nofun),g.new a g2 (by rw [g1];simp),g3,g4,g5,λy hy=>⟨(g6 y hy).1,(g6 y hy).2.mono g.gg⟩⟩
end
def a6D (K:qB) (H0 G H:Hp) (o:Option V):Ent->Prop
 | .no=>True
 | .val d=>∃ v,o=some v/\Rep K G v d
 | .lst ds=>∃ a xs,o=some (.ref a)/\H a=some (.lst xs)/\G a=none/\H0 a=none/\RepAll K G xs ds
 | .exc c=>∃ a C,o=some (.ref a)/\c0e K c=some C/\H a=some (xcO a C)
 | .nst dss=>∃ a bs,o=some (.ref a)/\H a=some (.lst (bs.map V.ref))/\G a=none/\H0 a=none/\a∉bs/\bs.Nodup/\Paired (b8T K H0 G H) bs dss
 | .dct kvs=>∃ a vs,o=some (.ref a)/\H a=some (.dK vs)/\G a=none/\H0 a=none/\eT K G vs kvs
 | .seen w ks=>rW K H0 G H o w ks
def a8H:Ent->Bool
 | .lst _=>true
 | .nst _=>true
 | .dct _=>true
 | .seen _ _=>true
 | _=>false
structure Inj (H:Hp) (σ:St) (ρ:List Ent):Prop where
 two:∀ (i j:Nat) (a:Addr) (ds es:T0l),i≠j->σ[i]?=some (some (.ref a))->ρ[i]?=some (.lst ds)->σ[j]?=some (some (.ref a))->ρ[j]?=some (.lst es)->False
 mix:∀ (i j:Nat) (a a':Addr) (ds:T0l) (dss:List (List j0)),σ[i]?=some (some (.ref a))->ρ[i]?=some (.lst ds)->σ[j]?=some (some (.ref a'))->ρ[j]?=some (.nst dss)->a≠a'/\∀ vs,H a'=some (.lst vs)->V.ref a∉vs
 one:∀ (i j:Nat) (dss ess:List (List j0)),ρ[i]?=some (.nst dss)->ρ[j]?=some (.nst ess)->i=j
 oneD:∀ (i j:Nat) (ks ls:List (Key×j0)),ρ[i]?=some (.dct ks)->ρ[j]?=some (.dct ls)->i=j
variable {ρ ρ':List Ent}
theorem Inj.sub {σ':St} (I:Inj H σ ρ) (h:∀ (i:Nat) (e:Ent),ρ'[i]?=some e->a8H e=true->ρ[i]?=some e/\σ'[i]?=σ[i]?):Inj H σ' ρ':=by
 refine ⟨λi j a ds es n h1 h2 h3 h4=>?_,λi j a a' ds dss h1 h2 h3 h4=>?_,λi j dss ess h1 h2=>?_,λi j ks ls h1 h2=>I.oneD i j ks ls (h i _ h1 rfl).1 (h j _ h2 rfl).1⟩
 ·obtain ⟨x1,x2⟩:=h i _ h2 rfl
  obtain ⟨y1,y2⟩:=h j _ h4 rfl;rw [x2] at h1;rw [y2] at h3;exact I.two i j a ds es n h1 x1 h3 y1
 ·obtain ⟨x1,x2⟩:=h i _ h2 rfl
  obtain ⟨y1,y2⟩:=h j _ h4 rfl;rw [x2] at h1;rw [y2] at h3;exact I.mix i j a a' ds dss h1 x1 h3 y1
 ·exact I.one i j dss ess (h i _ h1 rfl).1 (h j _ h2 rfl).1
def Inj.other (I:Inj H σ ρ) (h:∀ (j:Nat) (a':Addr) (dss:List (List j0)),σ[j]?=some (some (.ref a'))->ρ[j]?=some (.nst dss)->∀ vs,H' a'=some (.lst vs)->H a'=some (.lst vs)):Inj H' σ ρ:=
 ⟨I.two,λi j a a' ds dss h1 h2 h3 h4=>⟨(I.mix i j a a' ds dss h1 h2 h3 h4).1,λvs e=>(I.mix i j a a' ds dss h1 h2 h3 h4).2 vs (h j a' dss h3 h4 vs e)⟩,I.one,I.oneD⟩
theorem Inj.free (h:∀ (i:Nat) (e:Ent),ρ[i]?=some e->a8H e=false):Inj H σ ρ:=
 ⟨λi j a ds es n h1 h2 h3 h4=>vi (h i _ h2),λi j a a' ds dss h1 h2 h3 h4=>vi (h i _ h2),λi j dss ess h1 h2=>vi (h i _ h1),λi j ks ls h1 h2=>vi (h i _ h1)⟩
theorem eN {α β:Type} {F F':α->β->Prop}:∀ {l:List α} {m:List β},Paired F l m->(∀ a b,a∈l->F a b->F' a b)->Paired F' l m
 | _,_,.nil,_=>.nil
 | _,_,.cons r t,h=>.cons (h _ _ qf r) (eN t λa b ha=>h a b (qE _ ha))
theorem sN {α β:Type} {F:α->β->Prop} {a:α}:∀ {l:List α} {m:List β},Paired F l m->a∈l->∃ b,F a b
 | _,_,.cons r t,h=>by
  rcases qI.mp h with rfl | h
  ·exact ⟨_,r⟩
  ·exact sN t h
structure RepS (K:qB) (H0 Gz G H:Hp) (σ:St) (ρ:List Ent):Prop where
 grow:Grow Gz H0 G H
 len:σ.length=ρ.length
 ent:∀ (i:Nat) (o:Option V) (e:Ent),σ[i]?=some o->ρ[i]?=some e->a6D K H0 G H o e
 inj:Inj H σ ρ
 tab:pG K G H
theorem a6D.more {K:qB} {H0 G H G' H':Hp} {o:Option V} {e:Ent} (g:Grow G H G' H') (h:a6D K H0 G H o e):a6D K H0 G' H' o e:=by
 cases e with
 | no=>trivial
 | val d=>obtain ⟨v,e,r⟩:=h;exact ⟨v,e,r.mono g.gg⟩
 | lst ds=>
  obtain ⟨a,xs,e,h1,h2,h3,r⟩:=h;exact ⟨a,xs,e,g.hh.lst h1,g.new a h2 (by rw [h1];simp),h3,r.mono g.gg⟩
 | exc c=>obtain ⟨a,C,e,h1,h2⟩:=h;exact ⟨a,C,e,h1,g.hh.keep a _ h2 (by unfold xcO;nofun)⟩
 | nst dss=>
  obtain ⟨a,bs,e,h1,h2,h3,h4,h5,r⟩:=h;exact ⟨a,bs,e,g.hh.lst h1,g.new a h2 (by rw [h1];simp),h3,h4,h5,Paired.mapP r λb ds ⟨xs,x1,x2,x3,x4⟩=>⟨xs,g.hh.lst x1,g.new b x2 (by rw [x1];simp),x3,x4.mono g.gg⟩⟩
 | dct kvs=>
  obtain ⟨a,vs,e,h1,h2,h3,r⟩:=h;exact ⟨a,vs,e,g.hh.keep a _ h1 (by nofun),g.new a h2 (by rw [h1];simp),h3,r.mono g.gg⟩
 | seen w ks=>exact rW.more h g
variable {vs:List (Key×V)}
section
variable {K:qB}
theorem RepS.more (R:RepS K H0 Gz G H σ ρ) (g:Grow G H G' H'):RepS K H0 Gz G' H' σ ρ:=
 ⟨R.grow.trans g,R.len,λi o e h1 h2=>(R.ent i o e h1 h2).more g,R.inj.other (λj a' dss h1 h2 vs e=>by
  obtain ⟨a,bs,e1,e2,_⟩:=R.ent j _ _ h1 h2;cases e1;rw [g.hh.lst e2] at e;cases e
  exact e2),R.tab.more g⟩
theorem RepS.sub (R:RepS K H0 Gz G H σ ρ):bJ G H:=R.grow.sub
theorem RepS.at {i:Nat} {e:Ent} (R:RepS K H0 Gz G H σ ρ) (h:ρ[i]?=some e):∃ o,σ[i]?=some o/\a6D K H0 G H o e:=by
 have hi:i<σ.length:=by rw [R.len];exact (qR.mp h).1
 exact ⟨σ[i],by simp [hi],R.ent i _ e (by simp [hi]) h⟩
theorem RepS.val {i:Nat} {d:j0} (R:RepS K H0 Gz G H σ ρ) (h:ρ[i]?=some (.val d)):∃ v,σ[i]?=some (some v)/\Rep K G v d:=by
 obtain ⟨o,e,v,rfl,r⟩:=R.at h;exact ⟨v,e,r⟩
theorem RepS.own {i:Nat} (R:RepS K H0 Gz G H σ ρ) (h:ρ[i]?=some (.lst ds)):∃ a xs,σ[i]?=some (some (.ref a))/\H a=some (.lst xs)/\G a=none/\H0 a=none/\RepAll K G xs ds:=by
 obtain ⟨o,e,a,xs,rfl,r⟩:=R.at h;exact ⟨a,xs,e,r⟩
def aF {α:Type} {l:List α} {i j:Nat} {x y:α} (h:(l.set i x)[j]?=some y):(j=i/\y=x/\i<l.length)\/(j≠i/\l[j]?=some y):=by
 by_cases e:j=i
 ·subst e
  have hl:j<l.length:=by
   have:=(qR.mp h).1;simpa using this
  rw [vm hl] at h;exact .inl ⟨rfl,(qA h).symm,hl⟩
 ·rw [qj (jT e)] at h
  exact .inr ⟨e,h⟩
theorem RepS.set {i:Nat} {v:V} {d:j0} (R:RepS K H0 Gz G H σ ρ) (r:Rep K G v d):RepS K H0 Gz G H (σ.set i (some v)) (ρ.set i (.val d)):=by
 refine ⟨R.grow,by simp [R.len],λj o e h1 h2=>?_,R.inj.sub λj e h1 h2=>?_,R.tab⟩
 ·rcases aF h1 with ⟨rfl,rfl,_⟩ | ⟨n,h1⟩
  ·rcases aF h2 with ⟨_,rfl,_⟩ | ⟨n,_⟩
   ·exact ⟨v,rfl,r⟩
   ·exact absurd rfl n
  ·rcases aF h2 with ⟨z,_⟩ | ⟨_,h2⟩
   ·exact absurd z n
   ·exact R.ent j o e h1 h2
 ·rcases aF h1 with ⟨_,rfl,_⟩ | ⟨n,h1⟩
  ·cases h2
  ·exact ⟨h1,qj (jT n)⟩
def RepS.freeze {i:Nat} (R:RepS K H0 Gz G H σ ρ) (h:ρ[i]?=some (.lst ds)):∃ G',bJ G G'/\RepS K H0 Gz G' H σ (ρ.set i (.val (.list ds))):=by
 obtain ⟨a,xs,e,h1,h2,h3,r⟩:=R.own h;have gg:bJ G (upd G a (.lst xs)):=bF h2;refine ⟨upd G a (.lst xs),gg,⟨⟨R.grow.gg.trans gg,R.grow.hh,λb o q=>?_,λb q n=>?_,λn=>(R.grow.nt n).upd (by nofun)⟩,by simp [R.len],λj o e' q1 q2=>?_,R.inj.sub λj e h1 h2=>?_,R.tab.1,R.tab.2.upd (by nofun)⟩⟩
 ·by_cases hb:b=a
  ·subst hb;rw [aH] at q;cases q;exact h1
  ·rw [aE hb] at q;exact R.sub b o q
 ·have nb:b≠a:=λz=>n (by rw [z];exact h3)
  rw [aE nb];exact R.grow.new b q n
 ·rcases aF q2 with ⟨rfl,rfl,_⟩ | ⟨nj,q2⟩
  ·rw [e] at q1;cases q1
   exact ⟨.ref a,rfl,.list (.of aH) (r.mono gg)⟩
  ·have E:=R.ent j o e' q1 q2
   cases e' with
   | no=>trivial
   | val d=>obtain ⟨v,z,rv⟩:=E;exact ⟨v,z,rv.mono gg⟩
   | lst es=>
    obtain ⟨b,ys,z,g1,g2,g3,rv⟩:=E;have nb:b≠a:=λw=>by
     subst w z;exact R.inj.two j i b es ds nj q1 q2 e h
    exact ⟨b,ys,z,g1,by rw [aE nb];exact g2,g3,rv.mono gg⟩
   | exc c=>exact E
   | nst dss=>
    obtain ⟨b,bs,z,g1,g2,g3,g4,g5,rv⟩:=E;subst z;obtain ⟨m1,m2⟩:=R.inj.mix i j a b ds dss e h q1 q2;have ni:∀ c∈bs,c≠a:=λc hc w=>m2 _ g1 (by subst w;exact qO.mpr ⟨c,hc,rfl⟩);exact ⟨b,bs,rfl,g1,by rw [aE (jT m1)];exact g2,g3,g4,g5,eN rv λc dd hc ⟨xs',x1,x2,x3,x4⟩=>⟨xs',x1,by rw [aE (ni c hc)];exact x2,x3,x4.mono gg⟩⟩
   | dct kvs=>
    obtain ⟨b,vs,z,g1,g2,g3,rv⟩:=E;exact ⟨b,vs,z,g1,by rw [aE (cO g1 h1 (by nofun))];exact g2,g3,rv.mono gg⟩
   | seen w ks=>exact rW.frz E h1 (by nofun) gg
 ·rcases aF h1 with ⟨_,rfl,_⟩ | ⟨n,h1⟩
  ·cases h2
  ·exact ⟨h1,rfl⟩
theorem RepS.wrote {i:Nat} {a:Addr} {ds':T0l} (R:RepS K H0 Gz G H σ ρ) (h:ρ[i]?=some (.lst ds)) (e:σ[i]?=some (some (.ref a))) (r:RepAll K G xs ds'):RepS K H0 Gz G (upd H a (.lst xs)) σ (ρ.set i (.lst ds')):=by
 obtain ⟨a',xs',e',h1,h2,h3,_⟩:=R.own h;rw [e] at e';cases e';refine ⟨⟨R.grow.gg,R.grow.hh.wr h3 h1,λb o q=>?_,λb q n=>R.grow.new b q n,R.grow.nt⟩,by simp [R.len],λj o e' q1 q2=>?_,⟨λj k b es fs hjk q1 q2 q3 q4=>?_,λj k b a' es dss q1 q2 q3 q4=>?_,λj k dss ess q1 q2=>?_,λj k ks ls q1 q2=>?_⟩,R.tab.wr h1⟩
 ·rw [aE (aO q h2)];exact R.sub b o q
 ·rcases aF q2 with ⟨rfl,rfl,_⟩ | ⟨nj,q2⟩
  ·rw [e] at q1;cases q1
   exact ⟨a,xs,rfl,aH,h2,h3,r⟩
  ·have E:=R.ent j o e' q1 q2
   cases e' with
   | no=>trivial
   | val d=>exact E
   | lst es=>
    obtain ⟨b,ys,z,g1,g2,g3,rv⟩:=E;have nb:b≠a:=λw=>by
     subst w z;exact R.inj.two j i b es ds nj q1 q2 e h
    exact ⟨b,ys,z,by rw [aE nb];exact g1,g2,g3,rv⟩
   | exc c=>obtain ⟨b,C,z,g1,g2⟩:=E;exact ⟨b,C,z,g1,by rw [aE (cO g2 h1 (by unfold xcO;nofun))];exact g2⟩
   | nst dss=>
    obtain ⟨b,bs,z,g1,g2,g3,g4,g5,rv⟩:=E;subst z;obtain ⟨m1,m2⟩:=R.inj.mix i j a b ds dss e h q1 q2;have ni:∀ c∈bs,c≠a:=λc hc w=>m2 _ g1 (by subst w;exact qO.mpr ⟨c,hc,rfl⟩);exact ⟨b,bs,rfl,by rw [aE (jT m1)];exact g1,g2,g3,g4,g5,eN rv λc dd hc ⟨xs',x1,x2,x3,x4⟩=>⟨xs',by rw [aE (ni c hc)];exact x1,x2,x3,x4⟩⟩
   | dct kvs=>
    obtain ⟨b,vs,z,g1,g2,g3,rv⟩:=E;exact ⟨b,vs,z,by rw [aE (cO g1 h1 (by nofun))];exact g1,g2,g3,rv⟩
   | seen w ks=>exact rW.wr E h1 (by nofun)
 ·rcases aF q2 with ⟨rfl,_,_⟩ | ⟨n2,q2⟩
  ·rcases aF q4 with ⟨z,_,_⟩ | ⟨n4,q4⟩
   ·exact hjk z.symm
   ·exact R.inj.two j k b ds fs hjk q1 h q3 q4
  ·rcases aF q4 with ⟨z,_,_⟩ | ⟨n4,q4⟩
   ·subst z;exact R.inj.two j k b es ds hjk q1 ‹ρ[j]?=some (Ent.lst es)› q3 h
   ·exact R.inj.two j k b es fs hjk q1 ‹ρ[j]?=some (Ent.lst es)› q3 q4
 ·rcases aF q4 with ⟨_,z,_⟩ | ⟨_,q4⟩
  ·cases z
  ·have old:∃ fs,ρ[j]?=some (.lst fs):=by
    rcases aF q2 with ⟨rfl,_,_⟩ | ⟨_,q2⟩
    ·exact ⟨_,h⟩
    ·exact ⟨_,q2⟩
   obtain ⟨fs,q2⟩:=old;obtain ⟨m1,m2⟩:=R.inj.mix j k b a' fs dss q1 q2 q3 q4;have m3:=(R.inj.mix i k a a' ds dss e h q3 q4).1;exact ⟨m1,λvs z=>m2 vs (by rw [aE (jT m3)] at z;exact z)⟩
 ·rcases aF q1 with ⟨_,z,_⟩ | ⟨_,q1⟩
  ·cases z
  ·rcases aF q2 with ⟨_,z,_⟩ | ⟨_,q2⟩
   ·cases z
   ·exact R.inj.one j k dss ess q1 q2
 ·rcases aF q1 with ⟨_,z,_⟩ | ⟨_,q1⟩
  ·cases z
  ·rcases aF q2 with ⟨_,z,_⟩ | ⟨_,q2⟩
   ·cases z
   ·exact R.inj.oneD j k ks ls q1 q2
theorem RepS.fresh {i:Nat} {p:Addr} (R:RepS K H0 Gz G H σ ρ) (h:H p=none) (r:RepAll K G xs ds):RepS K H0 Gz G (upd H p (.lst xs)) (σ.set i (some (.ref p))) (ρ.set i (.lst ds)):=by
 have R':=R.more (Grow.side (o:=.lst xs) R.sub h);refine ⟨R'.grow,by simp [R.len],λj o e h1 h2=>?_,⟨λj k a es fs hjk h1 h2 h3 h4=>?_,λj k b a' es dss q1 q2 q3 q4=>?_,λj k dss ess q1 q2=>?_,λj k ks ls q1 q2=>?_⟩,R'.tab⟩
 ·rcases aF h1 with ⟨rfl,rfl,_⟩ | ⟨n,h1⟩
  ·rcases aF h2 with ⟨_,rfl,_⟩ | ⟨n,_⟩
   ·exact ⟨p,xs,rfl,aH,R.sub.free h,R.grow.hh.free h,r⟩
   ·exact absurd rfl n
  ·rcases aF h2 with ⟨z,_⟩ | ⟨_,h2⟩
   ·exact absurd z n
   ·exact R'.ent j o e h1 h2
 ·have old:∀ j es,j≠i->σ[j]?=some (some (.ref p))->ρ[j]?=some (.lst es)->False:=λj es _ q1 q2=>by
   obtain ⟨b,ys,e,g1,_⟩:=R.own q2;rw [q1] at e;cases e;rw [h] at g1;cases g1
  rcases aF h2 with ⟨rfl,_,_⟩ | ⟨n2,h2⟩
  ·rcases aF h1 with ⟨_,z,_⟩ | ⟨n,_⟩
   ·cases z
    rcases aF h4 with ⟨z,_,_⟩ | ⟨n4,h4⟩
    ·exact hjk z.symm
    ·rw [qj (jT n4)] at h3
     exact old k fs n4 h3 h4
   ·exact absurd rfl n
  ·rw [qj (jT n2)] at h1
   rcases aF h4 with ⟨zk,_,_⟩ | ⟨n4,h4⟩
   ·subst zk
    rcases aF h3 with ⟨_,z,_⟩ | ⟨n,_⟩
    ·cases z;exact old j es n2 h1 ‹ρ[j]?=some (Ent.lst es)›
    ·exact absurd rfl n
   ·rw [qj (jT n4)] at h3
    exact R.inj.two j k a es fs hjk h1 h2 h3 h4
 ·rcases aF q4 with ⟨_,z,_⟩ | ⟨n4,q4⟩
  ·cases z
  ·rw [qj (jT n4)] at q3
   obtain ⟨a1,bs,z,g1,g2,g3,g4,g5,rv⟩:=R.ent k _ _ q3 q4;have z':a'=a1:=by cases z;rfl
   subst z';have pa:a'≠p:=aO g1 h;have pb:V.ref p∉bs.map V.ref:=λz=>by
    obtain ⟨c,hc,e⟩:=qO.mp z;cases e;obtain ⟨dd,⟨xs',x1,_⟩⟩:=sN rv hc;rw [h] at x1;cases x1
   rcases aF q2 with ⟨rfl,_,_⟩ | ⟨n2,q2⟩
   ·rcases aF q1 with ⟨_,z,_⟩ | ⟨n,_⟩
    ·cases z
     exact ⟨jT pa,λvs e=>by rw [aE pa,g1] at e;cases e;exact pb⟩
    ·exact absurd rfl n
   ·rw [qj (jT n2)] at q1
    obtain ⟨m1,m2⟩:=R.inj.mix j k b a' es dss q1 q2 q3 q4;exact ⟨m1,λvs e=>m2 vs (by rw [aE pa] at e;exact e)⟩
 ·rcases aF q1 with ⟨_,z,_⟩ | ⟨_,q1⟩
  ·cases z
  ·rcases aF q2 with ⟨_,z,_⟩ | ⟨_,q2⟩
   ·cases z
   ·exact R.inj.one j k dss ess q1 q2
 ·rcases aF q1 with ⟨_,z,_⟩ | ⟨_,q1⟩
  ·cases z
  ·rcases aF q2 with ⟨_,z,_⟩ | ⟨_,q2⟩
   ·cases z
   ·exact R.inj.oneD j k ks ls q1 q2
theorem RepS.ownD {i:Nat} (R:RepS K H0 Gz G H σ ρ) (h:ρ[i]?=some (.dct kvs)):∃ a vs,σ[i]?=some (some (.ref a))/\H a=some (.dK vs)/\G a=none/\H0 a=none/\eT K G vs kvs:=by
 obtain ⟨o,e,a,vs,rfl,r⟩:=R.at h;exact ⟨a,vs,e,r⟩
theorem Tab.wrD {P a:Addr} (t:Tab P q H) (h:H a=some (.dK vs)):Tab P q (upd H a o):=by
 obtain ⟨ps,h1,h2,h3⟩:=t;refine ⟨ps,by rw [aE (cO h1 h (by nofun))];exact h1,h2,λpos cv e=>?_⟩;obtain ⟨c,e1,e2⟩:=h3 pos cv e;exact ⟨c,e1,by rw [aE (cO e2 h (by unfold cdO;nofun))];exact e2⟩
theorem Sm.wrD {H H':Hp} (s:Sm H H') {l:Addr} {vs:List (Key×V)} {o:HO} (h0:H l=none) (h:H' l=some (.dK vs)):Sm H (upd H' l o):=
 ⟨λb u e n=>by rw [aE (aO e h0)];exact s.keep b u e n,λb ps e=>by rw [aE (aO e h0)];exact s.tbl b ps e,λP q t=>(s.tab P q t).wrD h⟩
theorem pG.wrD {K:qB} {G H:Hp} {a:Addr} {vs:List (Key×V)} {o:HO} (t:pG K G H) (h:H a=some (.dK vs)):pG K G (upd H a o):=⟨λx hx c P e=>(t.1 x hx c P e).wrD h,t.2⟩
def RepS.freezeD {i:Nat} (R:RepS K H0 Gz G H σ ρ) (h:ρ[i]?=some (.dct kvs)):∃ G',bJ G G'/\RepS K H0 Gz G' H σ (ρ.set i (.val (.dict (kvs.map λp=>(dX p.1,p.2))))):=by
 obtain ⟨a,vs,e,h1,h2,h3,r⟩:=R.ownD h;have gg:bJ G (upd G a (.dK vs)):=bF h2;refine ⟨upd G a (.dK vs),gg,⟨⟨R.grow.gg.trans gg,R.grow.hh,λb o q=>?_,λb q n=>?_,λn=>(R.grow.nt n).upd (by nofun)⟩,by simp [R.len],λj o e' q1 q2=>?_,R.inj.sub λj e h1 h2=>?_,R.tab.1,R.tab.2.upd (by nofun)⟩⟩
 ·by_cases hb:b=a
  ·subst hb;rw [aH] at q;cases q;exact h1
  ·rw [aE hb] at q;exact R.sub b o q
 ·have nb:b≠a:=λz=>n (by rw [z];exact h3)
  rw [aE nb];exact R.grow.new b q n
 ·rcases aF q2 with ⟨rfl,rfl,_⟩ | ⟨nj,q2⟩
  ·rw [e] at q1;cases q1
   refine ⟨.ref a,rfl,.dict (kvs:=vs) (.inl aH) ?_ ?_⟩
   ·rw [qT]
    have:=congrArg (List.map dX) r.1;rw [qT,qT] at this;exact this.symm
   ·rw [qT];exact r.2.mono gg
  ·have E:=R.ent j o e' q1 q2
   cases e' with
   | no=>trivial
   | val d=>obtain ⟨v,z,rv⟩:=E;exact ⟨v,z,rv.mono gg⟩
   | lst es=>
    obtain ⟨b,ys,z,g1,g2,g3,rv⟩:=E;exact ⟨b,ys,z,g1,by rw [aE (cO g1 h1 (by nofun))];exact g2,g3,rv.mono gg⟩
   | exc c=>exact E
   | nst dss=>
    obtain ⟨b,bs,z,g1,g2,g3,g4,g5,rv⟩:=E;exact ⟨b,bs,z,g1,by rw [aE (cO g1 h1 (by nofun))];exact g2,g3,g4,g5,eN rv λc dd hc ⟨xs',x1,x2,x3,x4⟩=>⟨xs',x1,by rw [aE (cO x1 h1 (by nofun))];exact x2,x3,x4.mono gg⟩⟩
   | dct ks=>exact absurd (R.inj.oneD j i ks kvs q2 h) nj
   | seen w ks=>exact rW.frz E h1 (by nofun) gg
 ·rcases aF h1 with ⟨_,rfl,_⟩ | ⟨n,h1⟩
  ·cases h2
  ·exact ⟨h1,rfl⟩
def RepS.wroteD {i:Nat} {a:Addr} {kvs':List (Key×j0)} (R:RepS K H0 Gz G H σ ρ) (h:ρ[i]?=some (.dct kvs)) (e:σ[i]?=some (some (.ref a))) (r:eT K G vs kvs'):RepS K H0 Gz G (upd H a (.dK vs)) σ (ρ.set i (.dct kvs')):=by
 obtain ⟨a',xs',e',h1,h2,h3,_⟩:=R.ownD h;rw [e] at e';cases e';refine ⟨⟨R.grow.gg,R.grow.hh.wrD h3 h1,λb o q=>?_,λb q n=>R.grow.new b q n,R.grow.nt⟩,by simp [R.len],λj o e' q1 q2=>?_,⟨λj k b es fs hjk q1 q2 q3 q4=>?_,λj k b a' es dss q1 q2 q3 q4=>?_,λj k dss ess q1 q2=>?_,λj k ks ls q1 q2=>?_⟩,R.tab.wrD h1⟩
 ·rw [aE (aO q h2)];exact R.sub b o q
 ·rcases aF q2 with ⟨rfl,rfl,_⟩ | ⟨nj,q2⟩
  ·rw [e] at q1;cases q1
   exact ⟨a,vs,rfl,aH,h2,h3,r⟩
  ·have E:=R.ent j o e' q1 q2
   cases e' with
   | no=>trivial
   | val d=>exact E
   | lst es=>
    obtain ⟨b,ys,z,g1,g2,g3,rv⟩:=E;exact ⟨b,ys,z,by rw [aE (cO g1 h1 (by nofun))];exact g1,g2,g3,rv⟩
   | exc c=>obtain ⟨b,C,z,g1,g2⟩:=E;exact ⟨b,C,z,g1,by rw [aE (cO g2 h1 (by unfold xcO;nofun))];exact g2⟩
   | nst dss=>
    obtain ⟨b,bs,z,g1,g2,g3,g4,g5,rv⟩:=E;exact ⟨b,bs,z,by rw [aE (cO g1 h1 (by nofun))];exact g1,g2,g3,g4,g5,eN rv λc dd hc ⟨xs',x1,x2,x3,x4⟩=>⟨xs',by rw [aE (cO x1 h1 (by nofun))];exact x1,x2,x3,x4⟩⟩
   | dct ks=>exact absurd (R.inj.oneD j i ks kvs q2 h) nj
   | seen w ks=>exact rW.wr E h1 (by nofun)
 ·rcases aF q2 with ⟨_,z,_⟩ | ⟨_,q2⟩
  ·cases z
  ·rcases aF q4 with ⟨_,z,_⟩ | ⟨_,q4⟩
   ·cases z
   ·exact R.inj.two j k b es fs hjk q1 q2 q3 q4
 ·rcases aF q2 with ⟨_,z,_⟩ | ⟨_,q2⟩
  ·cases z
  ·rcases aF q4 with ⟨_,z,_⟩ | ⟨_,q4⟩
   ·cases z
   ·obtain ⟨m1,m2⟩:=R.inj.mix j k b a' es dss q1 q2 q3 q4
    refine ⟨m1,λws z=>m2 ws ?_⟩;by_cases n:a'=a
    ·subst n;rw [aH] at z;cases z
    ·rw [aE n] at z;exact z
 ·rcases aF q1 with ⟨_,z,_⟩ | ⟨_,q1⟩
  ·cases z
  ·rcases aF q2 with ⟨_,z,_⟩ | ⟨_,q2⟩
   ·cases z
   ·exact R.inj.one j k dss ess q1 q2
 ·have old:∀ (j:Nat) (ks:List (Key×j0)),(ρ.set i (.dct kvs'))[j]?=some (.dct ks)->∃ ks',ρ[j]?=some (.dct ks'):=λj ks q=>by
   rcases aF q with ⟨rfl,_,_⟩ | ⟨_,q⟩
   ·exact ⟨_,h⟩
   ·exact ⟨_,q⟩
  obtain ⟨k1,q1⟩:=old j ks q1;obtain ⟨k2,q2⟩:=old k ls q2;exact R.inj.oneD j k k1 k2 q1 q2
def RepS.freshD {i:Nat} {p:Addr} (R:RepS K H0 Gz G H σ ρ) (h:H p=none) (hno:∀ (j:Nat) (ks:List (Key×j0)),ρ[j]?=some (.dct ks)->j=i) (r:eT K G vs kvs):RepS K H0 Gz G (upd H p (.dK vs)) (σ.set i (some (.ref p))) (ρ.set i (.dct kvs)):=by
 have R':=R.more (Grow.side (o:=.dK vs) R.sub h);refine ⟨R'.grow,by simp [R.len],λj o e h1 h2=>?_,⟨λj k a es fs hjk h1 h2 h3 h4=>?_,λj k b a' es dss q1 q2 q3 q4=>?_,λj k dss ess q1 q2=>?_,λj k ks ls q1 q2=>?_⟩,R'.tab⟩
 ·rcases aF h1 with ⟨rfl,rfl,_⟩ | ⟨n,h1⟩
  ·rcases aF h2 with ⟨_,rfl,_⟩ | ⟨n,_⟩
   ·exact ⟨p,vs,rfl,aH,R.sub.free h,R.grow.hh.free h,r⟩
   ·exact absurd rfl n
  ·rcases aF h2 with ⟨z,_⟩ | ⟨_,h2⟩
   ·exact absurd z n
   ·exact R'.ent j o e h1 h2
 ·rcases aF h2 with ⟨_,z,_⟩ | ⟨n2,h2⟩
  ·cases z
  ·rcases aF h4 with ⟨_,z,_⟩ | ⟨n4,h4⟩
   ·cases z
   ·rw [qj (jT n2)] at h1
    rw [qj (jT n4)] at h3;exact R'.inj.two j k a es fs hjk h1 h2 h3 h4
 ·rcases aF q2 with ⟨_,z,_⟩ | ⟨n2,q2⟩
  ·cases z
  ·rcases aF q4 with ⟨_,z,_⟩ | ⟨n4,q4⟩
   ·cases z
   ·rw [qj (jT n2)] at q1
    rw [qj (jT n4)] at q3;exact R'.inj.mix j k b a' es dss q1 q2 q3 q4
 ·rcases aF q1 with ⟨_,z,_⟩ | ⟨_,q1⟩
  ·cases z
  ·rcases aF q2 with ⟨_,z,_⟩ | ⟨_,q2⟩
   ·cases z
   ·exact R.inj.one j k dss ess q1 q2
 ·have all:∀ (j:Nat) (ks:List (Key×j0)),(ρ.set i (.dct kvs))[j]?=some (.dct ks)->j=i:=λj ks q=>by
   rcases aF q with ⟨z,_,_⟩ | ⟨_,q⟩
   ·exact z
   ·exact hno j ks q
  rw [all j ks q1,all k ls q2]
end
structure PD (X:Cx) (e:Expr) (ρ:List Ent) (d:j0):Prop where
 run:∀ (H0 Gz G:Hp) (pq:T0b) (s:Shared) (σ:St) (H:Hp) (Q:VK),Inv X pq σ H s->RepS X.K H0 Gz G H σ ρ->(∀ v G' H',Grow G H G' H'->Rep X.K G' v d->Q v H') ->
  wpAny (model X.prog X.w) X.A (eval e X.env) (EP X pq σ Q) X.xe s
structure PTD (X:Cx) (e:Expr) (ρ:List Ent) (b:Bool):Prop where
 run:∀ (H0 Gz G:Hp) (pq:T0b) (s:Shared) (σ:St) (H:Hp) (Q:Bool->Hp->Prop),Inv X pq σ H s->RepS X.K H0 Gz G H σ ρ->(∀ G' H',Grow G H G' H'->Q b H') ->
  wpAny (model X.prog X.w) X.A (isTrue e X.env (eval e X.env)) (TP X pq σ Q) X.xe s
structure PAD (X:Cx) (es:T0n) (ρ:List Ent) (ds:T0l):Prop where
 run:∀ (H0 Gz G:Hp) (pos:Pos) (pq:T0b) (s:Shared) (σ:St) (H:Hp) (Q:List V->Hp->Prop),Inv X pq σ H s->RepS X.K H0 Gz G H σ ρ->(∀ vs G' H',Grow G H G' H'->RepAll X.K G' vs ds->Q vs H') ->
  wpAny (model X.prog X.w) X.A (spliced (v8 pos (j4 es X.env))) (AP X pq σ Q) X.xe s
def tD (X:Cx) (ρ:List Ent) (d:j0):TE:=λσ H Q=>∃ H0 Gz G,RepS X.K H0 Gz G H σ ρ/\∀ v G' H',Grow G H G' H'->Rep X.K G' v d->Q v H'
def tTD (X:Cx) (ρ:List Ent) (b:Bool):TT:=λσ H Q=>∃ H0 Gz G,RepS X.K H0 Gz G H σ ρ/\∀ G' H',Grow G H G' H'->Q b H'
def tAD (X:Cx) (ρ:List Ent) (ds:T0l):TA:=λσ H Q=>∃ H0 Gz G,RepS X.K H0 Gz G H σ ρ/\∀ vs G' H',Grow G H G' H'->RepAll X.K G' vs ds->Q vs H'
variable {a:Expr} {i:Int}
theorem PD.pe (h:PD X e ρ d):PE X e (tD X ρ d):=λpq s σ H Q I ⟨H0,Gz,G,R,k⟩=>h.run H0 Gz G pq s σ H Q I R k
theorem PTD.pt {b:Bool} (h:PTD X e ρ b):PT X e (tTD X ρ b):=λpq s σ H Q I ⟨H0,Gz,G,R,k⟩=>h.run H0 Gz G pq s σ H Q I R k
theorem PAD.pa (h:PAD X es ρ ds):PA X es (tAD X ρ ds):=λpos pq s σ H Q I ⟨H0,Gz,G,R,k⟩=>h.run H0 Gz G pos pq s σ H Q I R k
theorem PD.of {t:TE} (h:PE X e t) (k:∀ H0 Gz G σ H Q,RepS X.K H0 Gz G H σ ρ->(∀ v G' H',Grow G H G' H'->Rep X.K G' v d->Q v H')->t σ H Q):PD X e ρ d:=
 ⟨λH0 Gz G pq s σ H Q I R q=>h pq s σ H Q I (k H0 Gz G σ H Q R q)⟩
def b7w {j:_}:PD X (.Constant (.int i) j pos) ρ (.int i):=.of b1H λ_ _ _ _ _ _ R q=>q _ _ _ (.refl R.sub) (.int i)
def b7v {x:Str} {j:_}:PD X (.Constant (.str x) j pos) ρ (.str x):=.of b7q λ_ _ _ _ _ _ R q=>q _ _ _ (.refl R.sub) (.str x)
def b4F {x:Bool} {j:_}:PD X (.Constant (.bool x) j pos) ρ (.bool x):=.of b9B λ_ _ _ _ _ _ R q=>q _ _ _ (.refl R.sub) (.bool x)
def b4D {j:_}:PD X (.Constant .none j pos) ρ .none:=.of b7r λ_ _ _ _ _ _ R q=>q _ _ _ (.refl R.sub) .none
def b7u (i:Nat) {x:Str} (h:ρ[i]?=some (.val d)) (hN:X.N[i]?=some x:=by rfl) (hv:Vis X.env.scope x:=by first | exact kC rfl | exact jY (kC rfl) | exact jY (jY rfl)) (hd:(x==("__debug__" : Str))=false:=by decide)
  (hcd:(x==("__classdict__" : Str))=false:=by decide):PD X (.Name x pos) ρ d:=.of (dI hN hv hd hcd) λH0 Gz G σ H Q R q=>by
 obtain ⟨v,e,r⟩:=R.val h;exact ⟨v,e,q v G H (.refl R.sub) r⟩
variable {j:Int}
section
def mR:PAD X [] ρ []:=⟨λH0 Gz G pos pq s σ H Q I R q=>oS pos pq s σ H Q I (q [] G H (.refl R.sub) .nil)⟩
def gI (ha:PD X e ρ d) (hr:PAD X es ρ ds) (hs:j4 (e::es) X.env=(false,eval e X.env)::j4 es X.env:=by rfl):PAD X (e::es) ρ (d::ds):=by
 refine ⟨?_⟩;intro H0 Gz G pos pq s σ H Q I R q;exact mS ha.pe hr.pa hs pos pq s σ H Q I ⟨H0,Gz,G,R,λx G1 H1 g1 r1=>⟨H0,Gz,G1,R.more g1,λxs G2 H2 g2 r2=>q _ G2 H2 (g1.trans g2) (.cons (r1.mono g2.gg) r2)⟩⟩
structure CmpD (X:Cx) (op:CmpOp) (da db:j0) (t:Bool):Prop where
 ex:∃ r:R2,OpR X (ww op) r/\∀ x y G H Q,bJ G H->Rep X.K G x da->Rep X.K G y db->Q (V.bl t) H->r x y H Q
def b8I:CmpD X .Lt (.int i) (.int j) (decide (i<j)):=⟨_,b9E,λx y G H Q _ rx ry q=>by cases rx;cases ry;exact ⟨_,_,rfl,rfl,q⟩⟩
def b8J:CmpD X .LtE (.int i) (.int j) (decide (i<=j)):=⟨_,b9F,λx y G H Q _ rx ry q=>by cases rx;cases ry;exact ⟨_,_,rfl,rfl,q⟩⟩
def cmp_gt:CmpD X .Gt (.int i) (.int j) (decide (j<i)):=⟨_,b9G,λx y G H Q _ rx ry q=>by cases rx;cases ry;exact ⟨_,_,rfl,rfl,q⟩⟩
def b8K:CmpD X .GtE (.int i) (.int j) (decide (j<=i)):=⟨_,b9H,λx y G H Q _ rx ry q=>by cases rx;cases ry;exact ⟨_,_,rfl,rfl,q⟩⟩
def b9p (X:Cx) (da db:j0) (neg:Bool):R2:=λx y H Q=>Rep X.K H x da/\Rep X.K H y db/\qb da=true/\qb db=true/\Q (.bl (if neg then !PyData.eqv da db else qw da db)) H
def b7F (hu:X.A.units+64<cLine) (da db:j0):OpR X (ww .Eq) (b9p X da db false):=by
 intro pq s σ H x y v u Q I rx ry ⟨r1,r2,h1,h2,q⟩;obtain ⟨as,w1⟩:=r1.reads I (dB h1) rx;obtain ⟨bs,w2⟩:=r2.reads I (dB h2) ry;exact eq_dataH w1 w2 h1 h2 hu ⟨.bl _,H,I,rfl,q⟩
def b7z (hu:X.A.units+64<cLine) (da db:j0):OpR X (ww .NotEq) (b9p X da db true):=by
 intro pq s σ H x y v u Q I rx ry ⟨r1,r2,h1,h2,q⟩;obtain ⟨as,w1⟩:=r1.reads I (dB h1) rx;obtain ⟨bs,w2⟩:=r2.reads I (dB h2) ry;exact ne_dataH w1 w2 h1 h2 hu ⟨.bl _,H,I,rfl,q⟩
def b8L (hu:X.A.units+64<cLine) (h1:qb da=true) (h2:qb db=true):CmpD X .Eq da db (qw da db):=
 ⟨_,b7F hu da db,λx y G H Q s rx ry q=>⟨rx.mono s,ry.mono s,h1,h2,q⟩⟩
def b8H (hu:X.A.units+64<cLine) (h1:qb da=true) (h2:qb db=true):CmpD X .NotEq da db (!PyData.eqv da db):=
 ⟨_,b7z hu da db,λx y G H Q s rx ry q=>⟨rx.mono s,ry.mono s,h1,h2,q⟩⟩
variable {rest:T0n}
def a9e {K:qB} (r:RepAll K G xs ds) (h:atI ds i=some d):∃ v,atI xs i=some v/\Rep K G v d:=by
 unfold atI at h ⊢;rw [r.length];cases e:ixN ds.length i with
 | none=>rw [e] at h;cases h
 | some j=>
  rw [e] at h;exact r.get h
def spD (K:qB) (F:List j0->j0->Prop):Sp:=λvs H Q _=>∃ G ds d,(bJ G H/\pG K G H)/\RepAll K G vs ds/\F ds d/\∀ v G' H',Grow G H G' H'->Rep K G' v d->Q v H'
end
def Walk (K:qB) (J:It) (G:Hp) (ds:T0l):Prop:=
 ∀ (i:Nat) (G' H':Hp),bJ G G'->bJ G' H'->(∀ d,ds[i]?=some d->J.go i H'/\∀ x H2,J.yld i H' x H2->∃ G2,Grow G' H' G2 H2/\Rep K G2 x d)/\(ds.length<=i->J.stop i H')
def b3S (K:qB) (J:It) (G H:Hp) (ds:T0l):Prop:=
 ∀ (i:Nat) (G' H':Hp),Grow G H G' H'->(∀ d,ds[i]?=some d->J.go i H'/\∀ x H2,J.yld i H' x H2->∃ G2,Grow G' H' G2 H2/\Rep K G2 x d)/\(ds.length<=i->J.stop i H')
theorem Walk.h {K:qB} (w:Walk K J G ds):b3S K J G H ds:=λi G' H' g=>w i G' H' g.gg g.sub
def tID (K:qB) (ρ:List Ent) (ds:T0l):TI:=λσ H R=>∃ H0 Gz G,RepS K H0 Gz G H σ ρ/\∀ J G' H',Grow G H G' H'->Walk K J G' ds->R J H'
structure PID (X:Cx) (tg iter:Expr) (ρ:List Ent) (ds:T0l):Prop where
 run:PI X tg iter (tID X.K ρ ds)
def a9f {K:qB} {a:Addr} (hq:SqL K G a xs) (r:RepAll K G xs ds):Walk K (Itl K a) G ds:=by
 intro i G' H' s1 s2;refine ⟨λd e=>?_,λhl=>⟨xs,(s1.trans s2).seq hq,by rw [r.length];exact hl⟩⟩;obtain ⟨v,ev,rv⟩:=r.get e;refine ⟨⟨xs,v,(s1.trans s2).seq hq,ev⟩,λx H2 ⟨e2,y⟩=>?_⟩;subst e2;have z:=y xs ((s1.trans s2).seq hq);rw [ev] at z;cases z;exact ⟨G',.refl s2,rv.mono s1⟩
def b0K {K:qB} {a:Addr} (hq:SqT K G a xs) (r:RepAll K G xs ds):Walk K (Itt K a) G ds:=by
 intro i G' H' s1 s2;refine ⟨λd e=>?_,λhl=>⟨xs,lI (s1.trans s2) hq,by rw [r.length];exact hl⟩⟩;obtain ⟨v,ev,rv⟩:=r.get e;refine ⟨⟨xs,v,lI (s1.trans s2) hq,ev⟩,λx H2 ⟨e2,y⟩=>?_⟩;subst e2;have z:=y xs (lI (s1.trans s2) hq);rw [ev] at z;cases z;exact ⟨G',.refl s2,rv.mono s1⟩
def pY (lo:Int) (n:Nat):List j0:=(qV n).map λ(k:Nat)=>.int (lo+(k:Int))
def b0L {K:qB} (lo:Int) (n:Nat):Walk K (Itr lo n) G (pY lo n):=by
 intro i G' H' s1 s2;unfold pY;refine ⟨λd e=>?_,λhl=>by rw [qF,qx] at hl;exact hl⟩;rw [qQ] at e;by_cases hi:i<n
 ·rw [kq hi] at e
  cases e;refine ⟨hi,λx H2 ⟨e1,e2⟩=>?_⟩;subst e1 e2;exact ⟨G',.refl s2,.int _⟩
 ·rw [qd (by simpa using hi)] at e
  cases e
theorem PI.imp {wi':TI} (h:PI X tg iter wi) (k:∀ σ H R,wi' σ H R->wi σ H R):PI X tg iter wi':=λpq s σ H R I w=>h pq s σ H R I (k σ H R w)
def b1A (h:PD X iter ρ (.list ds)):PID X tg iter ρ ds:=⟨PI.imp (a8k h.pe) λσ H R ⟨H0,Gz,G,S,q⟩=>⟨H0,Gz,G,S,λv G1 H1 g1 r1=>by
 cases r1 with
 | list hq r=>exact ⟨_,rfl,⟨_,g1.sub.seq hq⟩,q _ _ _ g1 (a9f hq r)⟩⟩⟩
def b4w (h:PD X iter ρ (.tuple ds)):PID X tg iter ρ ds:=⟨PI.imp (b7n h.pe) λσ H R ⟨H0,Gz,G,S,q⟩=>⟨H0,Gz,G,S,λv G1 H1 g1 r1=>by
 cases r1 with
 | tuple hq r=>exact ⟨_,rfl,⟨_,lI g1.sub hq⟩,q _ _ _ g1 (b0K hq r)⟩⟩⟩
def a7i {n:Int} (hm:X.mg "range" = none) (ha:PD X a ρ (.int n)) (h1:-(2 ^ 62)<=n) (h2:n<2 ^ 62) (hs:j4 [a] X.env=[(false,eval a X.env)]:=by rfl) (hs':j4 [a] X.env=(false,eval a X.env)::j4 [] X.env:=by rfl) (hg:Gl X "range":=by rfl):
  PID X tg (.Call (.Name "range" p) [a] [] pos) ρ (pY 0 n.toNat):=
 ⟨PI.imp (a9A hg hm (gI ha mR hs').pa hs) λσ H R ⟨H0,Gz,G,S,q⟩=>⟨H0,Gz,G,S,λvs G1 H1 g1 r1=>by
  cases r1 with
  | cons r rr=>
   cases rr;cases r
   exact ⟨n,rfl,h1,h2,q _ _ _ g1 (b0L 0 n.toNat)⟩⟩⟩
def tGD (K:qB) (ρ:List Ent) (d:j0) (ρ':List Ent):TG:=λv σ H Q=>∃ H0 Gz G,RepS K H0 Gz G H σ ρ/\Rep K G v d/\∀ σ',RepS K H0 Gz G H σ' ρ'->Q σ' H
def c0P (K:qB) (ρ:List Ent) (ds:T0l) (ρ':List Ent):TGs:=λvs σ H Q=>∃ H0 Gz G,RepS K H0 Gz G H σ ρ/\RepAll K G vs ds/\∀ σ',RepS K H0 Gz G H σ' ρ'->Q σ' H
structure PGD (X:Cx) (tg:Expr) (ρ:List Ent) (d:j0) (ρ':List Ent):Prop where
 run:PG X tg (tGD X.K ρ d ρ')
structure PGsD (X:Cx) (ts:T0n) (ρ:List Ent) (ds:T0l) (ρ':List Ent):Prop where
 run:PGs X ts (c0P X.K ρ ds ρ')
variable {ρ1 ρ2:List Ent}
def a5y (i:Nat) {x:Str} (hN:X.N.Nodup) (hi:X.N[i]?=some x:=by rfl) (hx:Loc X.env.scope x:=by first | exact kC rfl | exact jY rfl) (hf:X.fn x=true\/X.env.scope.names.lookup x=some .local:=by first | exact .inl rfl | exact .inr rfl):
  PGD X (.Name x pos) ρ d (ρ.set i (.val d)):=⟨λpq s σ H v u Q I r ⟨H0,Gz,G,S,rv,q⟩=>b4z hN hi hx hf pq s σ H v u Q I r (q _ (S.set rv))⟩
def b1C:PGsD X [] ρ [] ρ:=⟨λpq s σ H vs us Q I r ⟨H0,Gz,G,S,rv,q⟩=>by
 cases rv
 exact b4x pq s σ H [] us Q I r ⟨rfl,q σ S⟩⟩
def a9B (h1:PGD X e ρ d ρ1) (h2:PGsD X es ρ1 ds ρ2) (hs:(yn (e::es) X.env).map (·.2)=assign e X.env::(yn es X.env).map (·.2):=by rfl):PGsD X (e::es) ρ (d::ds) ρ2:=⟨λpq s σ H vs us Q I r ⟨H0,Gz,G,S,rv,q⟩=>by
 cases rv with
 | cons r1 r2=>exact b1D h1.run h2.run hs pq s σ H _ us Q I r ⟨_,_,rfl,H0,Gz,G,S,r1,λσ' S'=>⟨H0,Gz,G,S',r2,q⟩⟩⟩
def b4y (hc:X.calm=true) (h:PGsD X es ρ ds ρ1) (hn:(yn es X.env).length=ds.length:=by rfl) (hst:(yn es X.env).findIdx? (·.1)=none:=by rfl):PGD X (.Tuple es k pos) ρ (.tuple ds) ρ1:=⟨λpq s σ H v u Q I r ⟨H0,Gz,G,S,rv,q⟩=>by
 cases rv with
 | tuple hq rr=>exact b7o hc h.run hn hst pq s σ H _ u Q I r ⟨_,_,rfl,lI S.sub hq,rr.length,H0,Gz,G,S,rr,q⟩⟩
inductive Out where
 | nx (ρ:List Ent)
 | rt (d:j0)
 | bk (ρ:List Ent)
 | ct (ρ:List Ent)
def b6L (K:qB) (H0 Gz G:Hp) (D:Ends):Out->Prop
 | .nx ρ=>∀ G' H' σ',bJ G G'->RepS K H0 Gz G' H' σ' ρ->D.nx σ' H'
 | .rt d=>∀ v G' H',bJ G G'->Grow Gz H0 G' H'->Rep K G' v d->D.rt v H'
 | .bk ρ=>∀ G' H' σ',bJ G G'->RepS K H0 Gz G' H' σ' ρ->D.bk σ' H'
 | .ct ρ=>∀ G' H' σ',bJ G G'->RepS K H0 Gz G' H' σ' ρ->D.ct σ' H'
def tSD (K:qB) (ρ:List Ent) (o:Out):TS:=λD σ H=>∃ H0 Gz G,RepS K H0 Gz G H σ ρ/\b6L K H0 Gz G D o
structure PSD (X:Cx) (st:Stmt) (ρ:List Ent) (o:Out):Prop where
 run:PS X st (tSD X.K ρ o)
inductive Weak:List Ent->List Ent->Prop
 | nil:Weak [] []
 | keep {e:Ent} {a b:List Ent}:Weak a b->Weak (e::a) (e::b)
 | no {e:Ent} {a b:List Ent}:Weak a b->Weak (e::a) (.no::b)
theorem Weak.refl:∀ ρ:List Ent,Weak ρ ρ
 | []=>.nil
 | _::r=>.keep (Weak.refl r)
theorem Weak.at:∀ {a b:List Ent} {i:Nat} {e:Ent},Weak a b->b[i]?=some e->e=.no\/a[i]?=some e
 | _,_,_,_,.nil,h=>by simp at h
 | _,_,0,e,.keep _,h=>.inr (by simpa using h)
 | _,_,0,e,.no _,h=>.inl (by simpa using h.symm)
 | _,_,i+1,e,.keep w,h=>by
  rcases Weak.at (i:=i) w (by simpa using h) with z | z
  ·exact .inl z
  ·exact .inr (by simpa using z)
 | _,_,i+1,e,.no w,h=>by
  rcases Weak.at (i:=i) w (by simpa using h) with z | z
  ·exact .inl z
  ·exact .inr (by simpa using z)
theorem Weak.length:∀ {a b:List Ent},Weak a b->a.length=b.length
 | _,_,.nil=>rfl
 | _,_,.keep w=>by simp [Weak.length w]
 | _,_,.no w=>by simp [Weak.length w]
theorem RepS.weak {K:qB} (R:RepS K H0 Gz G H σ ρ) (w:Weak ρ ρ'):RepS K H0 Gz G H σ ρ':=by
 refine ⟨R.grow,R.len.trans w.length,λi o e h1 h2=>?_,R.inj.sub λi e h1 h2=>?_,R.tab⟩
 ·rcases w.at h2 with z | z
  ·subst z;trivial
  ·exact R.ent i o e h1 z
 ·rcases w.at h1 with z | z
  ·subst z;cases h2
  ·exact ⟨z,rfl⟩
section
variable {rest:List Stmt} {o:Out}
theorem PSD.of {t:TS} (h:PS X st t) (k:∀ H0 Gz G σ H D,RepS X.K H0 Gz G H σ ρ->b6L X.K H0 Gz G D o->t D σ H):PSD X st ρ o:=⟨λpq s σ H D I ⟨H0,Gz,G,S,q⟩=>h pq s σ H D I (k H0 Gz G σ H D S q)⟩
end
def cU (cap:T0e) (ρ:List Ent):List Ent:=cap.map λo=>match o with
 | some j=>(match ρ[j]? with | some (.val d)=>.val d | _=>.no)
 | none=>.no
def a0c (cap:T0e) (ρ:List Ent):∀ (i:Nat) (e:Ent),(cU cap ρ)[i]?=some e->a8H e=false:=λi e h=>by
 unfold cU at h;rw [qQ] at h;cases hc:cap[i]? with
 | none=>rw [hc] at h;cases h
 | some c=>
  rw [hc] at h;cases c with
  | none=>cases h;rfl
  | some j=>
   have h2:(match ρ[j]? with | some (Ent.val d)=>Ent.val d | _=>Ent.no)=e:=qA h;cases hr:ρ[j]? with
   | none=>rw [hr] at h2;subst h2;rfl
   | some q=>rw [hr] at h2;cases q<;>(subst h2;rfl)
theorem RepS.cap {K:qB} {H0 Gz G H:Hp} {σ:St} {ρ:List Ent} (R:RepS K H0 Gz G H σ ρ) (cap:T0e):RepS K H G G H (fX cap σ) (cU cap ρ):=by
 refine ⟨.refl R.sub,by simp [fX,cU],λi o e h1 h2=>?_,Inj.free (a0c cap ρ),R.tab⟩
 ·unfold fX at h1
  unfold cU at h2;rw [qQ] at h1 h2;cases hc:cap[i]? with
  | none=>rw [hc] at h1;cases h1
  | some c=>
   rw [hc] at h1 h2;cases c with
   | none=>cases h2;trivial
   | some j=>
    have h1:(σ[j]?).getD none=o:=qA h1;have h2:(match ρ[j]? with | some (Ent.val d)=>Ent.val d | _=>Ent.no)=e:=qA h2;cases hr:ρ[j]? with
    | none=>rw [hr] at h2;subst h2;trivial
    | some q=>
     rw [hr] at h2;cases q with
     | no=>subst h2;trivial
     | lst ds=>subst h2;trivial
     | exc c=>subst h2;trivial
     | nst dss=>subst h2;trivial
     | dct kvs=>subst h2;trivial
     | seen w ks=>subst h2;trivial
     | val d=>
      subst h2;obtain ⟨v,e,r⟩:=R.val hr;rw [e] at h1;subst h1;exact ⟨v,rfl,r⟩
variable {Q:VK}
section
variable {cap:T0e} {ρb:List Ent} {α:Type} {xs:List α} {φ f:α->j0} {cnd:α->Bool} {ρx:α->List Ent}
structure PTsD (X:Cx) (ifs:T0n) (ρ:List Ent) (b:Bool):Prop where
 run:PTs X ifs (tTD X ρ b)
def b1r:PTsD X [] ρ true:=⟨λpq s σ H Q I ⟨H0,Gz,G,R,q⟩=>b4p pq s σ H Q I (q G H (.refl R.sub))⟩
def b1q (h:PTD X c ρ t):PTsD X [c] ρ t:=⟨b4o h.pt⟩
def gU (K:qB) (xs:List α) (φ:α->j0) (ρb:List Ent) (ρx:α->List Ent):TG:=λv σ H Q=>∃ x∈xs,tGD K ρb (φ x) (ρx x) v σ H Q
def tU (K:qB) (xs:List α) (ρx:α->List Ent) (cnd:α->Bool):TT:=λσ H Q=>∃ x∈xs,∃ H0 Gz G,RepS K H0 Gz G H σ (ρx x)/\∀ G' H',Grow G H G' H'->Q (cnd x) H'
def eU (K:qB) (xs:List α) (ρx:α->List Ent) (cnd:α->Bool) (f:α->j0):TE:=λσ H Q=>∃ x∈xs,cnd x=true/\∃ H0 Gz G,RepS K H0 Gz G H σ (ρx x)/\∀ v G' H',Grow G H G' H'->Rep K G' v (f x)->Q v H'
def eUF (K:qB) (xs:List α) (ρx:α->List Ent) (cnd:α->Bool) (f:α->j0) (H0 Gz:Hp):TE:=λσ H Q=>∃ x∈xs,cnd x=true/\∃ G,RepS K H0 Gz G H σ (ρx x)/\∀ v G' H',Grow G H G' H'->Rep K G' v (f x)->Q v H'
def b0T {g:TG} {te':TE} {σ0:St} (h:∀ σ H Q,te σ H Q->te' σ H Q) (hg:∀ x σ H Q Q',(∀ σ H,Q σ H->Q' σ H)->g x σ H Q->g x σ H Q') (ht:∀ σ H Q Q',(∀ b H,Q b H->Q' b H)->tc σ H Q->tc σ H Q') (t:xL J g tc te σ0 H Q):xL J g tc te' σ0 H Q:=by
 obtain ⟨W,hW⟩:=t;refine ⟨W,λD hD=>⟨(hW D hD).1,λi m ys σ1 H1 w h1=>?_⟩⟩;rcases (hW D hD).2 i m ys σ1 H1 w h1 with z | ⟨go,z⟩
 ·exact .inl z
 ·refine .inr ⟨go,λx H2 y=>hg _ _ _ _ _ (λσ3 H3 q3=>ht _ _ _ _ (λb H4 q4=>?_) q3) (z x H2 y)⟩
  cases b with
  | true=>rw [if_pos rfl] at q4 ⊢;exact h _ _ _ q4
  | false=>rw [if_neg (by decide)] at q4 ⊢;exact q4
def b6U {K:qB} (R:RepS K H0 Gz G H σ ρ) (wk:b3S K J G H (xs.map φ)) (hb:Weak (cU cap ρ) ρb) (hw:∀ x∈xs,Weak (ρx x) ρb) (hz:xs.length<=j5)
  (q:∀ D ys G' H',Grow G H G' H'->G' D=some (.lst ys)->H D=none->RepAll K G' ys ((xs.filter cnd).map f)->Q (.ref D) H'):xL J (gU K xs φ ρb ρx) (tU K xs ρx cnd) (eUF K xs ρx cnd f H G) (fX cap σ) H Q:=by
 refine ⟨λD i m ys σ' H'=>m=xs.length - i/\i<=xs.length/\∃ G',RepS K H G G' H' σ' ρb/\G' D=none/\RepAll K G' ys (((xs.take i).filter cnd).map f),λD hD=>⟨⟨xs.length,by simp,qt _,G,?_,R.sub.free hD,by simpa using RepAll.nil⟩,?_⟩⟩
 ·exact ((R.cap cap).more (.side R.sub hD)).weak hb
 ·rintro i m ys σ1 H1 ⟨rfl,hi,G1,R1,hG1,ra⟩ hD1
  obtain ⟨wgo,wstop⟩:=wk i G1 H1 R1.grow;by_cases hlt:i<xs.length
  ·have hx:xs[i]?=some xs[i]:=qD hlt
   have hm:xs[i]∈xs:=jZ hlt;obtain ⟨go,yl⟩:=wgo (φ xs[i]) (by rw [qQ,hx];rfl);have tk:(xs.take (i+1)).filter cnd=(xs.take i).filter cnd++(if cnd xs[i]=true then [xs[i]] else []):=by
    rw [wF,hx,List.filter_append];cases hcx:cnd xs[i]<;>simp [hcx]
   refine .inr ⟨go,λx H2 y=>?_⟩;obtain ⟨G2,g2,rx⟩:=yl x H2 y;refine ⟨xs[i],hm,H,G,G2,R1.more g2,rx,λσ3 R3=>⟨xs[i],hm,H,G,G2,R3,λG4 H4 g4=>?_⟩⟩;have g14:=g2.trans g4;have hD4:H4 D=some (.lst ys):=g14.hh.lst hD1;have hG4:G4 D=none:=g14.new D hG1 (by rw [hD1];simp);dsimp only;by_cases hcx:cnd xs[i]=true
   ·rw [if_pos hcx]
    refine ⟨xs[i],hm,hcx,G4,R3.more g4,λv G5 H5 g5 rv=>?_⟩;have hD5:H5 D=some (.lst ys):=g5.hh.lst hD4;have hG5:G5 D=none:=g5.new D hG4 (by rw [hD4];simp);have hlen:ys.length<j5:=by
     have h1:=ra.length;have h2:(((xs.take i).filter cnd).map f).length<=i:=by
      rw [qF];exact qk (zm _ _) (by rw [ju];omega)
     omega
    refine ⟨hD5,hlen,xs.length - (i+1),by omega,rfl,hlt,G5,?_,hG5,?_⟩
    ·have R5:RepS K H G G5 H5 σ3 ρb:=((R3.more g4).more g5).weak (hw _ hm)
     -- the list at D has one item more;nothing else speaks of D
     have noOwn:∀ (j:Nat) (e:Ent),ρb[j]?=some e->a8H e=false:=λj e h2=>by
      rcases hb.at h2 with z' | z'
      ·rw [z'];rfl
      ·exact a0c cap ρ j e z'
     have hHD:H D=none:=hD;refine ⟨⟨R5.grow.gg,R5.grow.hh.wr hHD hD5,λb o e=>?_,R5.grow.new,R5.grow.nt⟩,R5.len,λj o e h1 h2=>?_,Inj.free (λj e h2=>noOwn j e h2),R5.tab.wr hD5⟩
     ·rw [aE (aO e hG5)];exact R5.sub b o e
     ·have E:=R5.ent j o e h1 h2
      cases e with
      | no=>trivial
      | val d=>exact E
      | exc c=>obtain ⟨b,C,z,g1,g2⟩:=E;exact ⟨b,C,z,g1,by rw [aE (cO g2 hD5 (by unfold xcO;nofun))];exact g2⟩
      | lst es=>have:=noOwn j _ h2;cases this
      | nst dss=>have:=noOwn j _ h2;cases this
      | dct kvs=>have:=noOwn j _ h2;cases this
      | seen w ks=>have:=noOwn j _ h2;cases this
    ·rw [tk,if_pos hcx,qZ]
     exact (ra.mono ((g14.trans g5).gg)).append (.cons rv .nil)
   ·rw [if_neg hcx]
    refine ⟨hD4,xs.length - (i+1),by omega,rfl,hlt,G4,(R3.more g4).weak (hw _ hm),hG4,?_⟩;rw [tk,if_neg hcx,jt];exact ra.mono g14.gg
  ·refine .inl ⟨wstop (by rw [qF];omega),?_⟩
   have hi':i=xs.length:=by omega
   subst hi';rw [List.take_length] at ra;have sD:bJ G1 (upd G1 D (.lst ys)):=bF hG1;refine q D ys (upd G1 D (.lst ys)) H1 ⟨R1.grow.gg.trans sD,R1.grow.hh,λb o e=>?_,λb e n=>?_,λn=>(R1.grow.nt n).upd (by nofun)⟩ aH hD (ra.mono sD)
   ·by_cases hbD:b=D
    ·subst hbD;rw [aH] at e;cases e;exact hD1
    ·rw [aE hbD] at e;exact R1.sub b o e
   ·rw [aE (λz=>n (by rw [z];exact hD))]
    exact R1.grow.new b e n
def a6T {K:qB} (R:RepS K H0 Gz G H σ ρ) (wk:b3S K J G H (xs.map φ)) (hb:Weak (cU cap ρ) ρb) (hw:∀ x∈xs,Weak (ρx x) ρb) (hz:xs.length<=j5)
  (q:∀ D ys G' H',Grow G H G' H'->G' D=some (.lst ys)->H D=none->RepAll K G' ys ((xs.filter cnd).map f)->Q (.ref D) H'):xL J (gU K xs φ ρb ρx) (tU K xs ρx cnd) (eU K xs ρx cnd f) (fX cap σ) H Q:=
 b0T (t:=b6U R wk hb hw hz q) (λσ H' Q' ⟨x,hx,hc,G',R',q'⟩=>⟨x,hx,hc,H,G,G',R',q'⟩) (λv σ H' Q1 Q2 h ⟨x,hx,H1,G1,G2,R2,r2,q2⟩=>⟨x,hx,H1,G1,G2,R2,r2,λσ3 R3=>h _ _ (q2 σ3 R3)⟩)
  λσ H' Q1 Q2 h ⟨x,hx,H1,G1,G2,R2,q2⟩=>⟨x,hx,H1,G1,G2,R2,λG4 H4 g4=>h _ _ (q2 G4 H4 g4)⟩
def a2I {K:qB} (R:RepS K H0 Gz G H σ ρ) (wk:Walk K J G (xs.map φ)) (hb:Weak (cU cap ρ) ρb) (hw:∀ x∈xs,Weak (ρx x) ρb) (hz:xs.length<=j5)
  (q:∀ D ys G' H',Grow G H G' H'->G' D=some (.lst ys)->H D=none->RepAll K G' ys ((xs.filter cnd).map f)->Q (.ref D) H'):xL J (gU K xs φ ρb ρx) (tU K xs ρx cnd) (eU K xs ρx cnd f) (fX cap σ) H Q:=
 a6T R wk.h hb hw hz q
def a5p {K:qB} (R:RepS K H0 Gz G H σ ρ) (wk:Walk K J G (xs.map φ)) (hb:Weak (cU cap ρ) ρb) (hw:∀ x∈xs,Weak (ρx x) ρb) (hz:xs.length<=j5)
  (q:∀ v G' H',Grow G H G' H'->Rep K G' v (.list ((xs.filter cnd).map f))->Q v H'):xL J (gU K xs φ ρb ρx) (tU K xs ρx cnd) (eU K xs ρx cnd f) (fX cap σ) H Q:=
 a2I R wk hb hw hz λD ys G' H' g h _ ra=>q _ G' H' g (.list (.of h) ra)
def b4E (hc:X.calm=true) (B:Blk X scope N' cap) (hi:PID X tg iter ρ (xs.map φ)) (hb:Weak (cU cap ρ) ρb) (hw:∀ x∈xs,Weak (ρx x) ρb) (hz:xs.length<=j5)
  (hg:∀ C s3z H3z fp x,x∈xs->PGD (bY X scope N' C s3z H3z fp) tg ρb (φ x) (ρx x))
  (ht:∀ C s3z H3z fp x,x∈xs->PTsD (bY X scope N' C s3z H3z fp) ifs (ρx x) (cnd x))
  (he:∀ C s3z H3z fp x,x∈xs->cnd x=true->PD (bY X scope N' C s3z H3z fp) elt (ρx x) (f x))
  (hs:∀ x,w5 iter X.env x=pure x:=by intro _;rfl):PD X (.ListComp elt [⟨tg,iter,ifs,0⟩] scope pos) ρ (.list ((xs.filter cnd).map f)):=
 .of (a8m (g:=gU X.K xs φ ρb ρx) (tc:=tU X.K xs ρx cnd) (te:=eU X.K xs ρx cnd f) hc B hi.run (λC s3z H3z fp pq s σ H v u Q I r ⟨x,hx,q⟩=>(hg C s3z H3z fp x hx).run pq s σ H v u Q I r q)
  (λC s3z H3z fp pq s σ H Q I ⟨x,hx,q⟩=>(ht C s3z H3z fp x hx).run pq s σ H Q I q) (λC s3z H3z fp pq s σ H Q I ⟨x,hx,hcx,H0,Gz,G,R,q⟩=>(he C s3z H3z fp x hx hcx).run H0 Gz G pq s σ H Q I R q) hs)
  λH0 Gz G σ H Q R q=>⟨H0,Gz,G,R,λJ G' H' g wk=>a5p (R.more g) wk hb hw hz λv G2 H2 g2 r2=>q v G2 H2 (g.trans g2) r2⟩
def b1t (i:Nat) {x:Str} (hN:X.N.Nodup) (hc:X.calm=true) (B:Blk X scope N' cap) (hi:PID X tg iter ρ (xs.map φ)) (hb:Weak (cU cap ρ) ρb) (hw:∀ x∈xs,Weak (ρx x) ρb) (hz:xs.length<=j5)
  (hg:∀ C s3z H3z fp x,x∈xs->PGD (bY X scope N' C s3z H3z fp) tg ρb (φ x) (ρx x))
  (ht:∀ C s3z H3z fp x,x∈xs->PTsD (bY X scope N' C s3z H3z fp) ifs (ρx x) (cnd x))
  (he:∀ C s3z H3z fp x,x∈xs->cnd x=true->PD (bY X scope N' C s3z H3z fp) elt (ρx x) (f x))
  (hxi:X.N[i]?=some x:=by rfl) (hx:X.env.scope.names.lookup x=some .local:=by rfl)
  (hsw:wy (.ListComp elt [⟨tg,iter,ifs,0⟩] scope pos) (some (.Name x p)) spos.line X.env=pure true:=by rfl)
  (hs:∀ x,w5 iter X.env x=pure x:=by intro _;rfl):PSD X (.Assign [.Name x p] (.ListComp elt [⟨tg,iter,ifs,0⟩] scope pos) spos) ρ (.nx (ρ.set i (.val (.list ((xs.filter cnd).map f))))):=
 .of (a4t (g:=gU X.K xs φ ρb ρx) (tc:=tU X.K xs ρx cnd) (te:=eU X.K xs ρx cnd f) hN hxi hx hc B hi.run (λC s3z H3z fp pq s σ H v u Q I r ⟨x,hx,q⟩=>(hg C s3z H3z fp x hx).run pq s σ H v u Q I r q)
  (λC s3z H3z fp pq s σ H Q I ⟨x,hx,q⟩=>(ht C s3z H3z fp x hx).run pq s σ H Q I q) (λC s3z H3z fp pq s σ H Q I ⟨x,hx,hcx,H0,Gz,G,R,q⟩=>(he C s3z H3z fp x hx hcx).run H0 Gz G pq s σ H Q I R q) hsw hs)
  λH0 Gz G σ H D R q=>⟨H0,Gz,G,R,λJ G' H' g wk=>a5p (R.more g) wk hb hw hz λv G2 H2 g2 r2=>q G2 H2 _ (g.gg.trans g2.gg) (((R.more g).more g2).set r2)⟩
end
def gB (N:T0q) (ds:T0l):List Ent:=ds.map .val++List.replicate (N.length - ds.length) .no
def fR {K:qB} {vs:List V} (s:bJ G H/\pG K G H) (r:RepAll K G vs ds):RepS K H G G H (start N vs) (gB N ds):=by
 have hl:=r.length;refine ⟨.refl s.1,by simp [start,gB,hl],λi o e h1 h2=>?_,Inj.free (λi e h2=>?_),s.2⟩
 ·unfold gB at h2
  unfold start at h1;by_cases hi:i<ds.length
  ·rw [jH (by simpa using hi),qQ] at h2
   rw [jH (by simp;omega),qQ] at h1;rw [qD hi] at h2;obtain ⟨v,ev,rv⟩:=r.get (qD hi);rw [ev] at h1;cases h1;cases h2;exact ⟨v,rfl,rv⟩
  ·rw [jQ (by simpa using hi),va] at h2
   split at h2
   ·cases h2;trivial
   ·cases h2
 ·unfold gB at h2
  by_cases hi:i<ds.length
  ·rw [jH (by simpa using hi),qQ,qD hi] at h2
   cases h2;rfl
  ·rw [jQ (by simpa using hi),va] at h2
   split at h2
   ·cases h2;rfl
   ·cases h2
section
variable {K:qB}
abbrev fcx (P:Program) (w:World) (K:qB) (mg:T0d) (base:Heap) (N:T0q) (qual:Str) (scope:Scope) (f:Addr) (cd:Value) (A:Around) (outer:List Env) (s:Shared) (H:Hp) (E:XK):Cx:=(a6n CX0 P w K mg base N qual scope f cd A outer s H E).nox
end
section
variable {Q:T0a}
def a1P (hi:ul us ns):∃ xs:Array (Int×Tok),us.toArray=intItems xs/\ns=xs.toList.map (·.1):=by
 obtain ⟨xs,e⟩:=hi.allInts.items;exact ⟨xs,e,by rw [<-hi.numsOf,<-nums_intItems,<-e]⟩
def b4Z (hh:A.handled=none) (hl:s.heap.IsList l us.toArray) (hi:ul us ns) (hne:ns≠[])
  (h:∀ h' M t tk,(∀ b o,s.heap.get? b=some o->h'.get? b=some o)->M∈ns->(∀ a,a∈ns->a<=M)->Q (.int M t) { s with heap:=h',toks:=tk }):
  wpAny (model prog w) A (call (.builtin "max") [.ref l]) Q E s:=by
 obtain ⟨xs,e,hns⟩:=a1P hi;have hpos:0<xs.size:=by
  cases hx:ns with
  | nil=>exact absurd hx hne
  | cons a r=>
   have:ns.length=xs.size:=by rw [hns];simp
   rw [<-this,hx];simp
 rw [e] at hl;refine max_intList hh hl hpos λv h' tk hv kp=>?_;obtain ⟨t,rfl⟩:=intItems_at hv;have best:=argBest_gt (numAt xs) (xs.size - 1);refine h h' _ t tk kp ?_ λa ha=>?_
 ·rw [hns,QZ]
  exact getD_mem (by rw [qF,qS];have:=best.1;omega)
 ·rw [hns] at ha
  obtain ⟨j,hj,rfl⟩:=mem_getD ha;rw [qF,qS] at hj;rw [<-QZ];exact best.2 j (by omega)
def b5c (hh:A.handled=none) (hl:s.heap.IsList l us.toArray) (hi:ul us ns) (hne:ns≠[])
  (h:∀ h' M t tk,(∀ b o,s.heap.get? b=some o->h'.get? b=some o)->M∈ns->(∀ a,a∈ns->M<=a)->Q (.int M t) { s with heap:=h',toks:=tk }):
  wpAny (model prog w) A (call (.builtin "min") [.ref l]) Q E s:=by
 obtain ⟨xs,e,hns⟩:=a1P hi;have hpos:0<xs.size:=by
  cases hx:ns with
  | nil=>exact absurd hx hne
  | cons a r=>
   have:ns.length=xs.size:=by rw [hns];simp
   rw [<-this,hx];simp
 rw [e] at hl;refine min_intList hh hl hpos λv h' tk hv kp=>?_;obtain ⟨t,rfl⟩:=intItems_at hv;have best:=argBest_lt (numAt xs) (xs.size - 1);refine h h' _ t tk kp ?_ λa ha=>?_
 ·rw [hns,QZ]
  exact getD_mem (by rw [qF,qS];have:=best.1;omega)
 ·rw [hns] at ha
  obtain ⟨j,hj,rfl⟩:=mem_getD ha;rw [qF,qS] at hj;rw [<-QZ];exact best.2 j (by omega)
end
variable {M:Int}
def b0p (hc:X.calm=true):lB X (.builtin "max") (λxs H Q=>∃ p ns,xs=[.ref p]/\SqL X.K H p (ns.map V.int)/\ns≠[]/\∀ M,M∈ns->(∀ a,a∈ns->a<=M)->Q (.int M) H):=by
 intro pq s σ H xs us Q I r ⟨p,ns,e,hq,hne,q⟩;subst e;obtain ⟨u,rfl,rx⟩:=vals1 r;cases rx;obtain ⟨its,rv,pl,hz⟩:=I.list hq;exact b4Z (I.ok.hd hc) pl.isList (intsAre_of rv) hne λh' M t tk kp m1 m2=>⟨.int M,H,I.kept kp,⟨t,rfl⟩,q M m1 m2⟩
def b0n (hc:X.calm=true):lB X (.builtin "min") (λxs H Q=>∃ p ns,xs=[.ref p]/\SqL X.K H p (ns.map V.int)/\ns≠[]/\∀ M,M∈ns->(∀ a,a∈ns->M<=a)->Q (.int M) H):=by
 intro pq s σ H xs us Q I r ⟨p,ns,e,hq,hne,q⟩;subst e;obtain ⟨u,rfl,rx⟩:=vals1 r;cases rx;obtain ⟨its,rv,pl,hz⟩:=I.list hq;exact b5c (I.ok.hd hc) pl.isList (intsAre_of rv) hne λh' M t tk kp m1 m2=>⟨.int M,H,I.kept kp,⟨t,rfl⟩,q M m1 m2⟩
def a5J:List Int->Int
 | []=>0
 | a::r=>r.foldl max a
def b7U:List Int->Int
 | []=>0
 | a::r=>r.foldl min a
theorem lF:∀ (r:T0s) (a:Int),a<=r.foldl max a/\∀ b∈r,b<=r.foldl max a
 | [],a=>⟨jd _,λ_ h=>by cases h⟩
 | x::r,a=>by
  have ih:=lF r (max a x);rw [zC];refine ⟨by have:=ih.1;omega,λb hb=>?_⟩;rcases qI.mp hb with rfl | hb
  ·have:=ih.1;omega
  ·exact ih.2 b hb
theorem nF:∀ (r:T0s) (a:Int),r.foldl max a=a\/r.foldl max a∈r
 | [],a=>.inl rfl
 | x::r,a=>by
  rw [zC];rcases nF r (max a x) with h | h
  ·by_cases hx:a<=x
   ·right;rw [h];simp [Int.max_def,hx]
   ·left;rw [h];simp [Int.max_def,hx]
  ·exact .inr (qE _ h)
def a8z (h1:M∈ns) (h2:∀ a,a∈ns->a<=M):M=a5J ns:=by
 cases ns with
 | nil=>cases h1
 | cons a r=>
  show M=r.foldl max a;have g:=lF r a;have m:=nF r a;apply Int.le_antisymm
  ·rcases qI.mp h1 with rfl | h1
   ·exact g.1
   ·exact g.2 M h1
  ·rcases m with m | m
   ·rw [m];exact h2 a qf
   ·exact h2 _ (qE _ m)
theorem uW:∀ (r:T0s) (a:Int),r.foldl min a<=a/\∀ b∈r,r.foldl min a<=b
 | [],a=>⟨jd _,λ_ h=>by cases h⟩
 | x::r,a=>by
  have ih:=uW r (min a x);rw [zC];refine ⟨by have:=ih.1;omega,λb hb=>?_⟩;rcases qI.mp hb with rfl | hb
  ·have:=ih.1;omega
  ·exact ih.2 b hb
theorem tP:∀ (r:T0s) (a:Int),r.foldl min a=a\/r.foldl min a∈r
 | [],a=>.inl rfl
 | x::r,a=>by
  rw [zC];rcases tP r (min a x) with h | h
  ·by_cases hx:a<=x
   ·left;rw [h];simp [Int.min_def,hx]
   ·right;rw [h];simp [Int.min_def,hx]
  ·exact .inr (qE _ h)
def b5e (h1:M∈ns) (h2:∀ a,a∈ns->M<=a):M=b7U ns:=by
 cases ns with
 | nil=>cases h1
 | cons a r=>
  show M=r.foldl min a;have g:=uW r a;have m:=tP r a;apply Int.le_antisymm
  ·rcases m with m | m
   ·rw [m];exact h2 a qf
   ·exact h2 _ (qE _ m)
  ·rcases qI.mp h1 with rfl | h1
   ·exact g.1
   ·exact g.2 M h1
def a1C (h:ns≠[]):a5J ns∈ns:=by
 cases ns with
 | nil=>exact absurd rfl h
 | cons a r=>
  rcases nF r a with m | m
  ·show r.foldl max a∈_;rw [m];exact qf
  ·exact qE _ m
def a8y {a:Int} (h:a∈ns):a<=a5J ns:=by
 cases ns with
 | nil=>cases h
 | cons b r=>
  rcases qI.mp h with rfl | h
  ·exact (lF r a).1
  ·exact (lF r b).2 a h
def b9s (K:qB):R2:=λx y H Q=>∃ l b xs zs,x=.ref l/\y=.ref b/\SqL K H l xs/\SqL K H b zs/\xs.length+zs.length<=j5/\∀ p,H p=none->Q (.ref p) (upd H p (.lst (xs++zs)))
def b6K (so:Scope) (NN:T0q) (scope:Scope) (N':T0q) (cap:T0e):Bool:=
 decide (scope.kind=.function)&&scope.names.all (λy=>decide (y.2=.cell->scope.names.lookup y.1=some .cell))&&scope.names.all (λy=>decide (y.2=.local->scope.names.lookup y.1=some .local))
  && scope.names.all (λy=>decide (y.2=.free->so.names.lookup y.1=some .cell))
  && (qV cap.length).all (λi=>match cap[i]? with
   | some (some j)=>(match N'[i]?,NN[j]? with | some x,some y=>decide (x=y/\scope.names.lookup x=some .free) | _,_=>false)
   | _=>true)
  && decide (cap.length=N'.length)&&decide N'.Nodup
def dO {so:Scope} {NN:T0q} {cap:T0e} (hs:X.env.scope=so) (hN:X.N=NN) (h:b6K so NN scope N' cap=true):Blk X scope N' cap:=by
 unfold b6K at h;simp only [qL,decide_eq_true_eq,qm] at h;obtain ⟨⟨⟨⟨⟨⟨h1,h2⟩,h3⟩,h4⟩,h5⟩,h6⟩,h7⟩:=h;refine ⟨h1,h2,h3,λy hy hk=>?_,λi j hij=>?_,h6,h7⟩
 ·show X.env.scope.names.lookup y.1=some .cell
  rw [hs];exact h4 y hy hk
 ·have hi:i<cap.length:=(qR.mp hij).1
  have q:=h5 i (qo.mpr hi);rw [hij] at q;dsimp only at q;cases e1:N'[i]? with
  | none=>rw [e1] at q;cases q
  | some x=>
   rw [e1] at q;cases e2:NN[j]? with
   | none=>rw [e2] at q;cases q
   | some y=>
    rw [e2] at q;have q':x=y/\scope.names.lookup x=some .free:=of_decide_eq_true q;exact ⟨x,rfl,by rw [hN,e2,q'.1],q'.2⟩
abbrev Mt:=Str×Int×Int
abbrev dM (m:Mt):j0:=.tuple [.str m.1,.int m.2.1,.int m.2.2]
abbrev dS (s:List Mt):j0:=.tuple (s.map dM)
section
variable {R:Result->Shared->Prop} {S:Addr} {wr:T0o} {P:Nat->Value->Prop} {St:Nat->Heap->Prop}
abbrev a9d (its:Array Value) (c:Nat):Obj:={ cls:=.type "list", dict:=none,data:=.seq its c,slots:=#[] }
def b1Y (W:Walks prog w A.in1 I fp wr n P St) (bt:Nat->Nat->Bool) (hc:CmpOf prog w A.in1 .Gt P bt) (hS:S∉fp):
  ∀ (k j:Nat) (s:Shared) (vb:Value) (c:Nat),n=j+1+k->St (j+1) s.heap->P (Qb bt j) vb->s.heap.get? S=some (a9d #[vb,vb] c) ->
   (∀ v h' tk,P (Qb bt (n - 1)) v->(∀ b o,b∉wr->b≠S->s.heap.get? b=some o->h'.get? b=some o)->R (.ok (.ret v)) { s with heap:=h',toks:=tk }) ->
   ua (model prog w) A (.builtin "max.loop" ⟨[.ref I,.none,.ref S],kw⟩) R s:=by
 have nS:S∉wr:=λz=>hS (W.sub _ z);have nm:(toString "max" ++ toString ".loop" : String) = "max.loop":=by decide
 intro k
 induction k with
 | zero=>
  intro j s vb c en st pb eS fin;have en':j+1=n:=by omega
  apply wv F.entry_max_loop;rw [jC zG _];show wpAny _ A.in1 (uh (.ref S)>>=_) _ _ s;apply q8;apply wu eS rfl;show wpAny _ A.in1 (tryCatch (yq (.ref I)) _>>=_) _ _ s;apply q8;apply u3;refine W.done s _ _ (en'▸st) λh' tk kp=>?_;have eS':=kp S _ nS eS;show wpAny _ A.in1 (updateSeq S (λ_=>#[])>>=_) _ _ _;apply q8;refine uu eS' rfl (q8 (uk (j3 ?_)));exact fin vb _ tk (by rw [<-en'];exact pb) λb o hb hbS e=>(jk _ _ (jT hbS)).trans (kp b o hb e)
 | succ k ih=>
  intro j s vb c en st pb eS fin;have jn:j+1<n:=by omega
  apply wv F.entry_max_loop;rw [jC zG _];show wpAny _ A.in1 (uh (.ref S)>>=_) _ _ s;apply q8;apply wu eS rfl;show wpAny _ A.in1 (tryCatch (yq (.ref I)) _>>=_) _ _ s;apply q8;apply u3;refine W.item (j+1) s _ _ jn st λv h' tk pv st' kp=>?_;have eS':=kp S _ nS eS;show wpAny _ A.in1 (tryCatch (holding [v,v] (richCompare .Gt v vb>>=_)) _>>=_) _ _ _;apply q8;apply u3;apply wz;apply q8;refine hc (j+1) (Qb bt j) v vb _ _ _ pv pb ?_;apply q8;apply wz;apply ym;refine q8 (uk (j3 ?_));cases hb:bt (j+1) (Qb bt j) with
  | true=>
   simp only [if_true];apply q8;refine uu eS' rfl (q8 (uk ?_));rw [nm]
   refine j3 ⟨ye zG _,ih (j+1) _ v _ (by omega) (W.frame _ _ _ st' λb hbf o e=>(jk _ _ (λz:S=b=>hS (by rw [z];exact hbf))).trans e)
    (by simp only [Qb,hb,if_true];exact pv) (kJ _ eS' rfl) λv' h'' tk'' pv' kp'=>?_⟩
   exact fin v' h'' tk'' pv' λb o hbw hbS e=>kp' b o hbw hbS ((jk _ _ (jT hbS)).trans (kp b o hbw e))
  | false=>
   simp only [kE,if_false];apply q8;apply uk;rw [nm];refine j3 ⟨ye zG _,ih (j+1) _ vb c (by omega) st' (by simp only [Qb,hb,kE,if_false];exact pb) eS' λv' h'' tk'' pv' kp'=>?_⟩;exact fin v' h'' tk'' pv' λb o hbw hbS e=>kp' b o hbw hbS (kp b o hbw e)
def a9I (W:Walks prog w A.in1 I fp wr n P St) (bt:Nat->Nat->Bool) (hc:CmpOf prog w A.in1 .Gt P bt) (hS:S∉fp) (dv:Value) (dn:Str) {c:Nat} (st:St 0 s.heap) (eS:s.heap.get? S=some (a9d #[] c))
  (fin:∀ v h' tk,(∀ b o,b∉wr->b≠S->s.heap.get? b=some o->h'.get? b=some o)->(0<n->P (Qb bt (n - 1)) v)->(n=0->v=dv)->R (.ok (.ret v)) { s with heap:=h',toks:=tk }):
  ua (model prog w) A (.builtin "max.loop" ⟨[.ref I,.none,.ref S],[(dn,dv)]⟩) R s:=by
 have nS:S∉wr:=λz=>hS (W.sub _ z);have nm:(toString "max" ++ toString ".loop" : String) = "max.loop":=by decide
 apply wv F.entry_max_loop;rw [jC zG _];show wpAny _ A.in1 (uh (.ref S)>>=_) _ _ s;apply q8;apply wu eS rfl;show wpAny _ A.in1 (tryCatch (yq (.ref I)) _>>=_) _ _ s;apply q8;apply u3;by_cases hn:n=0
 ·refine W.done s _ _ (by rw [hn];exact st) λh' tk kp=>?_
  show wpAny _ A.in1 (rule _>>=_) _ _ _;exact q8 (yd (j3 (fin dv h' tk (λb o hb _ e=>kp b o hb e) (λz=>by omega) λ_=>rfl)))
 ·refine W.item 0 s _ _ (by omega) st λv h' tk pv st' kp=>?_
  have eS':=kp S _ nS eS;show wpAny _ A.in1 (updateSeq S (λ_=>#[v,v])>>=_) _ _ _;apply q8;refine uu eS' rfl ?_;rw [nm]
  refine j3 ⟨ye zG _,b1Y W bt hc hS (n - 1) 0 _ v _ (by omega) (W.frame _ _ _ st' λb hbf o e=>(jk _ _ (λz:S=b=>hS (by rw [z];exact hbf))).trans e) pv
   (kJ _ eS' rfl) λv' h'' tk'' pv' kp'=>?_⟩
  exact fin v' h'' tk'' (λb o hbw hbS e=>kp' b o hbw hbS ((jk _ _ (jT hbS)).trans (kp b o hbw e))) (λ_=>pv') λz=>absurd z hn
end
section
variable {Q:T0a}
def b0B (a v:Value):QW "max" ⟨[a],[(jB "default", v)]⟩:=by unfold QW;kernel_rfl
def b0z (dv:Value):Builtin.Builtins.bindParams "max" ["key", "default"] 0 ⟨[],[(jB "default", dv)]⟩=pure [none,some dv]:=by kernel_rfl
def b5a (hh:A.handled=none) (hl:s.heap.IsList l us.toArray) (hi:ul us ns) (dv:Value)
  (h:∀ h' v tk,(∀ b o,s.heap.get? b=some o->h'.get? b=some o)->(ns=[]->v=dv)->(ns≠[]->∃ t,v=.int (a5J ns) t)->Q v { s with heap:=h',toks:=tk }):
  wpAny (model prog w) A (call (.builtin "max") [.ref l] [(jB "default", dv)]) Q E s:=by
 have nm:(toString "max" ++ toString ".loop" : String) = "max.loop":=by decide
 obtain ⟨xs,e,hns⟩:=a1P hi;rw [e] at hl;refine PyProof.Rows.kmk_tree F.kind_max F.plain_max F.entry_max (b0B _ _) ?_;show wpAny _ A.in1 (Builtin.Builtins.bindParams "max" ["key", "default"] 0 ⟨[],[(jB "default", dv)]⟩>>=_) _ _ s;refine q8 (ux (b0z dv) ?_);refine q8 (j3 ?_);refine q8 (iter_intList hl λs2z e2 st hfp hlI=>?_);subst e2;refine q8 (j8 ?_);rw [nm];have W:=Walks.list (prog:=prog) (w:=w) (A:=A.in1) hh s.heap.objs.size l hlI (intItems xs);refine j3 ⟨ye zG _,a9I W _ (CmpOf.ints_gt (numAt xs) (λ_ _=>intItems_at)) (λhm=>ji _ (hfp _ hm)) dv _ (W.frame _ _ _ st λb _ o e=>qC _ e) (qJ _ rfl) λv h' tk kp h1 h2=>?_⟩;have sz:(intItems xs).size=xs.size:=by simp [intItems]
 have len:ns.length=xs.size:=by rw [hns];simp
 refine h h' v tk (λb o e=>?_) (λz=>h2 ?_) λz=>?_
 ·have lt:=qN e
  refine kp b o ?_ ?_ (qC _ (qC _ e))
  ·intro hb
   have z:b=s.heap.objs.size:=by simpa using hb
   exact absurd lt (by rw [z];exact ji _)
  ·intro hb
   rw [hb] at lt;exact absurd lt (zo (by rw [qv];exact kF _))
 ·rw [sz,<-len,z];rfl
 ·have pos:0<xs.size:=by
   rw [<-len];cases ns with
   | nil=>exact absurd rfl z
   | cons a r=>simp
  have pv:=h1 (by rw [sz];exact pos);obtain ⟨t,rfl⟩:=intItems_at pv;refine ⟨t,?_⟩;rw [sz];have best:=argBest_gt (numAt xs) (xs.size - 1);congr 1;refine a8z ?_ λa ha=>?_
  ·rw [hns,QZ]
   exact getD_mem (by rw [qF,qS];have:=best.1;omega)
  ·rw [hns] at ha
   obtain ⟨j,hj,rfl⟩:=mem_getD ha;rw [qF,qS] at hj;rw [<-QZ];exact best.2 j (by omega)
end
def a8o (hc:X.calm=true) (hm:X.mg "max" = none) (ha:PD X a ρ (.list (ns.map .int))) (hb:PD X b ρ db) (he:j4 [a] X.env=(false,eval a X.env)::j4 [] X.env:=by rfl)
  (he':v8 pos (j4 [a] X.env)=(false,eval a X.env)::v8 pos (j4 [] X.env):=by rfl) (hpl:(v8 pos (j4 [a] X.env)).any (·.1)=false:=by rfl)
  (hk1:(yz pos (w8 [⟨some "default", b,kp⟩] X.env)).filterMap (·.1)=[jB "default"]:=by rfl) (hg:Gl X "max":=by rfl):
  PD X (.Call (.Name "max" p) [a] [⟨some "default", b,kp⟩] pos) ρ (if ns=[] then db else .int (a5J ns)):=by
 refine ⟨?_⟩;intro H0 Gz G pq s σ H Q I R q;refine k9 (iV I hg hm boot_max ?_ (by decide) (by decide));refine callWith_kw (thn ((gI ha mR he).run H0 Gz G pos pq s σ H (λvs H'=>∃ G',Grow G H G' H'/\RepAll X.K G' vs [.list (ns.map .int)]) I R λvs G' H' g r=>⟨G',g,r⟩) λus s1 ⟨vs,H1,I1,r1,G1,g1,w1⟩=>?_) he' hpl;refine thn (b4v (nm:=some "default") (kpos:=kp) hb.pe b7m pos pq s1 σ H1 (λzs H'=>∃ G',Grow G1 H1 G' H'/\RepAll X.K G' zs [db]) I1 ⟨H0,Gz,G1,R.more g1,λv G' H' g r=>⟨G',g,.cons r .nil⟩⟩) λws s2 ⟨zs,H2,I2,r2,G2,g2,w2⟩=>?_;rw [hk1];cases w1 with
 | cons wa wn=>
  cases wn;cases wa with
  | list hq ra=>
   have e:=ra.ints;subst e;obtain ⟨u,rfl,ru⟩:=vals1 r1;cases ru;cases w2 with
   | cons wb wn=>
    cases wn;obtain ⟨dv,rfl,rd⟩:=vals1 r2;obtain ⟨its,rv,pl,hz⟩:=I2.list ((g2.gg.trans g2.sub).seq hq);refine b5a (I2.ok.hd hc) pl.isList (intsAre_of rv) dv λh' v tk kp' h1 h2=>?_;by_cases hn:ns=[]
    ·rw [h1 hn,if_pos hn] at *
     exact ⟨_,H2,I2.kept kp',rd,q _ G2 H2 (g1.trans g2) wb⟩
    ·obtain ⟨t,rfl⟩:=h2 hn
     rw [if_neg hn] at q;exact ⟨.int _,H2,I2.kept kp',⟨t,rfl⟩,q _ G2 H2 (g1.trans g2) (.int _)⟩
section
def b4N:OpR X (uf .Add) (b9s X.K):=by
 intro pq s σ H x y v u Q I rx ry ⟨l,b,xs,zs,e1,e2,h1,h2,hz,q⟩;subst e1 e2;cases rx;cases ry;obtain ⟨its,r1,p1,_⟩:=I.list h1;obtain ⟨its2,r2,p2,_⟩:=I.list h2;obtain ⟨⟨c1,d1,t1,sl1⟩,n1,g1,k1,_,m1⟩:=p1;obtain ⟨⟨c2,d2,t2,sl2⟩,n2,g2,k2,_,m2⟩:=p2;dsimp only at k1 m1 k2 m2;subst k1 m1 k2 m2;have hz':its.toArray.size+its2.toArray.size<=j5:=by rw [qP,qP,<-r1.length,<-r2.length];exact hz
 refine QX ⟨_,g1,rfl⟩ ⟨_,g2,rfl⟩ noFill_list_add seq_list_add F.slot_list_add F.entry_list_add (F.args_list_add_2 _ _) (list_addW l b _ _ n1 n2 d1 d2 sl1 sl2 hz') ⟨g1,g2,?_⟩;have ea:its.toArray++its2.toArray=(its++its2).toArray:=by simp
 rw [ea];exact ⟨.ref _,_,I.lnew (t':=s.toks) (r1.append r2) (by rw [qY];exact hz),rfl,q _ I.fresh⟩
def b9q (K:qB):R2:=λx y H Q=>∃ l b xs zs,x=.ref l/\y=.ref b/\SqT K H l xs/\SqT K H b zs/\xs.length+zs.length<=j5 /\
 (xs=[]->Q (.ref b) H)/\(xs≠[]->zs=[]->Q (.ref l) H)/\(xs≠[]->zs≠[]->∀ p,H p=none->Q (.ref p) (upd H p (.tup (xs++zs))))
def b4L:OpR X (uf .Add) (b9q X.K):=by
 intro pq s σ H x y v u Q I rx ry ⟨l,b,xs,zs,e1,e2,h1,h2,hz,q0,q1,q2⟩;by_cases hx:xs=[]
 ·subst e1 e2
  cases rx;cases ry;obtain ⟨its,r1,p1,_⟩:=I.tuple h1;obtain ⟨its2,r2,p2,_⟩:=I.tuple h2;obtain ⟨⟨c1,d1,t1,sl1⟩,g1,k1,n1,m1⟩:=p1;obtain ⟨⟨c2,d2,t2,sl2⟩,g2,k2,n2,m2⟩:=p2;dsimp only at k1 m1 k2 m2;subst k1 m1 k2 m2;have hi:its=[]:=by
   subst hx;cases r1;rfl
  refine QX ⟨_,g1,rfl⟩ ⟨_,g2,rfl⟩ QR seq_tuple_add F.slot_tuple_add F.entry_tuple_add (F.args_tuple_add_2 _ _) (tuple_addW0 l b _ _ n1 n2 d1 d2 sl1 sl2 (by rw [hi];rfl)) ⟨g1,g2,?_⟩;exact ⟨.ref b,H,I,rfl,q0 hx⟩
 ·exact b4M pq s σ H x y v u Q I rx ry ⟨l,b,xs,zs,e1,e2,h1,h2,hx,hz,q1 hx,q2 hx⟩
variable {o:Expr}
def b5Z:CmpD X .Eq (.int i) (.int j) (decide (i=j)):=⟨_,b1P,λx y G H Q _ rx ry q=>by cases rx;cases ry;exact ⟨rfl,by simpa using q⟩⟩
def b5T:CmpD X .NotEq (.int i) (.int j) (!decide (i=j)):=⟨_,b1O,λx y G H Q _ rx ry q=>by cases rx;cases ry;exact ⟨rfl,by simpa using q⟩⟩
def b5Y {i j:Str}:CmpD X .Eq (.str i) (.str j) (decide (i=j)):=⟨_,b1P,λx y G H Q _ rx ry q=>by cases rx;cases ry;exact ⟨rfl,by simpa using q⟩⟩
def b5S {i j:Str}:CmpD X .NotEq (.str i) (.str j) (!decide (i=j)):=⟨_,b1O,λx y G H Q _ rx ry q=>by cases rx;cases ry;exact ⟨rfl,by simpa using q⟩⟩
def b6a {i j:Bool}:CmpD X .Eq (.bool i) (.bool j) (decide (i=j)):=⟨_,b1P,λx y G H Q _ rx ry q=>by cases rx;cases ry;exact ⟨rfl,by simpa using q⟩⟩
def b5U {i j:Bool}:CmpD X .NotEq (.bool i) (.bool j) (!decide (i=j)):=⟨_,b1O,λx y G H Q _ rx ry q=>by cases rx;cases ry;exact ⟨rfl,by simpa using q⟩⟩
end
structure Callee (P:Program) (w:World) (K:qB) (mg:T0d) (base:Heap) (x:Str) (k:Nat) (ps:T0q) (Fn:List j0->j0->Prop):Prop where
 ex:∃ f fd,mg x=some (.ref f)/\jp K (.ref f)=true/\Binds K fd ps []/\FnOk P w K mg base CX0 k f fd ps (spD K Fn)
structure Def (K:qB) (mg:T0d) (x:Str) (st:Stmt):Prop where
 ex:∃ f fd,Fun K x x st f fd/\mg x=some (.ref f)
def def_mk {K:qB} {h:Heap} {x:Str} {f:Addr} {kV:Value} (X:K.In h) (G:h.Ns j6 mg)
  (a:jD K j6 x=some (some (.ref f))) (l:K.lookup f=some ⟨oc,od,.func (je x x (eJ st) (bN st) (aD st) .none kV doc pm an cdv ct),sl⟩) (c:zN K cdv x=true) (k:jp K (.ref f)=true):
  Def K mg x st:=⟨f,_,a4O l c k,PySem.W.mg_of X G a⟩
section
variable {K:qB} {x:Str} {Fn:List j0->j0->Prop}
end
def a2c (a b:T0l):qw (.list a) (.list b)=jI a b:=by rw [qw]
theorem a0x:∀ a b:List Str,jI (a.map .str) (b.map .str)=decide (a=b)
 | [],[]=>by simp [jI]
 | [],_::_=>by simp [jI]
 | _::_,[]=>by simp [jI]
 | x::a,y::b=>by
  have ih:=a0x a b;simp only [qK,jI,ih,qw];by_cases h:x=y
  ·subst h;by_cases h2:a=b<;>simp [h2]
  ·simp [h]
theorem a0y:∀ a b:List Int,jI (a.map .int) (b.map .int)=decide (a=b)
 | [],[]=>by simp [jI]
 | [],_::_=>by simp [jI]
 | _::_,[]=>by simp [jI]
 | x::a,y::b=>by
  have ih:=a0y a b;simp only [qK,jI,ih,qw];by_cases h:x=y
  ·subst h;by_cases h2:a=b<;>simp [h2]
  ·simp [h]
def xD (h:∀ d∈ds,jJ d=true):kr ds=true:=by
 induction ds with
 | nil=>rfl
 | cons d r ih=>
  rw [kr,h d qf,ih λe he=>h e (qE _ he)];rfl
def rQ (h:∀ d∈ds,jr d<=n):zO ds<=n:=by
 induction ds with
 | nil=>simp [zO]
 | cons d r ih=>
  have h1:=h d qf;have h2:=ih λe he=>h e (qE _ he);simp only [zO];omega
def a2T (h1:jJ d=true) (h2:jr d<=n) (h3:n<=64):qb d=true:=by
 unfold qb;rw [h1,Bool.true_and];exact decide_eq_true (qk h2 h3)
section
variable {o:Expr}
def cutD (xs:T0l) (lo hi:Option Int):List j0:=(xs.drop (HT.sIx xs.length 0 lo)).take (HT.sIx xs.length xs.length hi - HT.sIx xs.length 0 lo)
def a2d {K:qB} (r:RepAll K G xs ds) (lo hi:Option Int):RepAll K G (a6o xs lo hi) (cutD ds lo hi):=by
 unfold a6o cutD;rw [r.length];exact (r.drop _).take _
def a3P (ds:T0l) {k:Int} (h:0<=k):cutD ds (some k) none=ds.drop k.toNat:=by
 have e:HT.sIx ds.length 0 (some k)=min k.toNat ds.length:=by
  show (if k<0 then (k+(ds.length:Int)).toNat else min k.toNat ds.length)=_;rw [if_neg (by omega)]
 unfold cutD;rw [e,HT.sIx_none];by_cases hk:k.toNat<=ds.length
 ·rw [Nat.min_eq_left hk,jv (by rw [zq];exact qM _)]
 ·rw [Nat.min_eq_right (by omega),ku (qM _),ku (by omega),List.take_nil]
def b0k (ds:T0l) {k:Int} (h:0<=k):cutD ds none (some k)=ds.take k.toNat:=by
 have e:HT.sIx ds.length ds.length (some k)=min k.toNat ds.length:=by
  show (if k<0 then (k+(ds.length:Int)).toNat else min k.toNat ds.length)=_;rw [if_neg (by omega)]
 unfold cutD;rw [e,HT.sIx_none,List.drop_zero,Nat.sub_zero];by_cases hk:k.toNat<=ds.length
 ·rw [Nat.min_eq_left hk]
 ·rw [Nat.min_eq_right (by omega),jv (qM _),jv (by omega)]
def b2B:inV (.int i) (ns.map V.int)=decide (i∈ns):=by
 unfold inV
 induction ns with
 | nil=>rfl
 | cons a r ih=>
  rw [qK,jz,ih];have e:eqV (.int a) (.int i)=decide (a=i):=rfl;rw [e];by_cases h:a=i
  ·subst h;simp
  ·have h':¬i=a:=λz=>h z.symm
   simp [h,h']
def b2A {ns:T0q} {i:Str}:inV (.str i) (ns.map V.str)=decide (i∈ns):=by
 unfold inV
 induction ns with
 | nil=>rfl
 | cons a r ih=>
  rw [qK,jz,ih];have e:eqV (.str a) (.str i)=(a==i):=rfl;rw [e];by_cases h:a=i
  ·subst h;simp
  ·have h':¬i=a:=λz=>h z.symm
   simp [h,h']
def b0b (ns:T0s):(ns.map V.int).all pO=true:=by simp [pO]
def b0a (ns:T0q):(ns.map V.str).all pO=true:=by simp [pO]
end
example (K:qB):PySem.W.kitOne K (.type "int") (.type "int")=some true:=by rfl
example (K:qB):PySem.W.kitOne K (.type "bool") (.type "int")=some true:=by rfl
example (K:qB):PySem.W.kitOne K (.type "str") (.type "int")=some false:=by rfl
section
variable {o:Expr}
end
theorem a7X:∀ {bs:List Bool} {us:T0m},aU (bs.map V.bl) us->us=bs.map zt
 | [],_,r=>by cases r;rfl
 | b::bs,_,r=>by
  cases r with
  | cons r1 r2=>cases r1;rw [a7X r2];rfl
section
variable {o:Expr}
theorem oR {K:qB} {G:Hp}:∀ ns:List Int,RepAll K G (ns.map V.int) (ns.map .int)
 | []=>.nil
 | _::r=>.cons (.int _) (oR r)
def sortI (ns:T0s):List Int:=ns.mergeSort (λa b=>decide (a<=b))
def sortI_perm (ns:T0s):(sortI ns).Perm ns:=wH _ _
def a4l (ns:T0s):(sortI ns).Pairwise (·<=·):=by
 have h:=vX (le:=λ(a b:Int)=>decide (a<=b)) (λa b c h1 h2=>by simp only [decide_eq_true_eq] at *;omega) (λa b=>by simp only [vz,decide_eq_true_eq];omega) ns;exact h.imp λh=>by simpa using h
def sortI_eq {ms:T0s} (hp:ms.Perm ns) (hs:ms.Pairwise (·<=·)):ms=sortI ns:=PySem.W.ksm_same (hp.trans (sortI_perm ns).symm) hs (a4l ns)
end
section
variable {x:Str}
def b5V {i j:Str}:CmpD X .LtE (.str i) (.str j) (!decide (j.cps.toList<i.cps.toList)):=⟨λx y H Q=>∃ i j,x=V.str i/\y=V.str j/\Q (.bl (!decide (j.cps.toList<i.cps.toList))) H,by
 intro pq s σ H x y v u Q I rx ry ⟨i,j,e1,e2,q⟩;subst e1 e2;obtain ⟨t,rfl⟩:=rx;obtain ⟨t',rfl⟩:=ry
 exact PySem.P.le_str ⟨.bl _,H,I,rfl,q⟩,λx y G H Q _ rx ry q=>by cases rx;cases ry;exact ⟨_,_,rfl,rfl,q⟩⟩
end
def c0q (X:Cx) (b:Addr):Prop:=(b∈X.ex\/X.s₀.heap.get? b=none)/\∀ p∈X.pn,p.1≠b
def c0s (fr:Addr->Prop) (fl:Value) (H:Hp) (a C:Addr) (h:Heap):Prop:=
 fr a/\H a=none/\∃ oe vs a0 T oT ts,h.get? a=some oe/\oe.cls=.ref C/\oe.data=.fields vs/\vs[0]?=some a0 /\
  vs[1]?=some (.ref T)/\fr T/\H T=none/\T≠a/\h.get? T=some oT/\oT.data=.fields ts/\ts[3]?=some fl
def ExcAt (fr:Addr->Prop) (H:Hp) (a C:Addr) (h:Heap):Prop:=
 (fr a/\H a=none/\∃ oe vs a0,h.get? a=some oe/\oe.cls=.ref C/\oe.data=.fields vs/\vs[0]?=some a0/\vs[1]?=some .none)\/c0s fr .none H a C h
def b6k (X:Cx) (fr:Addr->Prop) (H:Hp) (a C:Addr) (h:Heap):Prop:=ExcAt fr H a C h\/∃ L,X.env.frame=some L/\c0s fr (v7 L) H a C h
def c0r (X:Cx) (c:Str) (e:Value) (H:Hp) (s:Shared):Prop:=∃ a C,e=.ref a/\c0e X.K c=some C/\b6k X (c0q X) H a C s.heap
section
variable {σ:List (Option V)} {a:Addr} {fr:Addr->Prop}
end
inductive Re (α:Type) where
 | ok (a:α)
 | ex (c:Str)
abbrev Mm (α:Type):=Option (Re α)
abbrev ret {α:Type} (a:α):Mm α:=some (.ok a)
def bnd {α β:Type} (m:Mm α) (k:α->Mm β):Mm β:=match m with
 | some (.ok a)=>k a
 | some (.ex c)=>some (.ex c)
 | none=>none
def lft {α:Type} (o:Option α):Mm α:=match o with
 | some a=>some (.ok a)
 | none=>none
abbrev EF:=List Ent->Mm j0
abbrev TF:=List Ent->Mm Bool
abbrev AF:=List Ent->Mm (List j0)
section
variable {α β:Type}
def fE {m:Mm α} {k:α->Mm β} {r:Re β} (h:bnd m k=some r):(∃ a,m=some (.ok a)/\k a=some r)\/∃ c,m=some (.ex c)/\r=.ex c:=by
 match m,h with
 | some (.ok a),h=>exact .inl ⟨a,rfl,h⟩
 | some (.ex c),h=>exact .inr ⟨c,rfl,(qA h).symm⟩
 | none,h=>cases h
def bW {o:Option α} {r:Re α} (h:lft o=some r):∃ a,o=some a/\r=.ok a:=by
 match o,h with
 | some a,h=>exact ⟨a,rfl,(qA h).symm⟩
 | none,h=>cases h
end
def nO (X:Cx) (H0 Gz G:Hp) (ρ:List Ent) (c:Str):Prop:=
 ∀ (pq:T0b) (s':Shared) (σ:St) (H' G':Hp) (e:Value),Inv X pq σ H' s'->RepS X.K H0 Gz G' H' σ ρ->bJ G G'->c0r X c e H' s'->X.xe e s'
def nO.mono {c:Str} (h:nO X H0 Gz G ρ c) (s:bJ G G'):nO X H0 Gz G' ρ c:=
 λpq s' σ H' G2 e I R g x=>h pq s' σ H' G2 e I R (s.trans g) x
def b0E (X:Cx) (H0 Gz G:Hp) (ρ:List Ent) (H:Hp) (Q:VK):Re j0->Prop
 | .ok d=>∀ v G' H',Grow G H G' H'->Rep X.K G' v d->Q v H'
 | .ex c=>nO X H0 Gz G ρ c
def b0D (X:Cx) (H0 Gz G:Hp) (ρ:List Ent) (H:Hp) (Q:Bool->Hp->Prop):Re Bool->Prop
 | .ok b=>∀ G' H',Grow G H G' H'->Q b H'
 | .ex c=>nO X H0 Gz G ρ c
def b0F (X:Cx) (H0 Gz G:Hp) (ρ:List Ent) (H:Hp) (Q:List V->Hp->Prop):Re (List j0)->Prop
 | .ok ds=>∀ vs G' H',Grow G H G' H'->RepAll X.K G' vs ds->Q vs H'
 | .ex c=>nO X H0 Gz G ρ c
def rE (X:Cx) (f:EF):TE:=λσ H Q=>∃ ρ r H0 Gz G,f ρ=some r/\RepS X.K H0 Gz G H σ ρ/\b0E X H0 Gz G ρ H Q r
def rT (X:Cx) (f:TF):TT:=λσ H Q=>∃ ρ r H0 Gz G,f ρ=some r/\RepS X.K H0 Gz G H σ ρ/\b0D X H0 Gz G ρ H Q r
def rA (X:Cx) (f:AF):TA:=λσ H Q=>∃ ρ r H0 Gz G,f ρ=some r/\RepS X.K H0 Gz G H σ ρ/\b0F X H0 Gz G ρ H Q r
structure DE (X:Cx) (e:Expr) (f:EF):Prop where
 run:PE X e (rE X f)
structure DT (X:Cx) (e:Expr) (f:TF):Prop where
 run:PT X e (rT X f)
structure DW (X:Cx) (e:Expr) (f:TF):Prop where
 run:PW X e (rT X f)
structure DA (X:Cx) (es:T0n) (f:AF):Prop where
 run:PA X es (rA X f)
variable {r:Re j0} {fa:EF} {T:VK}
theorem b0E.more (q:b0E X H0 Gz G ρ H Q r) (g:Grow G H G1 H1):b0E X H0 Gz G1 ρ H1 Q r:=by
 cases r with
 | ok d=>exact λv G' H' g' rv=>q v G' H' (g.trans g') rv
 | ex c=>exact nO.mono q g.gg
theorem b0D.more {Q:Bool->Hp->Prop} {r:Re Bool} (q:b0D X H0 Gz G ρ H Q r) (g:Grow G H G1 H1):b0D X H0 Gz G1 ρ H1 Q r:=by
 cases r with
 | ok d=>exact λG' H' g'=>q G' H' (g.trans g')
 | ex c=>exact nO.mono q g.gg
theorem b0F.more {Q:List V->Hp->Prop} {r:Re (List j0)} (q:b0F X H0 Gz G ρ H Q r) (g:Grow G H G1 H1):b0F X H0 Gz G1 ρ H1 Q r:=by
 cases r with
 | ok d=>exact λv G' H' g' rv=>q v G' H' (g.trans g') rv
 | ex c=>exact nO.mono q g.gg
def bE {β:Type} {k:j0->Mm β} {r:Re β} (R:RepS X.K H0 Gz G H σ ρ) (e:bnd (fa ρ) k=some r) (hx:∀ c,r=.ex c->nO X H0 Gz G ρ c)
  (h:∀ x v G1 H1,Grow G H G1 H1->RepS X.K H0 Gz G1 H1 σ ρ->Rep X.K G1 v x->k x=some r->T v H1):rE X fa σ H T:=by
 rcases fE e with ⟨x,e1,e2⟩ | ⟨c,e1,e2⟩
 ·exact ⟨ρ,_,H0,Gz,G,e1,R,λv G1 H1 g1 rv=>h x v G1 H1 g1 (R.more g1) rv e2⟩
 ·exact ⟨ρ,_,H0,Gz,G,e1,R,hx c e2⟩
def bT {fa:TF} {β:Type} {k:Bool->Mm β} {r:Re β} (R:RepS X.K H0 Gz G H σ ρ) (e:bnd (fa ρ) k=some r) {T:Bool->Hp->Prop} (hx:∀ c,r=.ex c->nO X H0 Gz G ρ c)
  (h:∀ x G1 H1,Grow G H G1 H1->RepS X.K H0 Gz G1 H1 σ ρ->k x=some r->T x H1):rT X fa σ H T:=by
 rcases fE e with ⟨x,e1,e2⟩ | ⟨c,e1,e2⟩
 ·exact ⟨ρ,_,H0,Gz,G,e1,R,λG1 H1 g1=>h x G1 H1 g1 (R.more g1) e2⟩
 ·exact ⟨ρ,_,H0,Gz,G,e1,R,hx c e2⟩
def bA {fa:AF} {β:Type} {k:List j0->Mm β} {r:Re β} (R:RepS X.K H0 Gz G H σ ρ) (e:bnd (fa ρ) k=some r) {T:List V->Hp->Prop} (hx:∀ c,r=.ex c->nO X H0 Gz G ρ c)
  (h:∀ x v G1 H1,Grow G H G1 H1->RepS X.K H0 Gz G1 H1 σ ρ->RepAll X.K G1 v x->k x=some r->T v H1):rA X fa σ H T:=by
 rcases fE e with ⟨x,e1,e2⟩ | ⟨c,e1,e2⟩
 ·exact ⟨ρ,_,H0,Gz,G,e1,R,λv G1 H1 g1 rv=>h x v G1 H1 g1 (R.more g1) rv e2⟩
 ·exact ⟨ρ,_,H0,Gz,G,e1,R,hx c e2⟩
theorem b0E.x (q:b0E X H0 Gz G ρ H Q r):∀ c,r=.ex c->nO X H0 Gz G ρ c:=λc e=>by subst e;exact q
theorem b0D.x {Q:Bool->Hp->Prop} {r:Re Bool} (q:b0D X H0 Gz G ρ H Q r):∀ c,r=.ex c->nO X H0 Gz G ρ c:=λc e=>by subst e;exact q
theorem b0F.x {Q:List V->Hp->Prop} {r:Re (List j0)} (q:b0F X H0 Gz G ρ H Q r):∀ c,r=.ex c->nO X H0 Gz G ρ c:=λc e=>by subst e;exact q
variable {fb fc:EF} {f:AF} {op:Operator} {g:j0->j0->Option Bool}
def a3O {f:EF} (h:∀ ρ r,f ρ=some r->∃ d,r=.ok d/\PD X e ρ d):DE X e f:=⟨λpq s σ H Q I ⟨ρ,r,H0,Gz,G,ef,R,q⟩=>by
 obtain ⟨d,rfl,hd⟩:=h ρ r ef
 exact hd.run H0 Gz G pq s σ H Q I R q⟩
theorem DE.pd {f:EF} (h:DE X e f) (q:f ρ=some (.ok d)):PD X e ρ d:=⟨λH0 Gz G pq s σ H Q I R k=>h.run pq s σ H Q I ⟨ρ,_,H0,Gz,G,q,R,k⟩⟩
theorem DT.ptd {f:TF} (h:DT X e f) {d:Bool} (q:f ρ=some (.ok d)):PTD X e ρ d:=⟨λH0 Gz G pq s σ H Q I R k=>h.run pq s σ H Q I ⟨ρ,_,H0,Gz,G,q,R,k⟩⟩
def cst (d:j0):EF:=λ_=>some (.ok d)
def var (i:Nat):EF:=λρ=>match ρ[i]? with
 | some (.val d)=>some (.ok d)
 | _=>none
def aL {j:_}:DE X (.Constant (.int i) j pos) (cst (.int i)):=a3O λρ r e=>⟨_,(qA e).symm,b7w⟩
def nG {x:Str} {j:_}:DE X (.Constant (.str x) j pos) (cst (.str x)):=a3O λρ r e=>⟨_,(qA e).symm,b7v⟩
def fK {x:Bool} {j:_}:DE X (.Constant (.bool x) j pos) (cst (.bool x)):=a3O λρ r e=>⟨_,(qA e).symm,b4F⟩
def mW {j:_}:DE X (.Constant .none j pos) (cst .none):=a3O λρ r e=>⟨_,(qA e).symm,b4D⟩
def b6P {i:Nat} (h:var i ρ=some r):∃ d,r=.ok d/\ρ[i]?=some (.val d):=by
 unfold var at h;split at h
 ·rename_i d e;exact ⟨d,(qA h).symm,e⟩
 ·cases h
def aA (i:Nat) {x:Str} (hN:X.N[i]?=some x:=by rfl) (hv:Vis X.env.scope x:=by first | exact kC rfl | exact jY (kC rfl) | exact jY (jY rfl)) (hd:(x==("__debug__" : Str))=false:=by decide)
  (hcd:(x==("__classdict__" : Str))=false:=by decide):DE X (.Name x pos) (var i):=a3O λρ r e=>by
 obtain ⟨d,e1,e2⟩:=b6P e;exact ⟨d,e1,b7u i e2 hN hv hd hcd⟩
structure OpD (X:Cx) (op:Operator) (x y d:j0):Prop where
 ex:∃ r:R2,OpR X (uf op) r/\∀ v u G H Q,bJ G H->Rep X.K G v x->Rep X.K G u y->(∀ w G' H',Grow G H G' H'->Rep X.K G' w d->Q w H')->r v u H Q
def op2 (g:j0->j0->Option j0) (fa fb:EF):EF:=λρ=>bnd (fa ρ) λx=>bnd (fb ρ) λy=>lft (g x y)
def uQ {f:Value->Value->Sem Value}:OpR X f (λv u H Q=>∃ r,OpR X f r/\r v u H Q):=λpq s σ H x y v u Q I rx ry ⟨_,h,q⟩=>h pq s σ H x y v u Q I rx ry q
def aZ {g:j0->j0->Option j0} (hg:∀ x y d,g x y=some d->OpD X op x y d) (ha:DE X a fa) (hb:DE X b fb):DE X (.BinOp a op b pos) (op2 g fa fb):=
 ⟨λpq s σ H Q I ⟨ρ,r,H0,Gz,G,e,R,q⟩=>b9A uQ ha.run hb.run pq s σ H Q I (bE R e q.x λx v G1 H1 g1 R1 rv e1=>bE R1 e1 (q.more g1).x λy u G2 H2 g2 R2 ru e2=>by
  obtain ⟨d,ed,rfl⟩:=bW e2;obtain ⟨r,h1,h2⟩:=(hg x y d ed).ex
  exact ⟨r,h1,h2 v u G2 H2 Q g2.sub (rv.mono g2.gg) ru λw G' H' g' rw'=>q w G' H' ((g1.trans g2).trans g') rw'⟩)⟩
def aK:AF:=λ_=>some (.ok [])
def aC (f:EF) (g:AF):AF:=λρ=>bnd (f ρ) λx=>bnd (g ρ) λxs=>some (.ok (x::xs))
def aG:DA X [] aK:=⟨λpos pq s σ H Q I ⟨ρ,r,H0,Gz,G,e,R,q⟩=>oS pos pq s σ H Q I (by
 cases (qA e);exact q [] G H (.refl R.sub) .nil)⟩
def aB (ha:DE X e fa) (hr:DA X es f) (hs:j4 (e::es) X.env=(false,eval e X.env)::j4 es X.env:=by rfl):DA X (e::es) (aC fa f):=
 ⟨λpos pq s σ H Q I ⟨ρ,r,H0,Gz,G,e,R,q⟩=>mS ha.run hr.run hs pos pq s σ H Q I (bE R e q.x λx v G1 H1 g1 R1 rv e1=>bA R1 e1 (q.more g1).x λys us G2 H2 g2 R2 ru e2=>by
  cases (qA e2)
  exact q _ G2 H2 (g1.trans g2) (.cons (rv.mono g2.gg) ru))⟩
def dU (n:Nat):Bool:=decide (n<=100000)
def iZ (h:dU n=true):n<=j5:=qk (of_decide_eq_true h) (by decide)
def a7Y (h:dU n=true):n<j5:=vF (of_decide_eq_true h) (by decide)
def a3h (ds:T0l):Option j0:=if dU ds.length then some (.tuple ds) else none
def a3i (ds:T0l):Option j0:=if dU ds.length then some (.list ds) else none
def mI (f:AF):EF:=λρ=>bnd (f ρ) λxs=>lft (a3h xs)
def pR (f:AF):EF:=λρ=>bnd (f ρ) λxs=>lft (a3i xs)
def b1Z (h:a3h ds=some d):d=.tuple ds/\ds.length<=j5:=by
 unfold a3h at h;split at h
 ·rename_i z;exact ⟨(qA h).symm,iZ z⟩
 ·cases h
def b2a (h:a3i ds=some d):d=.list ds/\ds.length<=j5:=by
 unfold a3i at h;split at h
 ·rename_i z;exact ⟨(qA h).symm,iZ z⟩
 ·cases h
def fQ {x1:_} (h:DA X es f):DE X (.Tuple es x1 pos) (mI f):=⟨λpq s σ H Q I ⟨ρ,r,H0,Gz,G,e,R,q⟩=>b7p h.run pq s σ H Q I (bA R e q.x λxs vs G1 H1 g1 R1 rv e1=>by
 obtain ⟨d,ed,rfl⟩:=bW e1;obtain ⟨rfl,hz⟩:=b1Z ed
 exact ⟨by rw [rv.length];exact hz,λp hp=>q _ _ _ (g1.trans (.put g1.sub hp)) (.tuple (.of aH) (rv.mono (bF (g1.sub.free hp))))⟩)⟩
def iB (h:DA X es f):DE X (.List es pos) (pR f):=⟨λpq s σ H Q I ⟨ρ,r,H0,Gz,G,e,R,q⟩=>a4v h.run pq s σ H Q I (bA R e q.x λxs vs G1 H1 g1 R1 rv e1=>by
 obtain ⟨d,ed,rfl⟩:=bW e1;obtain ⟨rfl,hz⟩:=b2a ed
 exact ⟨by rw [rv.length];exact hz,λp hp=>q _ _ _ (g1.trans (.put g1.sub hp)) (.list (.of aH) (rv.mono (bF (g1.sub.free hp))))⟩)⟩
def a4Y (g:j0->j0->Option Bool) (fa fb:EF):EF:=λρ=>bnd (fa ρ) λx=>bnd (fb ρ) λy=>lft ((g x y).map .bool)
def iC (g:j0->j0->Option Bool) (fa fb:EF):TF:=λρ=>bnd (fa ρ) λx=>bnd (fb ρ) λy=>lft (g x y)
def a0a {op:CmpOp} (hg:∀ x y t,g x y=some t->CmpD X op x y t) (ha:DE X a fa) (hb:DE X b fb) (hm:yj op b=false:=by first | exact b1S _ | with_unfolding_all rfl):DE X (.Compare a [op] [b] pos) (a4Y g fa fb):=
 ⟨λpq s σ H Q I ⟨ρ,r,H0,Gz,G,e,R,q⟩=>b4C uQ ha.run hb.run hm pq s σ H Q I (bE R e q.x λx v G1 H1 g1 R1 rv e1=>bE R1 e1 (q.more g1).x λy u G2 H2 g2 R2 ru e2=>by
  obtain ⟨d,ed,rfl⟩:=bW e2;obtain ⟨t,et,rfl⟩:=qU.mp ed;obtain ⟨r,h1,h2⟩:=(hg x y t et).ex
  exact ⟨r,h1,h2 v u G2 H2 Q g2.sub (rv.mono g2.gg) ru (q _ _ _ (g1.trans g2) (.bool _))⟩)⟩
def dL {op:CmpOp} (hg:∀ x y t,g x y=some t->CmpD X op x y t) (ha:DE X a fa) (hb:DE X b fb) (hm:yj op b=false:=by first | exact b1S _ | with_unfolding_all rfl):DT X (.Compare a [op] [b] pos) (iC g fa fb):=
 ⟨λpq s σ H Q I ⟨ρ,r,H0,Gz,G,e,R,q⟩=>b4q uQ ha.run hb.run hm pq s σ H Q I (bE R e q.x λx v G1 H1 g1 R1 rv e1=>bE R1 e1 (q.more g1).x λy u G2 H2 g2 R2 ru e2=>by
  obtain ⟨t,et,rfl⟩:=bW e2;obtain ⟨r,h1,h2⟩:=(hg x y t et).ex
  exact ⟨r,h1,h2 v u G2 H2 _ g2.sub (rv.mono g2.gg) ru ⟨_,rfl,q _ _ (g1.trans g2)⟩⟩)⟩
def c1I (g g':j0->j0->Option Bool) (fa fb fc:EF):EF:=λρ=>bnd (fa ρ) λx=>bnd (fb ρ) λy=>bnd (lft (g x y)) λt=>if t then bnd (fc ρ) λz=>lft ((g' y z).map .bool) else some (.ok (.bool false))
def b3A (g g':j0->j0->Option Bool) (fa fb fc:EF):TF:=λρ=>bnd (fa ρ) λx=>bnd (fb ρ) λy=>bnd (lft (g x y)) λt=>if t then bnd (fc ρ) λz=>lft (g' y z) else some (.ok false)
def b8z {op op':CmpOp} {g':j0->j0->Option Bool} (hg:∀ x y t,g x y=some t->CmpD X op x y t) (hg':∀ x y t,g' x y=some t->CmpD X op' x y t) (ha:DE X a fa) (hb:DE X b fb) (hc:DE X c fc)
  (hm:lastMarks [op,op'] [b,c]=false:=by with_unfolding_all rfl):DT X (.Compare a [op,op'] [b,c] pos) (b3A g g' fa fb fc):=
 ⟨λpq s σ H Q I ⟨ρ,r,H0,Gz,G,e,R,q⟩=>b1s uQ uQ ha.run hb.run hc.run hm pq s σ H Q I (bE R e q.x λx v G1 H1 g1 R1 rv e1=>bE R1 e1 (q.more g1).x λy u G2 H2 g2 R2 ru e2=>by
  rcases fE e2 with ⟨t,et,e3⟩ | ⟨c,et,_⟩
  ·obtain ⟨t',et',z⟩:=bW et
   cases z;obtain ⟨r1,h1,h2⟩:=(hg x y _ et').ex;refine ⟨r1,h1,h2 v u G2 H2 _ g2.sub (rv.mono g2.gg) ru ⟨_,rfl,?_⟩⟩;cases t with
   | false=>rw [if_neg (by decide)] at e3;cases (qA e3);exact c1r ⟨false,rfl,q _ _ (g1.trans g2)⟩
   | true=>
    rw [if_pos rfl] at e3;refine c1q ?_;exact bE R2 e3 ((q.more g1).more g2).x λz w G3 H3 g3 R3 rw' e4=>by
     obtain ⟨t,et,rfl⟩:=bW e4;obtain ⟨r2,h3,h4⟩:=(hg' y z t et).ex;exact ⟨r2,h3,h4 u w G3 H3 _ g3.sub (ru.mono g3.gg) rw' ⟨_,rfl,q _ _ ((g1.trans g2).trans g3)⟩⟩
  ·obtain ⟨_,_,z⟩:=bW et;cases z)⟩
variable {ft fu:TF}
section
variable {rest:T0n}
def a2v:j0->Option Bool
 | .none=>some false
 | .bool b=>some b
 | .int i=>some (i != 0)
 | .str x=>if dU x.length then some ((x.length:Int) != 0) else none
 | .list ds=>some (!ds.isEmpty)
 | .tuple ds=>some (!ds.isEmpty)
 | .dict _=>none
def a2Y {K:qB} {vs:List V} (r:RepAll K G vs ds):ds.isEmpty=vs.isEmpty:=by
 have h:=r.length;cases vs<;>cases ds<;>simp at h ⊢
def b3Y {K:qB} (s:bJ G H) (r:Rep K G v d) (h:a2v d=some t):b8S K v H t:=by
 cases r with
 | none=>exact (qA h).symm
 | bool b=>exact (qA h).symm
 | int i=>exact (qA h).symm
 | str x=>
  have h:(if dU x.length=true then some ((x.length:Int) != 0) else none)=some t:=h;split at h
  ·rename_i z;exact ⟨iZ z,(qA h).symm⟩
  ·cases h
 | list hq r=>exact .inl ⟨_,s.seq hq,by rw [<-a2Y r];exact (qA h).symm⟩
 | tuple hq r=>exact .inr (.inl ⟨_,lI s hq,by rw [<-a2Y r];exact (qA h).symm⟩)
 | dict _ _ _=>cases h
 | fil _ _=>cases h
def tV (fa:EF):TF:=λρ=>bnd (fa ρ) λx=>lft (a2v x)
def pD (ha:DE X a fa) (he:∀ whole,isTrue a X.env whole=(do let v <-whole;Qg a.pos;holding [v] (truthy v)):=by intro _;rfl):DT X a (tV fa):=
 ⟨λpq s σ H Q I ⟨ρ,r,H0,Gz,G,e,R,q⟩=>a5x ha.run he pq s σ H Q I (bE R e q.x λx v G1 H1 g1 R1 rv e1=>by
  obtain ⟨t,et,rfl⟩:=bW e1
  exact ⟨t,b3Y g1.sub rv et,q _ _ g1⟩)⟩
def b4S (ft:TF):TF:=λρ=>bnd (ft ρ) λt=>some (.ok (!t))
def b8y (ha:DT X a ft):DT X (.UnaryOp .Not a pos) (b4S ft):=
 ⟨λpq s σ H Q I ⟨ρ,r,H0,Gz,G,e,R,q⟩=>b7j ha.run pq s σ H Q I (bT R e q.x λt G1 H1 g1 R1 e1=>by
  cases (qA e1);exact q _ _ g1)⟩
def tR:j0->Option Bool
 | .bool b=>some b
 | _=>none
def c1l (fa:EF):EF:=λρ=>bnd (fa ρ) λx=>lft ((tR x).map λt=>.bool (!t))
def b3J (h:tR d=some t):d=.bool t:=by
 cases d<;>first | (cases h;done) | (cases (qA h);rfl)
def a6z (f g:TF):TF:=λρ=>bnd (f ρ) λt=>if t then g ρ else some (.ok false)
def orT (f g:TF):TF:=λρ=>bnd (f ρ) λt=>if t then some (.ok true) else g ρ
def a0O (ha:DT X a ft):DW X (.BoolOp .And [a] pos) ft:=⟨b4n ha.run⟩
def b3a (ha:DT X a ft):DW X (.BoolOp .Or [a] pos) ft:=⟨b7g ha.run⟩
def a4W (ha:DT X a ft) (hb:DW X (.BoolOp .And (b::rest) pos) fu):DW X (.BoolOp .And (a::b::rest) pos) (a6z ft fu):=
 ⟨λwh pq s σ H Q I ⟨ρ,r,H0,Gz,G,e,R,q⟩=>b7h ha.run hb.run wh pq s σ H Q I (bT R e q.x λt G1 H1 g1 R1 e1=>by
  cases t with
  | true=>rw [if_pos rfl] at e1 ⊢;exact ⟨ρ,r,H0,Gz,G1,e1,R1,q.more g1⟩
  | false=>rw [if_neg (by decide)] at e1 ⊢;cases (qA e1);exact q _ _ g1)⟩
def b6G (ha:DT X a ft) (hb:DW X (.BoolOp .Or (b::rest) pos) fu):DW X (.BoolOp .Or (a::b::rest) pos) (orT ft fu):=
 ⟨λwh pq s σ H Q I ⟨ρ,r,H0,Gz,G,e,R,q⟩=>b9t ha.run hb.run wh pq s σ H Q I (bT R e q.x λt G1 H1 g1 R1 e1=>by
  cases t with
  | true=>rw [if_pos rfl] at e1 ⊢;cases (qA e1);exact q _ _ g1
  | false=>rw [if_neg (by decide)] at e1 ⊢;exact ⟨ρ,r,H0,Gz,G1,e1,R1,q.more g1⟩)⟩
theorem DW.dt (h:DW X e ft):DT X e ft:=⟨h.run _⟩
def c1L (f g:EF):EF:=λρ=>bnd (f ρ) λx=>bnd (lft (tR x)) λt=>if t then g ρ else some (.ok (.bool false))
def orE (f g:EF):EF:=λρ=>bnd (f ρ) λx=>bnd (lft (tR x)) λt=>if t then some (.ok (.bool true)) else g ρ
def ifE (f:TF) (fa fb:EF):EF:=λρ=>bnd (f ρ) λt=>if t then fa ρ else fb ρ
def c0h (hc:DT X c ft) (ha:DE X a fa) (hb:DE X b fb):DE X (.IfExp c a b pos) (ifE ft fa fb):=
 ⟨λpq s σ H Q I ⟨ρ,r,H0,Gz,G,e,R,q⟩=>b1I hc.run ha.run hb.run pq s σ H Q I (bT R e q.x λt G1 H1 g1 R1 e1=>by
  cases t with
  | true=>rw [if_pos rfl] at e1 ⊢;exact ⟨ρ,r,H0,Gz,G1,e1,R1,q.more g1⟩
  | false=>rw [if_neg (by decide)] at e1 ⊢;exact ⟨ρ,r,H0,Gz,G1,e1,R1,q.more g1⟩)⟩
def ixD (x i:j0):Option j0:=match x,i with
 | .tuple ds,.int k=>atI ds k
 | .list ds,.int k=>atI ds k
 | .str z,.int k=>if dU z.length then (atI z.cps.toList k).map λc=>.str ⟨#[c]⟩ else none
 | _,_=>none
def b5p {K:qB} {u:V} {x i:j0} (s:bJ G H) (rv:Rep K G v x) (ru:Rep K G u i) (h:ixD x i=some d) (q:∀ w,Rep K G w d->Q w H):rIx K v u H Q:=by
 cases ru with
 | int k=>
  cases rv with
  | tuple hq r=>
   obtain ⟨w,e,rw'⟩:=a9e r (show atI _ k=some d from h);exact .inr (.inl ⟨_,_,_,w,rfl,rfl,lI s hq,e,q w rw'⟩)
  | list hq r=>
   obtain ⟨w,e,rw'⟩:=a9e r (show atI _ k=some d from h);exact .inl ⟨_,_,_,w,rfl,rfl,s.seq hq,e,q w rw'⟩
  | str z=>
   have h:(if dU z.length=true then (atI z.cps.toList k).map λc=>j0.str ⟨#[c]⟩ else none)=some d:=h;split at h
   ·rename_i hz
    obtain ⟨c,ec,rfl⟩:=qU.mp h;exact .inr (.inr ⟨_,_,c,rfl,rfl,iZ hz,ec,q _ (.str _)⟩)
   ·cases h
  | none=>cases h
  | bool b=>cases h
  | int j=>cases h
  | dict _ _ _=>cases h
  | fil _ _=>cases h
 | none=>cases rv<;>cases h
 | bool b=>cases rv<;>cases h
 | str b=>cases rv<;>cases h
 | list _ _=>cases rv<;>cases h
 | tuple _ _=>cases rv<;>cases h
 | dict _ _ _=>cases rv<;>cases h
 | fil _ _=>cases rv<;>cases h
def bP (ha:DE X a fa) (hb:DE X b fb) (hs:a0R b:=by exact λ_ _=>rfl):DE X (.Subscript a b pos) (op2 ixD fa fb):=
 ⟨λpq s σ H Q I ⟨ρ,r,H0,Gz,G,e,R,q⟩=>b1G b8g ha.run hb.run hs pq s σ H Q I (bE R e q.x λx v G1 H1 g1 R1 rv e1=>bE R1 e1 (q.more g1).x λy u G2 H2 g2 R2 ru e2=>by
  obtain ⟨d,ed,rfl⟩:=bW e2
  exact b5p g2.sub (rv.mono g2.gg) ru ed λw rw'=>q w _ _ (g1.trans g2) rw')⟩
structure CallD (X:Cx) (f:Value) (ds:T0l) (d:j0):Prop where
 ex:∃ r:List V->Hp->VK->Prop,lB X f r/\∀ vs G H Q,bJ G H->RepAll X.K G vs ds->(∀ w G' H',Grow G H G' H'->Rep X.K G' w d->Q w H')->r vs H Q
def a3S {f:Value}:lB X f (λvs H Q=>∃ r,lB X f r/\r vs H Q):=λpq s σ H vs us Q I rx ⟨_,h,q⟩=>h pq s σ H vs us Q I rx q
def cJ (g:List j0->Option j0) (fa:AF):EF:=λρ=>bnd (fa ρ) λxs=>lft (g xs)
def bI {id:String} {x:Str} {g:List j0->Option j0} (hd:∀ ds d,g ds=some d->CallD X (.builtin id) ds d) (hm:X.mg x=none) (hv:yc x=some (.builtin id)) (ha:DA X (e::es) f) (hg:Gl X x:=by rfl)
  (hn:x ≠ "__name__":=by decide) (hdb:(x==("__debug__" : Str))=false:=by decide)
  (he:j4 (e::es) X.env=(false,eval e X.env)::j4 es X.env:=by rfl) (hpl:(v8 pos (j4 es X.env)).any (·.1)=false:=by rfl):DE X (.Call (.Name x p) (e::es) [] pos) (cJ g f):=
 ⟨λpq s σ H Q I ⟨ρ,r,H0,Gz,G,e,R,q⟩=>b1K a3S hg hm hv ha.run hn hdb he hpl pq s σ H Q I (bA R e q.x λxs vs G1 H1 g1 R1 rv e1=>by
  obtain ⟨d,ed,rfl⟩:=bW e1;obtain ⟨r,h1,h2⟩:=(hd xs d ed).ex
  exact ⟨r,h1,h2 vs G1 H1 Q g1.sub rv λw G' H' g' rw'=>q w G' H' (g1.trans g') rw'⟩)⟩
def rR {T:String} {x:Str} {g:List j0->Option j0} (hd:∀ ds d,g ds=some d->CallD X (.type T) ds d) (hm:X.mg x=none) (hv:yc x=some (.type T)) (ha:DA X (e::es) f) (hg:Gl X x:=by rfl)
  (hn:x ≠ "__name__":=by decide) (hdb:(x==("__debug__" : Str))=false:=by decide)
  (he:j4 (e::es) X.env=(false,eval e X.env)::j4 es X.env:=by rfl) (hpl:(v8 pos (j4 es X.env)).any (·.1)=false:=by rfl):DE X (.Call (.Name x p) (e::es) [] pos) (cJ g f):=
 ⟨λpq s σ H Q I ⟨ρ,r,H0,Gz,G,e,R,q⟩=>a3b a3S hg hm hv ha.run hn hdb he hpl pq s σ H Q I (bA R e q.x λxs vs G1 H1 g1 R1 rv e1=>by
  obtain ⟨d,ed,rfl⟩:=bW e1;obtain ⟨r,h1,h2⟩:=(hd xs d ed).ex
  exact ⟨r,h1,h2 vs G1 H1 Q g1.sub rv λw G' H' g' rw'=>q w G' H' (g1.trans g') rw'⟩)⟩
def lD:Ent->Ent
 | .lst ds=>.val (.list ds)
 | .dct kvs=>.val (.dict (kvs.map λp=>(dX p.1,p.2)))
 | e=>e
def frzAll (ρ:List Ent):List Ent:=ρ.map lD
def a1q:j0->Bool
 | .none=>true
 | .bool _=>true
 | .int _=>true
 | .str _=>true
 | _=>false
def Rep.plain {K:qB} (h:a1q d=true) (r:Rep K G v d):Rep K G' v d:=by
 cases r with
 | none=>exact .none
 | bool b=>exact .bool b
 | int i=>exact .int i
 | str x=>exact .str x
 | list _ _=>cases h
 | tuple _ _=>cases h
 | dict _ _ _=>cases h
 | fil _ _=>cases h
end
section
variable {K:qB}
def b2O (ρ:List Ent) (n:Nat):(∃ e,ρ[n]?=some e/\(ρ.take (n+1)).map lD++ρ.drop (n+1)=((ρ.take n).map lD++ρ.drop n).set n (lD e))\/(ρ[n]?=none/\(ρ.take (n+1)).map lD++ρ.drop (n+1)=(ρ.take n).map lD++ρ.drop n):=by
 by_cases hn:n<ρ.length
 ·refine .inl ⟨ρ[n],by simp [hn],?_⟩
  apply jb;intro j;rw [zI];by_cases hj:j<n
  ·rw [if_neg (by omega),jH (by simp;omega),jH (by simp;omega),qQ,qQ,kZ (by omega),kZ (by omega)]
  ·by_cases hj2:j=n
   ·subst hj2
    rw [if_pos rfl,if_pos (by simp;omega),jH (by simp;omega),qQ,kZ (by omega)];simp [hn]
   ·rw [if_neg (by omega),jQ (by simp;omega),jQ (by simp;omega),wN,wN]
    simp only [qF,ju];congr 1;omega
 ·refine .inr ⟨by simp;omega,?_⟩
  rw [jv (by omega),jv (by omega),ku (by omega),ku (by omega)]
theorem RepS.frzTo (R:RepS K H0 Gz G H σ ρ):∀ n:Nat,∃ G',bJ G G'/\RepS K H0 Gz G' H σ ((ρ.take n).map lD++ρ.drop n)
 | 0=>⟨G,.refl _,by simpa using R⟩
 | n+1=>by
  obtain ⟨G1,s1,R1⟩:=R.frzTo n;rcases b2O ρ n with ⟨e,he,eq⟩ | ⟨_,eq⟩
  ·have hn:n<ρ.length:=(qR.mp he).1
   have at':((ρ.take n).map lD++ρ.drop n)[n]?=some e:=by
    rw [jQ (by simp;omega),wN];simp only [qF,ju];rw [show n+(n - min n ρ.length)=n by omega];exact he
   rw [eq];cases e with
   | lst ds=>
    obtain ⟨G2,s2,R2⟩:=R1.freeze at';exact ⟨G2,s1.trans s2,R2⟩
   | dct kvs=>
    obtain ⟨G2,s2,R2⟩:=R1.freezeD at';exact ⟨G2,s1.trans s2,R2⟩
   | val d=>
    refine ⟨G1,s1,?_⟩;have:((ρ.take n).map lD++ρ.drop n).set n (lD (.val d))=(ρ.take n).map lD++ρ.drop n:=by
     apply jb;intro j;rw [zI];split
     ·rename_i h;subst h
      rw [at'];have:=(qR.mp at').1;rw [if_pos this];rfl
     ·rfl
    rw [this];exact R1
   | no=>
    refine ⟨G1,s1,?_⟩;have:((ρ.take n).map lD++ρ.drop n).set n (lD .no)=(ρ.take n).map lD++ρ.drop n:=by
     apply jb;intro j;rw [zI];split
     ·rename_i h;subst h
      rw [at'];have:=(qR.mp at').1;rw [if_pos this];rfl
     ·rfl
    rw [this];exact R1
   | exc c=>
    refine ⟨G1,s1,?_⟩;have:((ρ.take n).map lD++ρ.drop n).set n (lD (.exc c))=(ρ.take n).map lD++ρ.drop n:=by
     apply jb;intro j;rw [zI];split
     ·rename_i h;subst h
      rw [at'];have:=(qR.mp at').1;rw [if_pos this];rfl
     ·rfl
    rw [this];exact R1
   | seen w ks=>
    refine ⟨G1,s1,?_⟩;have:((ρ.take n).map lD++ρ.drop n).set n (lD (.seen w ks))=(ρ.take n).map lD++ρ.drop n:=by
     apply jb;intro j;rw [zI];split
     ·rename_i h;subst h
      rw [at'];have:=(qR.mp at').1;rw [if_pos this];rfl
     ·rfl
    rw [this];exact R1
   | nst dss=>
    refine ⟨G1,s1,?_⟩;have:((ρ.take n).map lD++ρ.drop n).set n (lD (.nst dss))=(ρ.take n).map lD++ρ.drop n:=by
     apply jb;intro j;rw [zI];split
     ·rename_i h;subst h
      rw [at'];have:=(qR.mp at').1;rw [if_pos this];rfl
     ·rfl
    rw [this];exact R1
  ·rw [eq];exact ⟨G1,s1,R1⟩
theorem RepS.frzAll (R:RepS K H0 Gz G H σ ρ):∃ G',bJ G G'/\RepS K H0 Gz G' H σ (frzAll ρ):=by
 obtain ⟨G',s,R'⟩:=R.frzTo ρ.length;refine ⟨G',s,?_⟩;have:(ρ.take ρ.length).map lD++ρ.drop ρ.length=L3.frzAll ρ:=by simp [L3.frzAll]
 rw [this] at R';exact R'
end
section
variable {rest:T0n}
def thT (f:TF):TF:=λρ=>match f (frzAll ρ) with
 | some (.ok b)=>some (.ok b)
 | _=>none
def c0f (h:DT X e ft):DT X e (thT ft):=⟨λpq s σ H Q I ⟨ρ,r,H0,Gz,G,ef,R,q⟩=>by
 unfold thT at ef;split at ef
 ·rename_i b eb
  cases (qA ef);obtain ⟨G',s',R'⟩:=R.frzAll;exact h.run pq s σ H Q I ⟨_,_,H0,Gz,G',eb,R',λG2 H2 g2=>q G H2 ⟨.refl _,g2.hh,s'.trans (g2.gg.trans g2.sub),λ_ z _=>z,id⟩⟩
 ·cases ef⟩
end
inductive So where
 | nx (ρ:List Ent)
 | rt (d:j0)
 | bk (ρ:List Ent)
 | ct (ρ:List Ent)
 | xc (c:Str) (ρ:List Ent)
abbrev SF:=List Ent->Option So
def bns {α:Type} (m:Mm α) (ρ:List Ent) (k:α->Option So):Option So:=match m with
 | some (.ok a)=>k a
 | some (.ex c)=>some (.xc c ρ)
 | none=>none
def rV {α:Type} {m:Mm α} {k:α->Option So} {r:So} (h:bns m ρ k=some r):(∃ a,m=some (.ok a)/\k a=some r)\/∃ c,m=some (.ex c)/\r=.xc c ρ:=by
 match m,h with
 | some (.ok a),h=>exact .inl ⟨a,rfl,h⟩
 | some (.ex c),h=>exact .inr ⟨c,rfl,(qA h).symm⟩
 | none,h=>cases h
def a2r (X:Cx) (H0 Gz G:Hp) (D:Ends):So->Prop
 | .nx ρ=>∀ G' H' σ',bJ G G'->RepS X.K H0 Gz G' H' σ' ρ->D.nx σ' H'
 | .rt d=>∀ v G' H',bJ G G'->Grow Gz H0 G' H'->Rep X.K G' v d->D.rt v H'
 | .bk ρ=>∀ G' H' σ',bJ G G'->RepS X.K H0 Gz G' H' σ' ρ->D.bk σ' H'
 | .ct ρ=>∀ G' H' σ',bJ G G'->RepS X.K H0 Gz G' H' σ' ρ->D.ct σ' H'
 | .xc c ρ=>nO X H0 Gz G ρ c
theorem a2r.mono {X:Cx} {H0 Gz G G':Hp} {D:Ends} {o:So} (h:a2r X H0 Gz G D o) (s:bJ G G'):a2r X H0 Gz G' D o:=by
 cases o with
 | nx ρ=>exact λG2 H' σ' s2 R=>h G2 H' σ' (s.trans s2) R
 | rt d=>exact λv G2 H' s2 g r=>h v G2 H' (s.trans s2) g r
 | bk ρ=>exact λG2 H' σ' s2 R=>h G2 H' σ' (s.trans s2) R
 | ct ρ=>exact λG2 H' σ' s2 R=>h G2 H' σ' (s.trans s2) R
 | xc c ρ=>exact nO.mono h s
def rS (X:Cx) (f:SF):TS:=λD σ H=>∃ ρ o H0 Gz G,f ρ=some o/\RepS X.K H0 Gz G H σ ρ/\a2r X H0 Gz G D o
structure DS (X:Cx) (st:Stmt) (f:SF):Prop where
 run:PS X st (rS X f)
structure DB (X:Cx) (sts:List Stmt) (f:SF):Prop where
 run:PSs X sts (rS X f)
section
variable {D:Ends} {o:So}
def sE {k:j0->Option So} (R:RepS X.K H0 Gz G H σ ρ) (e:bns (fa ρ) ρ k=some o) (q:a2r X H0 Gz G D o) 
  (h:∀ x v G1 H1,Grow G H G1 H1->RepS X.K H0 Gz G1 H1 σ ρ->Rep X.K G1 v x->k x=some o->a2r X H0 Gz G1 D o->T v H1):rE X fa σ H T:=by
 rcases rV e with ⟨x,e1,e2⟩ | ⟨c,e1,e2⟩
 ·exact ⟨ρ,_,H0,Gz,G,e1,R,λv G1 H1 g1 rv=>h x v G1 H1 g1 (R.more g1) rv e2 (q.mono g1.gg)⟩
 ·subst e2;exact ⟨ρ,_,H0,Gz,G,e1,R,q⟩
def sA {fa:AF} {k:List j0->Option So} (R:RepS X.K H0 Gz G H σ ρ) (e:bns (fa ρ) ρ k=some o) (q:a2r X H0 Gz G D o) {T:List V->Hp->Prop} 
  (h:∀ x v G1 H1,Grow G H G1 H1->RepS X.K H0 Gz G1 H1 σ ρ->RepAll X.K G1 v x->k x=some o->a2r X H0 Gz G1 D o->T v H1):rA X fa σ H T:=by
 rcases rV e with ⟨x,e1,e2⟩ | ⟨c,e1,e2⟩
 ·exact ⟨ρ,_,H0,Gz,G,e1,R,λv G1 H1 g1 rv=>h x v G1 H1 g1 (R.more g1) rv e2 (q.mono g1.gg)⟩
 ·subst e2;exact ⟨ρ,_,H0,Gz,G,e1,R,q⟩
def sT {fa:TF} {k:Bool->Option So} (R:RepS X.K H0 Gz G H σ ρ) (e:bns (fa ρ) ρ k=some o) (q:a2r X H0 Gz G D o) {T:Bool->Hp->Prop} 
  (h:∀ x G1 H1,Grow G H G1 H1->RepS X.K H0 Gz G1 H1 σ ρ->k x=some o->a2r X H0 Gz G1 D o->T x H1):rT X fa σ H T:=by
 rcases rV e with ⟨x,e1,e2⟩ | ⟨c,e1,e2⟩
 ·exact ⟨ρ,_,H0,Gz,G,e1,R,λG1 H1 g1=>h x G1 H1 g1 (R.more g1) e2 (q.mono g1.gg)⟩
 ·subst e2;exact ⟨ρ,_,H0,Gz,G,e1,R,q⟩
end
section
variable {rest:List Stmt} {f g:SF}
def iU:SF:=λρ=>some (.nx ρ)
def aQ (f g:SF):SF:=λρ=>match f ρ with
 | some (.nx ρ')=>g ρ'
 | r=>r
def eC:DB X [] iU:=⟨λpq s σ H D I ⟨ρ,o,H0,Gz,G,e,R,q⟩=>b4r pq s σ H D I (by cases (qA e);exact q G H σ (.refl _) R)⟩
def aI (h1:DS X st f) (h2:DB X rest g):DB X (st::rest) (aQ f g):=⟨λpq s σ H D I ⟨ρ,o,H0,Gz,G,e,R,q⟩=>by
 unfold aQ at e;split at e
 ·rename_i ρ' e1
  refine u7 (thn (h1.run pq s σ H { D with nx:=λσ' H'=>rS X g D σ' H' } I ⟨ρ,_,H0,Gz,G,e1,R,λG' H' σ' s' R'=>⟨ρ',o,H0,Gz,G',e,R',q.mono s'⟩⟩) λfl s1 z=>?_);cases fl with
  | next=>obtain ⟨σ',H',I',z⟩:=z;exact h2.run pq s1 σ' H' D I' z
  | ret v=>exact z
  | brk=>exact z
  | cont=>exact z
 ·rename_i z
  have hn:∀ ρ',o≠.nx ρ':=λρ' w=>z ρ' (by rw [e,w]);have q':a2r X H0 Gz G { D with nx:=λ_ _=>False } o:=by
   cases o with
   | nx ρ'=>exact absurd rfl (hn ρ')
   | rt d=>exact q
   | bk ρ'=>exact q
   | ct ρ'=>exact q
   | xc c ρ'=>exact q
  refine u7 (thn (h1.run pq s σ H { D with nx:=λ_ _=>False } I ⟨ρ,o,H0,Gz,G,e,R,q'⟩) λfl s1 z=>?_);cases fl with
  | next=>obtain ⟨_,_,_,z⟩:=z;exact z.elim
  | ret v=>exact z
  | brk=>exact z
  | cont=>exact z⟩
def aN (h:DS X st f):DB X [st] f:=⟨a4s h.run⟩
def a2D (i:Nat) (f:SF):SF:=λρ=>match ρ[i]? with
 | some (.lst ds)=>f (ρ.set i (.val (.list ds)))
 | some (.dct kvs)=>f (ρ.set i (.val (.dict (kvs.map λp=>(dX p.1,p.2)))))
 | _=>f ρ
def uG (i:Nat) (h:DB X rest f):DB X rest (a2D i f):=⟨λpq s σ H D I ⟨ρ,o,H0,Gz,G,e,R,q⟩=>by
 unfold a2D at e;split at e
 ·rename_i ds hi
  obtain ⟨G',s',R'⟩:=R.freeze hi;exact h.run pq s σ H D I ⟨_,o,H0,Gz,G',e,R',q.mono s'⟩
 ·rename_i kvs hi
  obtain ⟨G',s',R'⟩:=R.freezeD hi;exact h.run pq s σ H D I ⟨_,o,H0,Gz,G',e,R',q.mono s'⟩
 ·exact h.run pq s σ H D I ⟨ρ,o,H0,Gz,G,e,R,q⟩⟩
def c0l:SF:=λρ=>some (.bk ρ)
def b8B:DS X (.Break pos) c0l:=⟨λpq s σ H D I ⟨ρ,o,H0,Gz,G,e,R,q⟩=>b1w pq s σ H D I (by cases (qA e);exact q G H σ (.refl _) R)⟩
def retS (fa:EF):SF:=λρ=>bns (fa ρ) ρ λd=>some (.rt d)
def aR (h:DE X e fa):DS X (.Return (some e) pos) (retS fa):=⟨λpq s σ H D I ⟨ρ,o,H0,Gz,G,e,R,q⟩=>b1v h.run pq s σ H D I (sE R e q λx v G1 H1 g1 R1 rv e1 q1=>by
 cases (qA e1);exact q1 v G1 H1 (.refl _) R1.grow rv)⟩
def c0d (fa:EF):SF:=λρ=>bns (fa ρ) ρ λ_=>some (.nx ρ)
def ifS (ft:TF) (f g:SF):SF:=λρ=>bns (ft ρ) ρ λt=>if t then f ρ else g ρ
def fU {x y:List Stmt} (hc:DT X c ft) (ha:DB X x f) (hb:DB X y g):DS X (.If c x y pos) (ifS ft f g):=⟨λpq s σ H D I ⟨ρ,o,H0,Gz,G,e,R,q⟩=>b9y hc.run ha.run hb.run pq s σ H D I (sT R e q λt G1 H1 g1 R1 e1 q1=>by
 cases t with
 | true=>rw [if_pos rfl] at e1 ⊢;exact ⟨ρ,o,H0,Gz,G1,e1,R1,q1⟩
 | false=>rw [if_neg (by decide)] at e1 ⊢;exact ⟨ρ,o,H0,Gz,G1,e1,R1,q1⟩)⟩
def eZ (i:Nat) (fa:EF):SF:=λρ=>bns (fa ρ) ρ λd=>some (.nx (ρ.set i (.val d)))
def cG (i:Nat) {x:Str} (hN:X.N.Nodup) (h:DE X e fa) (hi:X.N[i]?=some x:=by rfl) (hx:Loc X.env.scope x:=by first | exact kC rfl | exact jY rfl)
  (hs:wy e (some (.Name x p)) pos.line X.env=pure false:=by rfl) (hf:X.fn x=true\/X.env.scope.names.lookup x=some .local:=by first | exact .inl rfl | exact .inr rfl):
  DS X (.Assign [.Name x p] e pos) (eZ i fa):=⟨λpq s σ H D I ⟨ρ,o,H0,Gz,G,e,R,q⟩=>yB hN hi hx h.run hs hf pq s σ H D I (sE R e q λx v G1 H1 g1 R1 rv e1 q1=>by
 cases (qA e1);exact q1 G1 H1 _ (.refl _) (R1.set rv))⟩
def a2y (i:Nat) (f:AF):SF:=λρ=>bns (f ρ) ρ λds=>if dU ds.length then some (.nx (ρ.set i (.lst ds))) else none
def yW (i:Nat) {x:Str} {f:AF} (hN:X.N.Nodup) (h:DA X es f) (hi:X.N[i]?=some x:=by rfl) (hx:Loc X.env.scope x:=by first | exact kC rfl | exact jY rfl)
  (hs:wy (.List es p2) (some (.Name x p)) pos.line X.env=pure false:=by rfl) (hf:X.fn x=true\/X.env.scope.names.lookup x=some .local:=by first | exact .inl rfl | exact .inr rfl):
  DS X (.Assign [.Name x p] (.List es p2) pos) (a2y i f):=⟨λpq s σ H D I ⟨ρ,o,H0,Gz,G,e,R,q⟩=>yB hN hi hx (a4v h.run) hs hf pq s σ H D I (sA R e q λds vs G1 H1 g1 R1 rv e1 q1=>by
 split at e1
 ·rename_i hz
  cases (qA e1);exact ⟨by rw [rv.length];exact iZ hz,λa ha=>q1 G1 _ _ (.refl _) (R1.fresh ha rv)⟩
 ·cases e1)⟩
def uH (i:Nat) (fa:EF):SF:=λρ=>match ρ[i]? with
 | some (.lst ds)=>bns (fa ρ) ρ λd=>if dU ds.length then some (.nx (ρ.set i (.lst (ds++[d])))) else none
 | _=>none
def yX (i:Nat) {x:Str} (h:DE X e fa) (hN:X.N[i]?=some x:=by rfl)
  (hv:Vis X.env.scope x:=by first | exact kC rfl | exact jY (kC rfl) | exact jY (jY rfl)) (hd:(x==("__debug__" : Str))=false:=by decide) (hcd:(x==("__classdict__" : Str))=false:=by decide)
  (hbase:ya (.Name x p) "append" X.env (eval (.Name x p) X.env)=eval (.Name x p) X.env:=by rfl)
  (hfew:((v8 cp (j4 (e::[]) X.env)).all (λx=>!x.1)&&(yz cp (w8 [] X.env)).all (λx=>x.1.isSome)&&decide ((e::[]).length+([]:List Keyword).length+(if ([]:List Keyword).isEmpty then 0 else 1)<30))=true:=by rfl)
  (hline:(ap.endLine==cp.line)=true:=by rfl) (hst:j4 (e::[]) X.env=(false,eval e X.env)::j4 [] X.env:=by rfl) (hplain:(v8 cp (j4 [] X.env)).any (·.1)=false:=by rfl)
  (hsw:wy (.Call (.Attribute (.Name x p) "append" ap) [e] [] cp) none pos.line X.env=pure false:=by rfl):
  DS X (.Expr (.Call (.Attribute (.Name x p) "append" ap) [e] [] cp) pos) (uH i fa):=⟨λpq s σ H D I ⟨ρ,o,H0,Gz,G,ef,R,q⟩=>
 uP (a5A ko vQ vP sP (dI hN hv hd hcd) (mS h.run oS hst) hbase hfew hline hst hplain) hsw pq s σ H D I (by
  unfold uH at ef;split at ef
  ·rename_i ds hi
   obtain ⟨a,xs,e1,h1,h2,h3,r⟩:=R.own hi;refine ⟨.ref a,e1,.inl ⟨rfl,xs,.of h1⟩,sE R ef q λd v G1 H1 g1 R1 rv e2 q1=>?_⟩;split at e2
   ·rename_i hz
    cases (qA e2);exact ⟨a,xs,v,rfl,rfl,g1.hh.lst h1,by rw [r.length];exact a7Y hz,q1 G1 _ σ (.refl _) (R1.wrote hi e1 ((r.mono g1.gg).append (.cons rv .nil)))⟩
   ·cases e2
  ·cases ef)⟩
end
variable {is:List Nat} {fi:AF}
section
variable {rest:List Stmt} {f g:SF}
def c0n (op:Operator) (x y:j0):Option j0:=match op,x,y with
 | .Add,.int i,.int j=>some (.int (i+j))
 | .Sub,.int i,.int j=>some (.int (i - j))
 | _,_,_=>none
def b0A (i:Nat) (op:Operator) (fa:EF):SF:=λρ=>match ρ[i]? with
 | some (.val x)=>bns (fa ρ) ρ λy=>(match c0n op x y with | some d=>some (.nx (ρ.set i (.val d))) | none=>none)
 | _=>none
def b3g (i:Nat) {x:Str} (hN:X.N.Nodup) (h:DE X e fa) (hi:X.N[i]?=some x:=by rfl) (hx:Loc X.env.scope x:=by first | exact kC rfl | exact jY rfl)
  (hf:X.fn x=true\/X.env.scope.names.lookup x=some .local:=by first | exact .inl rfl | exact .inr rfl) (ho:op=.Add\/op=.Sub:=by first | exact .inl rfl | exact .inr rfl):DS X (.AugAssign (.Name x p) op e pos) (b0A i op fa):=by
 rcases ho with rfl | rfl
 ·refine ⟨λpq s σ H D I ⟨ρ,o,H0,Gz,G,ef,R,q⟩=>b1x hN hi hx h.run b8k hf pq s σ H D I ?_⟩
  unfold b0A at ef;split at ef
  ·rename_i x1 hx1
   obtain ⟨v,ev,rv⟩:=R.val hx1;refine ⟨v,ev,sE R ef q λy u G1 H1 g1 R1 ru e1 q1=>?_⟩;cases rv with
   | int i'=>
    cases ru with
    | int j'=>cases (qA e1);exact ⟨_,_,rfl,rfl,q1 G1 H1 _ (.refl _) (R1.set (.int _))⟩
    | none=>cases e1
    | bool _=>cases e1
    | str _=>cases e1
    | list _ _=>cases e1
    | tuple _ _=>cases e1
    | dict _ _ _=>cases e1
    | fil _ _=>cases e1
   | none=>cases ru<;>cases e1
   | bool _=>cases ru<;>cases e1
   | str _=>cases ru<;>cases e1
   | list _ _=>cases ru<;>cases e1
   | tuple _ _=>cases ru<;>cases e1
   | dict _ _ _=>cases ru<;>cases e1
   | fil _ _=>cases ru<;>cases e1
  ·cases ef
 ·refine ⟨λpq s σ H D I ⟨ρ,o,H0,Gz,G,ef,R,q⟩=>b1x hN hi hx h.run b8j hf pq s σ H D I ?_⟩
  unfold b0A at ef;split at ef
  ·rename_i x1 hx1
   obtain ⟨v,ev,rv⟩:=R.val hx1;refine ⟨v,ev,sE R ef q λy u G1 H1 g1 R1 ru e1 q1=>?_⟩;cases rv with
   | int i'=>
    cases ru with
    | int j'=>cases (qA e1);exact ⟨_,_,rfl,rfl,q1 G1 H1 _ (.refl _) (R1.set (.int _))⟩
    | none=>cases e1
    | bool _=>cases e1
    | str _=>cases e1
    | list _ _=>cases e1
    | tuple _ _=>cases e1
    | dict _ _ _=>cases e1
    | fil _ _=>cases e1
   | none=>cases ru<;>cases e1
   | bool _=>cases ru<;>cases e1
   | str _=>cases ru<;>cases e1
   | list _ _=>cases ru<;>cases e1
   | tuple _ _=>cases ru<;>cases e1
   | dict _ _ _=>cases ru<;>cases e1
   | fil _ _=>cases ru<;>cases e1
  ·cases ef
inductive Tg where
 | nm (i:Nat)
 | tp (is:T0t)
 | nn (i:Nat) (js:T0t)
def pW:List Ent->List Nat->List j0->List Ent
 | ρ,i::is,d::ds=>pW (ρ.set i (.val d)) is ds
 | ρ,_,_=>ρ
def tgD (t:Tg) (ρ:List Ent) (d:j0):Option (List Ent):=match t,d with
 | .nm i,d=>some (ρ.set i (.val d))
 | .tp is,.tuple ds=>if is.length=ds.length then some (pW ρ is ds) else none
 | .nn i js,.tuple [d,.tuple ds]=>if js.length=ds.length then some (pW (ρ.set i (.val d)) js ds) else none
 | _,_=>none
structure DG (X:Cx) (tg:Expr) (t:Tg):Prop where
 run:∀ ρ d ρ',tgD t ρ d=some ρ'->PGD X tg ρ d ρ'
structure DGs (X:Cx) (ts:T0n) (is:T0t):Prop where
 run:∀ ρ ds,is.length=ds.length->PGsD X ts ρ ds (pW ρ is ds)
def cA (i:Nat) {x:Str} (hN:X.N.Nodup) (hi:X.N[i]?=some x:=by rfl) (hx:Loc X.env.scope x:=by first | exact kC rfl | exact jY rfl) (hf:X.fn x=true\/X.env.scope.names.lookup x=some .local:=by first | exact .inl rfl | exact .inr rfl):
  DG X (.Name x pos) (.nm i):=⟨λρ d ρ' h=>by cases (qA h);exact a5y i hN hi hx hf⟩
def gO:DGs X [] []:=⟨λρ ds h=>by
 cases ds with
 | nil=>exact b1C
 | cons _ _=>cases h⟩
def bC (i:Nat) {x:Str} (hN:X.N.Nodup) (h:DGs X es is) (hi:X.N[i]?=some x:=by rfl) (hx:Loc X.env.scope x:=by first | exact kC rfl | exact jY rfl)
  (hf:X.fn x=true\/X.env.scope.names.lookup x=some .local:=by first | exact .inl rfl | exact .inr rfl)
  (hs:(yn (.Name x pos::es) X.env).map (·.2)=assign (.Name x pos) X.env::(yn es X.env).map (·.2):=by rfl):DGs X (.Name x pos::es) (i::is):=⟨λρ ds hl=>by
 cases ds with
 | nil=>cases hl
 | cons d ds=>exact a9B (a5y i hN hi hx hf) (h.run _ ds (by simpa using hl)) hs⟩
def lZ (hc:X.calm=true) (h:DGs X es is) (hn:(yn es X.env).length=is.length:=by rfl) (hst:(yn es X.env).findIdx? (·.1)=none:=by rfl):DG X (.Tuple es k pos) (.tp is):=⟨λρ d ρ' hq=>by
 cases d with
 | tuple ds=>
  have hq:(if is.length=ds.length then some (pW ρ is ds) else none)=some ρ':=hq;split at hq
  ·rename_i hl
   cases (qA hq);exact b4y hc (h.run ρ ds hl) (hn.trans hl) hst
  ·cases hq
 | none=>cases hq
 | bool _=>cases hq
 | int _=>cases hq
 | str _=>cases hq
 | list _=>cases hq
 | dict _=>cases hq⟩
def b6T {i:Nat} {js:T0t} (h:tgD (.nn i js) ρ d=some ρ'):∃ a ds,d=.tuple [a,.tuple ds]/\js.length=ds.length/\ρ'=pW (ρ.set i (.val a)) js ds:=by
 unfold tgD at h;split at h
 ·rename_i e;cases e
 ·rename_i e;cases e
 ·rename_i i' js' a ds e
  cases e;split at h
  ·rename_i hl;exact ⟨a,ds,rfl,hl,(qA h).symm⟩
  ·cases h
 ·cases h
def rG (X:Cx) (t:Tg):TG:=λv σ H Q=>∃ ρ d ρ' H0 Gz G,tgD t ρ d=some ρ'/\RepS X.K H0 Gz G H σ ρ/\Rep X.K G v d/\∀ σ',RepS X.K H0 Gz G H σ' ρ'->Q σ' H
theorem DG.pg {t:Tg} (h:DG X tg t):PG X tg (rG X t):=λpq s σ H v u Q I r ⟨ρ,d,ρ',H0,Gz,G,e,R,rv,q⟩=>(h.run ρ d ρ' e).run pq s σ H v u Q I r ⟨H0,Gz,G,R,rv,q⟩
def c0z (t:Tg) (fa:EF):SF:=λρ=>bns (fa ρ) ρ λd=>(tgD t ρ d).map So.nx
def c1Q (X:Cx) (H0 Gz G:Hp) (ρ:List Ent) (H:Hp) (R:It->Hp->Prop):Re (List j0)->Prop
 | .ok ds=>∀ J G' H',Grow G H G' H'->Walk X.K J G' ds->R J H'
 | .ex c=>nO X H0 Gz G ρ c
def rIt (X:Cx) (f:AF):TI:=λσ H R=>∃ ρ r H0 Gz G,f ρ=some r/\RepS X.K H0 Gz G H σ ρ/\c1Q X H0 Gz G ρ H R r
structure DI (X:Cx) (tg iter:Expr) (f:AF):Prop where
 run:PI X tg iter (rIt X f)
theorem DI.pid {f:AF} (h:DI X tg iter f) (e:f ρ=some (.ok ds)):PID X tg iter ρ ds:=⟨λpq s σ H R I ⟨H0,Gz,G,S,q⟩=>h.run pq s σ H R I ⟨ρ,_,H0,Gz,G,e,S,q⟩⟩
def a3N {f:AF} (h:∀ ρ r,f ρ=some r->∃ ds,r=.ok ds/\PID X tg iter ρ ds):DI X tg iter f:=⟨λpq s σ H R I ⟨ρ,r,H0,Gz,G,e,S,q⟩=>by
 obtain ⟨ds,rfl,hp⟩:=h ρ r e
 exact hp.run pq s σ H R I ⟨H0,Gz,G,S,q⟩⟩
def tW:j0->Option (List j0)
 | .list ds=>some ds
 | .tuple ds=>some ds
 | _=>none
def gC (fa:EF):AF:=λρ=>bnd (fa ρ) λx=>lft (tW x)
def dE (h:DE X iter fa):DI X tg iter (gC fa):=⟨λpq s σ H R I ⟨ρ,r,H0,Gz,G,e,S,q⟩=>by
 rcases fE e with ⟨x,e1,e2⟩ | ⟨c,e1,e2⟩
 ·obtain ⟨ds,e3,rfl⟩:=bW e2
  cases x with
  | list es=>cases (qA e3);exact (b1A (h.pd e1)).run pq s σ H R I ⟨H0,Gz,G,S,q⟩
  | tuple es=>cases (qA e3);exact (b4w (h.pd e1)).run pq s σ H R I ⟨H0,Gz,G,S,q⟩
  | none=>cases e3
  | bool _=>cases e3
  | int _=>cases e3
  | str _=>cases e3
  | dict _=>cases e3
 ·subst e2
  exact a8k h.run pq s σ H R I ⟨ρ,_,H0,Gz,G,e1,S,q⟩⟩
def intD:j0->Option Int
 | .int i=>some i
 | _=>none
def sX (h:intD d=some i):d=.int i:=by
 cases d<;>first | (cases h;done) | (cases (qA h);rfl)
def a8J (n:Int):Bool:=decide (-(2 ^ 62)<=n)&&decide (n<2 ^ 62)
def a6d {n:Int} (h:a8J n=true):-(2 ^ 62)<=n/\n<2 ^ 62:=by
 unfold a8J at h;rw [qL] at h;exact ⟨of_decide_eq_true h.1,of_decide_eq_true h.2⟩
def a1n (fa:EF):AF:=λρ=>match fa ρ with
 | some (.ok (.int n))=>if a8J n then some (.ok (pY 0 n.toNat)) else none
 | _=>none
def uX (hm:X.mg "range" = none) (h:DE X a fa) (hs:j4 [a] X.env=[(false,eval a X.env)]:=by rfl) (hs':j4 [a] X.env=(false,eval a X.env)::j4 [] X.env:=by rfl) (hg:Gl X "range":=by rfl):
  DI X tg (.Call (.Name "range" p) [a] [] pos) (a1n fa):=a3N λρ r e=>by
 unfold a1n at e;split at e
 ·rename_i n en
  split at e
  ·rename_i hr
   exact ⟨_,(qA e).symm,a7i hm (h.pd en) (a6d hr).1 (a6d hr).2 hs hs' hg⟩
  ·cases e
 ·cases e
def bG (t:Tg) (fb:SF):List j0->List Ent->Option So
 | [],ρ=>some (.nx ρ)
 | d::ds,ρ=>match tgD t ρ d with
  | none=>none
  | some ρ1=>(match fb ρ1 with
   | some (.nx ρ2)=>bG t fb ds ρ2
   | some (.ct ρ2)=>bG t fb ds ρ2
   | some (.bk ρ2)=>some (.nx ρ2)
   | some (.rt d)=>some (.rt d)
   | some (.xc c ρ2)=>some (.xc c ρ2)
   | none=>none)
def nZ (t:Tg) (fi:AF) (fb:SF):SF:=λρ=>bns (fi ρ) ρ λds=>bG t fb ds ρ
def iA {t:Tg} (hp:PassesOwn (model X.prog X.w) X.A X.env X.xe) (hc:X.calm=true) (hi:DI X tg iter fi) (hg:DG X tg t) (hb:DB X body g)
  (hs:∀ x,w5 iter X.env x=pure x:=by intro _;rfl):DS X (.For tg iter body [] pos) (nZ t fi g):=⟨λpq s σ H D I ⟨ρ,o,H0,Gz,G,ef,R,q⟩=>
 b7l hp hc hi.run hg.pg hb.run hs pq s σ H D I (by
  rcases rV ef with ⟨ds,e1,e2⟩ | ⟨c,e1,e2⟩
  ·refine ⟨ρ,_,H0,Gz,G,e1,R,λJ G1 H1 g1 wk=>?_⟩
   refine ⟨λi m σ' H'=>m=ds.length - i/\i<=ds.length/\∃ ρ' G',bJ G1 G'/\RepS X.K H0 Gz G' H' σ' ρ'/\bG t g (ds.drop i) ρ'=some o,⟨ds.length,by simp,qt _,ρ,G1,.refl _,R.more g1,by simpa using e2⟩,?_⟩;rintro i m σ' H' ⟨rfl,hin,ρ',G',s',R',e'⟩;obtain ⟨wgo,wstop⟩:=wk i G' H' s' R'.sub;by_cases hlt:i<ds.length
   ·rw [List.drop_eq_getElem_cons hlt] at e'
    have hx:ds[i]?=some ds[i]:=qD hlt;refine .inr ⟨(wgo _ hx).1,λσ2 H2=>∃ ρ2 G2,bJ G1 G2/\RepS X.K H0 Gz G2 H2 σ2 ρ2/\bG t g (ds.drop (i+1)) ρ2=some o,?_,λx H2 y=>?_⟩
    ·rintro σ2 H2 ⟨ρ2,G2,s2,R2,e2⟩
     exact ⟨ds.length - (i+1),by omega,rfl,hlt,ρ2,G2,s2,R2,e2⟩
    ·obtain ⟨G2,g2,rx⟩:=(wgo _ hx).2 x H2 y
     unfold bG at e';split at e'
     ·cases e'
     ·rename_i ρ1 et
      refine ⟨ρ',ds[i],ρ1,H0,Gz,G2,et,R'.more g2,rx,λσ3 R3=>?_⟩;have sg:bJ G1 G2:=s'.trans g2.gg;split at e'
      ·rename_i ρ2 eb
       exact ⟨ρ1,_,H0,Gz,G2,eb,R3,λG4 H4 σ4 s4 R4=>⟨ρ2,G4,sg.trans s4,R4,e'⟩⟩
      ·rename_i ρ2 eb
       exact ⟨ρ1,_,H0,Gz,G2,eb,R3,λG4 H4 σ4 s4 R4=>⟨ρ2,G4,sg.trans s4,R4,e'⟩⟩
      ·rename_i ρ2 eb
       cases (qA e');exact ⟨ρ1,_,H0,Gz,G2,eb,R3,λG4 H4 σ4 s4 R4=>q G4 H4 σ4 (g1.gg.trans (sg.trans s4)) R4⟩
      ·rename_i d' eb
       cases (qA e');exact ⟨ρ1,_,H0,Gz,G2,eb,R3,λv G4 H4 s4 gr rv=>q v G4 H4 (g1.gg.trans (sg.trans s4)) gr rv⟩
      ·rename_i c' ρ2 eb
       cases (qA e');exact ⟨ρ1,_,H0,Gz,G2,eb,R3,nO.mono q (g1.gg.trans sg)⟩
      ·cases e'
   ·have hi':i=ds.length:=by omega
    subst hi';rw [List.drop_length] at e';cases (qA e');exact .inl ⟨wstop (qM _),q G' H' σ' (g1.gg.trans s') R'⟩
  ·subst e2
   exact ⟨ρ,_,H0,Gz,G,e1,R,q⟩)⟩
def fM (ft:TF) (fb:SF):Nat->SF
 | 0=>λ_=>none
 | n+1=>λρ=>bns (ft ρ) ρ λt=>if t then (match fb ρ with
   | some (.nx ρ2)=>fM ft fb n ρ2
   | some (.ct ρ2)=>fM ft fb n ρ2
   | some (.bk ρ2)=>some (.nx ρ2)
   | some (.rt d)=>some (.rt d)
   | some (.xc c ρ2)=>some (.xc c ρ2)
   | none=>none) else some (.nx ρ)
def a6k (n:Nat) (hp:PassesOwn (model X.prog X.w) X.A X.env X.xe) (hc:DT X c ft) (hb:DB X body g):DS X (.While c body [] pos) (fM ft g n):=⟨λpq s σ H D I ⟨ρ,o,H0,Gz,G,ef,R,q⟩=>
 b1u hp hc.run hb.run pq s σ H D I (by
  refine ⟨λm σ' H'=>∃ ρ' G',bJ G G'/\RepS X.K H0 Gz G' H' σ' ρ'/\fM ft g m ρ'=some o,⟨n,ρ,G,.refl _,R,ef⟩,?_⟩;rintro m σ' H' ⟨ρ',G',s',R',e'⟩;cases m with
  | zero=>cases e'
  | succ m=>
   unfold fM at e';refine sT R' e' (q.mono s') λtt G1 H1 g1 R1 e1 q1=>?_;cases tt with
   | false=>
    rw [if_neg (by decide)] at e1 ⊢;cases (qA e1);exact q1 G1 H1 σ' (.refl _) R1
   | true=>
    rw [if_pos rfl] at e1 ⊢;refine ⟨λσ2 H2=>∃ ρ2 G2,bJ G G2/\RepS X.K H0 Gz G2 H2 σ2 ρ2/\fM ft g m ρ2=some o,λσ2 H2 z=>⟨m,kt m,z⟩,?_⟩;have sg:bJ G G1:=s'.trans g1.gg;split at e1
    ·rename_i ρ2 eb
     exact ⟨ρ',_,H0,Gz,G1,eb,R1,λG4 H4 σ4 s4 R4=>⟨ρ2,G4,sg.trans s4,R4,e1⟩⟩
    ·rename_i ρ2 eb
     exact ⟨ρ',_,H0,Gz,G1,eb,R1,λG4 H4 σ4 s4 R4=>⟨ρ2,G4,sg.trans s4,R4,e1⟩⟩
    ·rename_i ρ2 eb
     cases (qA e1);exact ⟨ρ',_,H0,Gz,G1,eb,R1,λG4 H4 σ4 s4 R4=>q1 G4 H4 σ4 s4 R4⟩
    ·rename_i d' eb
     cases (qA e1);exact ⟨ρ',_,H0,Gz,G1,eb,R1,λv G4 H4 s4 gr rv=>q1 v G4 H4 s4 gr rv⟩
    ·rename_i c' ρ2 eb
     cases (qA e1);exact ⟨ρ',_,H0,Gz,G1,eb,R1,q1⟩
    ·cases e1)⟩
end
def a1F (t:Tg) (ρb:List Ent) (ft:TF) (fe:EF):List j0->Option (List j0)
 | []=>some []
 | d::ds=>match tgD t ρb d with
  | none=>none
  | some ρx=>(match ft ρx with
   | some (.ok true)=>(match fe ρx with
    | some (.ok v)=>(a1F t ρb ft fe ds).map (v::·)
    | _=>none)
   | some (.ok false)=>a1F t ρb ft fe ds
   | _=>none)
def eD (t:Tg) (cap:T0e) (fi:AF) (ft:TF) (fe:EF):EF:=λρ=>bnd (fi ρ) λds=>if dU ds.length then lft ((a1F t (cU cap ρ) ft fe ds).map .list) else none
def ttT:TF:=λ_=>some (.ok true)
def cX (t:Tg) (ρb:List Ent) (d:j0):List Ent:=(tgD t ρb d).getD []
def cT (t:Tg) (ρb:List Ent) (ft:TF) (d:j0):Bool:=match ft (cX t ρb d) with
 | some (.ok b)=>b
 | _=>false
def cV (t:Tg) (ρb:List Ent) (fe:EF) (d:j0):j0:=match fe (cX t ρb d) with
 | some (.ok v)=>v
 | _=>.none
theorem rH {t:Tg} {ρb:List Ent} {ft:TF} {fe:EF}:∀ {ds es:T0l},a1F t ρb ft fe ds=some es ->
  (∀ d∈ds,tgD t ρb d=some (cX t ρb d)/\ft (cX t ρb d)=some (.ok (cT t ρb ft d))/\(cT t ρb ft d=true->fe (cX t ρb d)=some (.ok (cV t ρb fe d))))/\es=(ds.filter (cT t ρb ft)).map (cV t ρb fe)
 | [],es,h=>by
  cases (qA h);exact ⟨λ_ z=>absurd z (by simp),rfl⟩
 | d::ds,es,h=>by
  unfold a1F at h;split at h
  ·cases h
  ·rename_i ρx et
   have ex:cX t ρb d=ρx:=by unfold cX;rw [et];rfl
   split at h
   ·rename_i e1
    have e1':cT t ρb ft d=true:=by unfold cT;rw [ex,e1]
    split at h
    ·rename_i v ev
     obtain ⟨es',e3,rfl⟩:=qU.mp h;obtain ⟨i1,i2⟩:=rH e3;have evv:cV t ρb fe d=v:=by unfold cV;rw [ex,ev]
     refine ⟨λd' hd=>?_,?_⟩
     ·rcases qI.mp hd with rfl | hd
      ·rw [ex,e1',evv];exact ⟨et,e1,λ_=>ev⟩
      ·exact i1 d' hd
     ·rw [qr e1',qK,evv,i2]
    ·cases h
   ·rename_i e1
    have e1':cT t ρb ft d=false:=by unfold cT;rw [ex,e1]
    obtain ⟨i1,i2⟩:=rH h;refine ⟨λd' hd=>?_,?_⟩
    ·rcases qI.mp hd with rfl | hd
     ·rw [ex,e1'];exact ⟨et,e1,λz=>by cases z⟩
     ·exact i1 d' hd
    ·rw [jF (by rw [e1'];decide),i2]
   ·cases h
def a4h (cap:T0e):Tg->Bool
 | .nm i=>(match cap[i]? with | some (some _)=>false | _=>true)
 | .tp is=>is.all λi=>match cap[i]? with | some (some _)=>false | _=>true
 | .nn i js=>(match cap[i]? with | some (some _)=>false | _=>true)&&js.all λi=>match cap[i]? with | some (some _)=>false | _=>true
theorem pT:∀ {a b:List Ent} {i:Nat} {e:Ent},Weak a b->(b[i]?=some .no\/b[i]?=none)->Weak (a.set i e) b
 | _,_,_,_,.nil,_=>.nil
 | _::_,_,0,_,.keep w,h=>by
  rcases h with h | h
  ·cases (qA h);exact .no w
  ·cases h
 | _::_,_,0,_,.no w,_=>.no w
 | _::_,_,i+1,_,.keep w,h=>.keep (pT w (by simpa using h))
 | _::_,_,i+1,_,.no w,h=>.no (pT w (by simpa using h))
def a5a {cap:T0e} {i:Nat} (h:(match cap[i]? with | some (some _)=>false | _=>true)=true):(cU cap ρ)[i]?=some .no\/(cU cap ρ)[i]?=none:=by
 unfold cU;rw [qQ];cases e:cap[i]? with
 | none=>exact .inr rfl
 | some o=>
  rw [e] at h;cases o with
  | none=>exact .inl rfl
  | some j=>cases h
theorem a0S {cap:T0e} {ρ:List Ent}:∀ {is:T0t} {ds:T0l} {a:List Ent},(is.all λi=>match cap[i]? with | some (some _)=>false | _=>true)=true->Weak a (cU cap ρ)->Weak (pW a is ds) (cU cap ρ)
 | [],ds,a,_,w=>by cases ds<;>exact w
 | i::is,[],a,_,w=>w
 | i::is,d::ds,a,h,w=>by
  rw [jG,qL] at h;exact a0S (is:=is) (ds:=ds) (a:=a.set i (.val d)) h.2 (pT w (a5a h.1))
def a4d {cap:T0e} {ρx:List Ent} {t:Tg} (hf:a4h cap t=true) (h:tgD t (cU cap ρ) d=some ρx):Weak ρx (cU cap ρ):=by
 cases t with
 | nm i=>cases (qA h);exact pT (.refl _) (a5a hf)
 | tp is=>
  cases d with
  | tuple ds=>
   have h:(if is.length=ds.length then some (pW (cU cap ρ) is ds) else none)=some ρx:=h;split at h
   ·cases (qA h);exact a0S hf (.refl _)
   ·cases h
  | none=>cases h
  | bool _=>cases h
  | int _=>cases h
  | str _=>cases h
  | list _=>cases h
  | dict _=>cases h
 | nn i js=>
  obtain ⟨a,ds,rfl,hl,rfl⟩:=b6T h;have hf:((match cap[i]? with | some (some _)=>false | _=>true)&&js.all λi=>match cap[i]? with | some (some _)=>false | _=>true)=true:=hf;rw [qL] at hf;exact a0S hf.2 (pT (.refl _) (a5a hf.1))
section
variable {cap:T0e} {t:Tg} {fe:EF}
structure DTs (X:Cx) (ifs:T0n) (f:TF):Prop where
 run:∀ ρ b,f ρ=some (.ok b)->PTsD X ifs ρ b
def fJ:DTs X [] ttT:=⟨λρ b e=>by cases (qA e);exact b1r⟩
def pC (h:DT X c ft):DTs X [c] ft:=⟨λρ b e=>b1q (h.ptd e)⟩
def dG (hc:X.calm=true) (B:Blk X scope N' cap) (hi:DI X tg iter fi) (hf:a4h cap t=true) (hg:∀ C s3z H3z fp,DG (bY X scope N' C s3z H3z fp) tg t) (ht:∀ C s3z H3z fp,DTs (bY X scope N' C s3z H3z fp) ifs ft)
  (he:∀ C s3z H3z fp,DE (bY X scope N' C s3z H3z fp) elt fe) (hs:∀ x,w5 iter X.env x=pure x:=by intro _;rfl):DE X (.ListComp elt [⟨tg,iter,ifs,0⟩] scope pos) (eD t cap fi ft fe):=⟨λpq s σ H Q I ⟨ρ,r,H0,Gz,G,e,R,q⟩=>by
 rcases fE e with ⟨ds,e1,e2⟩ | ⟨c,e1,e2⟩
 ·split at e2
  ·rename_i hz
   obtain ⟨d,ed,rfl⟩:=bW e2;obtain ⟨es,e3,rfl⟩:=qU.mp ed;obtain ⟨k1,rfl⟩:=rH e3
   exact (b4E (xs:=ds) (φ:=λd=>d) (ρb:=cU cap ρ) (ρx:=cX t (cU cap ρ)) (cnd:=cT t (cU cap ρ) ft) (f:=cV t (cU cap ρ) fe) hc B (by simpa using hi.pid e1) (.refl _) (λx hx=>a4d hf (k1 x hx).1) (iZ hz)
    (λC s3z H3z fp x hx=>(hg C s3z H3z fp).run _ _ _ (k1 x hx).1) (λC s3z H3z fp x hx=>(ht C s3z H3z fp).run _ _ (k1 x hx).2.1) (λC s3z H3z fp x hx hcx=>(he C s3z H3z fp).pd ((k1 x hx).2.2 hcx)) hs).run H0 Gz G pq s σ H Q I R q
  ·cases e2
 ·subst e2
  exact a8m (g:=λ_ _ _ _=>False) (tc:=λ_ _ _=>False) (te:=λ_ _ _=>False) hc B hi.run (λ_ _ _ _ _ _ _ _ _ _ _ _ _ z=>z.elim) (λ_ _ _ _ _ _ _ _ _ _ z=>z.elim) (λ_ _ _ _ _ _ _ _ _ _ z=>z.elim) hs pq s σ H Q I
   ⟨ρ,_,H0,Gz,G,e1,R,q⟩⟩
def a8T (i:Nat) {x:Str} (hN:X.N.Nodup) (hc:X.calm=true) (B:Blk X scope N' cap) (hi:DI X tg iter fi) (hf:a4h cap t=true) (hg:∀ C s3z H3z fp,DG (bY X scope N' C s3z H3z fp) tg t) (ht:∀ C s3z H3z fp,DTs (bY X scope N' C s3z H3z fp) ifs ft)
  (he:∀ C s3z H3z fp,DE (bY X scope N' C s3z H3z fp) elt fe)
  (hxi:X.N[i]?=some x:=by rfl) (hx:X.env.scope.names.lookup x=some .local:=by rfl)
  (hsw:wy (.ListComp elt [⟨tg,iter,ifs,0⟩] scope pos) (some (.Name x p)) spos.line X.env=pure true:=by rfl)
  (hs:∀ x,w5 iter X.env x=pure x:=by intro _;rfl):DS X (.Assign [.Name x p] (.ListComp elt [⟨tg,iter,ifs,0⟩] scope pos) spos) (eZ i (eD t cap fi ft fe)):=⟨λpq s σ H D I ⟨ρ,o,H0,Gz,G,e,R,q⟩=>by
 rcases rV e with ⟨d,e1,e2⟩ | ⟨c,e1,e2⟩
 ·cases (qA e2)
  rcases fE e1 with ⟨ds,e3,e4⟩ | ⟨c,_,e4⟩
  ·split at e4
   ·rename_i hz
    obtain ⟨d',ed,z⟩:=bW e4;cases z;obtain ⟨es,e5,rfl⟩:=qU.mp ed;obtain ⟨k1,rfl⟩:=rH e5
    exact (b1t i (xs:=ds) (φ:=λd=>d) (ρb:=cU cap ρ) (ρx:=cX t (cU cap ρ)) (cnd:=cT t (cU cap ρ) ft) (f:=cV t (cU cap ρ) fe) hN hc B (by simpa using hi.pid e3) (.refl _) (λx hx=>a4d hf (k1 x hx).1) (iZ hz)
     (λC s3z H3z fp x hx=>(hg C s3z H3z fp).run _ _ _ (k1 x hx).1) (λC s3z H3z fp x hx=>(ht C s3z H3z fp).run _ _ (k1 x hx).2.1) (λC s3z H3z fp x hx hcx=>(he C s3z H3z fp).pd ((k1 x hx).2.2 hcx)) hxi hx hsw hs).run pq s σ H D I ⟨H0,Gz,G,R,q⟩
   ·cases e4
  ·cases e4
 ·subst e2
  rcases fE e1 with ⟨ds,e3,e4⟩ | ⟨c',e3,e4⟩
  ·split at e4
   ·obtain ⟨_,_,z⟩:=bW e4;cases z
   ·cases e4
  ·cases e4
   exact a4t (g:=λ_ _ _ _=>False) (tc:=λ_ _ _=>False) (te:=λ_ _ _=>False) hN hxi hx hc B hi.run (λ_ _ _ _ _ _ _ _ _ _ _ _ _ z=>z.elim) (λ_ _ _ _ _ _ _ _ _ _ z=>z.elim) (λ_ _ _ _ _ _ _ _ _ _ z=>z.elim) hsw hs pq s σ H D I
    ⟨ρ,_,H0,Gz,G,e3,R,q⟩⟩
end
def a6V (m:Nat) (ds:T0l):List Ent:=ds.map .val++List.replicate (m - ds.length) .no
def bZ (m n:Nat) (f:SF) (ds:T0l):Mm j0:=if ds.length=n then (match f (a6V m ds) with
 | some (.rt d)=>some (.ok d)
 | some (.nx _)=>some (.ok .none)
 | _=>none) else none
abbrev bM (P:Program) (w:World) (K:qB) (mg:T0d) (base:Heap) (x:Str) (k:Nat) (ps:T0q) (F:List j0->Mm j0):Prop:=
 Callee P w K mg base x k ps λds d=>F ds=some (.ok d)
section
variable {K:qB} {x:Str} {F:List j0->Mm j0}
def aX (F:List j0->Mm j0) (fa:AF):EF:=λρ=>bnd (fa ρ) λds=>match F ds with
 | some (.ok d)=>some (.ok d)
 | _=>none
def aP {fa:AF} (C:bM X.prog X.w X.K X.mg X.base x k ps F) (hr:Room k X.A) (ha:DA X (e::es) fa) (hg:Gl X x:=by rfl) (hdb:(x==("__debug__" : Str))=false:=by decide)
  (he:j4 (e::es) X.env=(false,eval e X.env)::j4 es X.env:=by rfl) (hpl:(v8 pos (j4 es X.env)).any (·.1)=false:=by rfl):DE X (.Call (.Name x p) (e::es) [] pos) (aX F fa):=⟨λpq s σ H Q I ⟨ρ,r,H0,Gz,G,e',R,q⟩=>by
 obtain ⟨f,fd,a,b,c,Fk⟩:=C.ex;refine a8n Fk hr hg a b c .nil (a8p (X:=X)) ha.run hdb he hpl pq s σ H Q I (bA R e' q.x λds vs G1 H1 g1 R1 rv e1=>?_);split at e1
 ·rename_i d ed
  cases (qA e1);exact ⟨G1,ds,d,⟨g1.sub,R1.tab⟩,by simpa using rv,ed,λv G2 H2 g2 r2=>q v G2 H2 (g1.trans g2) r2⟩
 ·cases e1⟩
def sG (N:T0q) (ds:T0l):gB N ds=a6V N.length ds:=rfl
def b2P {f:SF} {fa:Addr} (m n:Nat) (Fu:Fun K x x st fa fd) (S:FnScope N ps (aD st)) (hm:N.length=m) (hn:ps.length=n)
  (body:∀ (cdv:Value) (A:Around) (outer:List Env) (s:Shared) (H:Hp) (E:XK),Room k (A.deeper (um x (aD st) s.heap.objs.size fa cdv))->DB (fcx P w K mg base N x (aD st) fa cdv A outer s H E) (bN st) f):
  FnOk P w K mg base CX0 (k+1) fa fd ps (spD K λds d=>bZ m n f ds=some (.ok d)):=by
 refine Fu.ok S (λvs H Q E ⟨G,ds,d,s,r,hF,_⟩=>?_) (λcdv A outer s H vs Q E hr ⟨G,ds,d,sm,r,hF,q⟩=>?_)
 ·have hF:bZ m n f ds=some (.ok d):=hF
  unfold bZ at hF;split at hF
  ·rename_i hl;rw [r.length,hl,hn]
  ·cases hF
 ·have hF:bZ m n f ds=some (.ok d):=hF
  unfold bZ at hF;split at hF
  ·rw [<-hm,<-sG] at hF
   split at hF
   ·rename_i d' e
    cases (qA hF);exact ⟨_,(body cdv A outer s H E hr).run,gB N ds,_,H,G,G,e,fR sm r,λv G' H' _ g rv=>q v G' H' g rv⟩
   ·rename_i ρ' e
    cases (qA hF);exact ⟨_,(body cdv A outer s H E hr).run,gB N ds,_,H,G,G,e,fR sm r,λG' H' σ' _ R'=>q .non G' H' R'.grow .none⟩
   ·cases hF
  ·cases hF
def aS {f:SF} (m n:Nat) (D:Def K mg x st) (S:FnScope N ps (aD st)) (hm:N.length=m) (hn:ps.length=n)
  (hb:∀ (kV doc pm:Value) (an:T0k) (cdv ct:Value) (us:T0m),us.length=ps.length->uo (je x x (eJ st) (bN st) (aD st) .none kV doc pm an cdv ct) ⟨us,[]⟩=pure (ps.zip us))
  (body:∀ (fa:Addr) (cdv:Value) (A:Around) (outer:List Env) (s:Shared) (H:Hp) (E:XK),Room k (A.deeper (um x (aD st) s.heap.objs.size fa cdv))->DB (fcx P w K mg base N x (aD st) fa cdv A outer s H E) (bN st) f):
  bM P w K mg base x (k+1) ps (bZ m n f):=by
 obtain ⟨fa,fd,Fu,hmg⟩:=D.ex;exact ⟨fa,fd,hmg,Fu.kp,Fu.binds hb,b2P m n Fu S hm hn λcdv A outer s H E hr=>body fa cdv A outer s H E hr⟩
end
def mF {α:Type} (f:j0->Option α):List j0->Option (List α)
 | []=>some []
 | d::ds=>match f d with
  | none=>none
  | some a=>(mF f ds).map (a::·)
def b0W:j0->Option Str
 | .str i=>some i
 | _=>none
def a7Z {i:Str} (h:b0W d=some i):d=.str i:=by
 cases d<;>first | (cases h;done) | (cases (qA h);rfl)
theorem iN {α:Type} {f:j0->Option α} {g:α->j0} (h:∀ d a,f d=some a->d=g a):∀ {ds:T0l} {as:List α},mF f ds=some as->ds=as.map g
 | [],as,e=>by cases (qA e);rfl
 | d::ds,as,e=>by
  unfold mF at e;split at e
  ·cases e
  ·rename_i a ea
   obtain ⟨as',e',rfl⟩:=qU.mp e;rw [qK,<-h d a ea,iN h e']
theorem iS {α:Type} {f:j0->Option α} {g:α->j0} (h:∀ a,f (g a)=some a):∀ as:List α,mF f (as.map g)=some as
 | []=>rfl
 | a::as=>by rw [qK,mF,h a];show (mF f (as.map g)).map (a::·)=_;rw [iS h as];rfl
def sW (ns:T0s):mF intD (ns.map .int)=some ns:=iS (g:=.int) (λ_=>rfl) ns
variable {y:j0}
section
variable {x:j0}
def b7H {g:Int->Int->Int} (ho:OpR X (uf op) (rI0 λi j=>.int (g i j))):OpD X op (.int i) (.int j) (.int (g i j)):=⟨_,ho,λv u G H Q s rv ru q=>by
 cases rv;cases ru;exact ⟨_,_,rfl,rfl,q _ _ _ (.refl s) (.int _)⟩⟩
def a4w {C:Int->Int->Prop} {g:Int->Int->Int} (ho:OpR X (uf op) (rI C λi j=>.int (g i j))) (hc:C i j):OpD X op (.int i) (.int j) (.int (g i j)):=⟨_,ho,λv u G H Q s rv ru q=>by
 cases rv;cases ru;exact ⟨_,_,rfl,rfl,hc,q _ _ _ (.refl s) (.int _)⟩⟩
def cR (x y:j0):Option j0:=match x,y with
 | .int i,.int j=>some (.int (i+j))
 | .str i,.str j=>if dU (i.length+j.length) then some (.str (i++j)) else none
 | .list a,.list b=>if dU (a.length+b.length) then some (.list (a++b)) else none
 | .tuple a,.tuple b=>if dU (a.length+b.length) then some (.tuple (a++b)) else none
 | _,_=>none
def bS (x y d:j0) (h:cR x y=some d):OpD X .Add x y d:=by
 unfold cR at h;split at h
 ·cases (qA h);exact b7H b7G
 ·split at h
  ·rename_i i j hz
   cases (qA h);exact ⟨_,a7k,λv u G H Q s rv ru q=>by cases rv;cases ru;exact ⟨_,_,rfl,rfl,iZ hz,q _ _ _ (.refl s) (.str _)⟩⟩
  ·cases h
 ·split at h
  ·rename_i a b hz
   cases (qA h)
   exact ⟨_,b4N,λv u G H Q s rv ru q=>by
    cases rv with
    | list h1 r1=>cases ru with
     | list h2 r2=>exact ⟨_,_,_,_,rfl,rfl,s.seq h1,s.seq h2,by rw [r1.length,r2.length];exact iZ hz,λl hl=>q _ _ _ (.put s hl) (.list (.of aH) ((r1.append r2).mono (bF (s.free hl))))⟩⟩
  ·cases h
 ·split at h
  ·rename_i a b hz
   cases (qA h)
   exact ⟨_,b4L,λv u G H Q s rv ru q=>by
    cases rv with
    | tuple h1 r1=>cases ru with
     | tuple h2 r2=>
      refine ⟨_,_,_,_,rfl,rfl,lI s h1,lI s h2,by rw [r1.length,r2.length];exact iZ hz,λz=>?_,λz z2=>?_,λ_ _ l hl=>q _ _ _ (.put s hl) (.tuple (.of aH) ((r1.append r2).mono (bF (s.free hl))))⟩
      ·subst z
       cases r1;exact q _ G H (.refl s) (.tuple h2 r2)
      ·subst z2
       cases r2
       exact q _ G H (.refl s) (by rw [jt];exact .tuple h1 r1)⟩
  ·cases h
 ·cases h
def c0Y (x y:j0):Option j0:=match x,y with
 | .int i,.int j=>some (.int (i - j))
 | _,_=>none
def nB (i:Int):Bool:=decide (-(2 ^ 64)<i)&&decide (i<2 ^ 64)
def a2S (h:nB i=true):-(2 ^ 64)<i/\i<2 ^ 64:=by
 unfold nB at h;rw [qL] at h;exact ⟨of_decide_eq_true h.1,of_decide_eq_true h.2⟩
def nW (x y:j0):Option j0:=match x,y with
 | .int i,.int j=>if nB i || nB j then some (.int (i*j)) else none
 | _,_=>none
def rD (x y d:j0) (h:nW x y=some d):OpD X .Mult x y d:=by
 unfold nW at h;split at h
 ·split at h
  ·rename_i hz
   cases (qA h);rw [vz] at hz;exact a4w b7A (hz.imp a2S a2S)
  ·cases h
 ·cases h
def a7o (x y:j0):Option j0:=match x,y with
 | .int i,.int j=>if 0<j then some (.int (i % j)) else none
 | _,_=>none
def a4B (x y d:j0) (h:a7o x y=some d):OpD X .Mod x y d:=by
 unfold a7o at h;split at h
 ·split at h
  ·rename_i hz
   cases (qA h);exact a4w b7B hz
  ·cases h
 ·cases h
def b5E (x y:j0):Option j0:=match x,y with
 | .int i,.int j=>if 0<j/\j<1073741824 then some (.int (i / j)) else none
 | _,_=>none
def b8p (x y d:j0) (h:b5E x y=some d):OpD X .FloorDiv x y d:=by
 unfold b5E at h;split at h
 ·split at h
  ·rename_i hz
   cases (qA h);exact a4w b4K hz
  ·cases h
 ·cases h
def ltD (x y:j0):Option Bool:=match x,y with
 | .int i,.int j=>some (decide (i<j))
 | _,_=>none
def leD (x y:j0):Option Bool:=match x,y with
 | .int i,.int j=>some (decide (i<=j))
 | .str i,.str j=>some (!decide (j.cps.toList<i.cps.toList))
 | _,_=>none
def gtD (x y:j0):Option Bool:=match x,y with
 | .int i,.int j=>some (decide (j<i))
 | _,_=>none
def geD (x y:j0):Option Bool:=match x,y with
 | .int i,.int j=>some (decide (j<=i))
 | _,_=>none
def a0s (x y:j0) (t:Bool) (h:ltD x y=some t):CmpD X .Lt x y t:=by
 unfold ltD at h;split at h
 ·cases (qA h);exact b8I
 ·cases h
def a8B (x y:j0) (t:Bool) (h:leD x y=some t):CmpD X .LtE x y t:=by
 unfold leD at h;split at h
 ·cases (qA h);exact b8J
 ·cases (qA h);exact b5V
 ·cases h
def c0a (x y:j0) (t:Bool) (h:gtD x y=some t):CmpD X .Gt x y t:=by
 unfold gtD at h;split at h
 ·cases (qA h);exact cmp_gt
 ·cases h
def c0b (x y:j0) (t:Bool) (h:geD x y=some t):CmpD X .GtE x y t:=by
 unfold geD at h;split at h
 ·cases (qA h);exact b8K
 ·cases h
def eqD (x y:j0):Option Bool:=match x,y with
 | .int i,.int j=>some (decide (i=j))
 | .str i,.str j=>some (decide (i=j))
 | .bool i,.bool j=>some (decide (i=j))
 | x,y=>if qb x&&qb y then some (qw x y) else none
def neD (x y:j0):Option Bool:=match x,y with
 | .int i,.int j=>some (!decide (i=j))
 | .str i,.str j=>some (!decide (i=j))
 | .bool i,.bool j=>some (!decide (i=j))
 | x,y=>if qb x&&qb y then some (!PyData.eqv x y) else none
def a6g (hu:X.A.units+64<cLine) (x y:j0) (t:Bool) (h:eqD x y=some t):CmpD X .Eq x y t:=by
 unfold eqD at h;split at h
 ·cases (qA h);exact b5Z
 ·cases (qA h);exact b5Y
 ·cases (qA h);exact b6a
 ·split at h
  ·rename_i hz
   rw [qL] at hz;cases (qA h);exact b8L hu hz.1 hz.2
  ·cases h
def b1U (hu:X.A.units+64<cLine) (x y:j0) (t:Bool) (h:neD x y=some t):CmpD X .NotEq x y t:=by
 unfold neD at h;split at h
 ·cases (qA h);exact b5T
 ·cases (qA h);exact b5S
 ·cases (qA h);exact b5U
 ·split at h
  ·rename_i hz
   rw [qL] at hz;cases (qA h);exact b8H hu hz.1 hz.2
  ·cases h
def inD (x y:j0):Option Bool:=match x,tW y with
 | .int i,some ds=>(mF intD ds).map λns=>decide (i∈ns)
 | .str i,some ds=>(mF b0W ds).map λns=>decide (i∈ns)
 | _,_=>none
def oK {K:qB} (s:bJ G H) (h:tW y=some ds) (r:Rep K G v y):∃ p vs,v=.ref p/\(SqL K H p vs\/SqT K H p vs)/\RepAll K G vs ds:=by
 cases r with
 | list hq r=>cases (qA h);exact ⟨_,_,rfl,.inl (s.seq hq),r⟩
 | tuple hq r=>cases (qA h);exact ⟨_,_,rfl,.inr (lI s hq),r⟩
 | dict _ _ _=>cases h
 | fil _ _=>cases h
 | none=>cases h
 | bool _=>cases h
 | int _=>cases h
 | str _=>cases h
def b9W (x y:j0) (t:Bool) (h:inD x y=some t):CmpD X .In x y t:=by
 unfold inD at h;split at h
 ·rename_i i ds e
  obtain ⟨ns,e2,rfl⟩:=qU.mp h;have:=iN (g:=.int) (λd a q=>sX q) e2;subst this
  exact ⟨_,a3e,λv u G H Q s rv ru q=>by
   obtain ⟨p,vs,rfl,hq,r⟩:=oK s e ru;have e3:=r.ints;subst e3;cases rv
   exact ⟨p,_,rfl,hq,rfl,b0b ns,by rw [b2B];simpa using q⟩⟩
 ·rename_i i ds e
  obtain ⟨ns,e2,rfl⟩:=qU.mp h;have:=iN (g:=.str) (λd a q=>a7Z q) e2;subst this
  exact ⟨_,a3e,λv u G H Q s rv ru q=>by
   obtain ⟨p,vs,rfl,hq,r⟩:=oK s e ru;have e3:=r.strs;subst e3;cases rv
   exact ⟨p,_,rfl,hq,rfl,b0a ns,by rw [b2A];simpa using q⟩⟩
 ·cases h
def iQ (ds:T0l):Option j0:=match ds with
 | [.list xs]=>some (.int xs.length)
 | [.tuple xs]=>some (.int xs.length)
 | [.str z]=>if dU z.length then some (.int z.length) else none
 | _=>none
def gJ (ds:T0l) (d:j0) (h:iQ ds=some d):CallD X (.builtin "len") ds d:=by
 unfold iQ at h;split at h
 ·cases (qA h)
  exact ⟨_,xE,λvs G H Q s r q=>by
   cases r with | cons r rr=>cases rr;cases r with | list hq r=>exact ⟨_,_,rfl,.inl (s.seq hq),by rw [r.length];exact q _ G H (.refl s) (.int _)⟩⟩
 ·cases (qA h)
  exact ⟨_,xE,λvs G H Q s r q=>by
   cases r with | cons r rr=>cases rr;cases r with | tuple hq r=>exact ⟨_,_,rfl,.inr (lI s hq),by rw [r.length];exact q _ G H (.refl s) (.int _)⟩⟩
 ·split at h
  ·rename_i hz
   cases (qA h)
   exact ⟨_,a5c,λvs G H Q s r q=>by
    cases r with | cons r rr=>cases rr;cases r with | str z=>exact ⟨_,rfl,iZ hz,q _ G H (.refl s) (.int _)⟩⟩
  ·cases h
 ·cases h
def a7r (ds:T0l):Option j0:=match ds with
 | [.int i,.int j]=>some (.int (max i j))
 | [.list xs]=>(match mF intD xs with | some (n::ns)=>some (.int (a5J (n::ns))) | _=>none)
 | _=>none
def b2c (ds:T0l):Option j0:=match ds with
 | [.int i,.int j]=>some (.int (min i j))
 | [.list xs]=>(match mF intD xs with | some (n::ns)=>some (.int (b7U (n::ns))) | _=>none)
 | _=>none
def a7q (hc:X.calm=true) (ds:T0l) (d:j0) (h:a7r ds=some d):CallD X (.builtin "max") ds d:=by
 unfold a7r at h;split at h
 ·rename_i i j
  cases (qA h)
  exact ⟨_,b0q hc,λvs G H Q s r q=>by
   cases r with | cons r rr=>cases rr with | cons r' rr=>cases rr;cases r;cases r';exact ⟨i,j,rfl,by rw [show (if j > i then j else i)=max i j by split<;>omega];exact q _ G H (.refl s) (.int _)⟩⟩
 ·split at h
  ·rename_i xs n ns e
   cases (qA h);have:=iN (g:=.int) (λd a q=>sX q) e;subst this
   exact ⟨_,b0p hc,λvs G H Q s r q=>by
    cases r with | cons r rr=>cases rr;cases r with | list hq r=>
     have e:=r.ints;subst e
     exact ⟨_,n::ns,rfl,s.seq hq,by simp,λM m1 m2=>by rw [a8z m1 m2];exact q _ G H (.refl s) (.int _)⟩⟩
  ·cases h
 ·cases h
def b2b (hc:X.calm=true) (ds:T0l) (d:j0) (h:b2c ds=some d):CallD X (.builtin "min") ds d:=by
 unfold b2c at h;split at h
 ·rename_i i j
  cases (qA h)
  exact ⟨_,b0o hc,λvs G H Q s r q=>by
   cases r with | cons r rr=>cases rr with | cons r' rr=>cases rr;cases r;cases r';exact ⟨i,j,rfl,by rw [show (if j<i then j else i)=min i j by split<;>omega];exact q _ G H (.refl s) (.int _)⟩⟩
 ·split at h
  ·rename_i xs n ns e
   cases (qA h);have:=iN (g:=.int) (λd a q=>sX q) e;subst this
   exact ⟨_,b0n hc,λvs G H Q s r q=>by
    cases r with | cons r rr=>cases rr;cases r with | list hq r=>
     have e:=r.ints;subst e
     exact ⟨_,n::ns,rfl,s.seq hq,by simp,λM m1 m2=>by rw [b5e m1 m2];exact q _ G H (.refl s) (.int _)⟩⟩
  ·cases h
 ·cases h
def a4f (ds:T0l):Option j0:=match ds with
 | [.list xs]=>some (.tuple xs)
 | [.tuple xs]=>some (.tuple xs)
 | _=>none
def a6S (ds:T0l) (d:j0) (h:a4f ds=some d):CallD X (.type "tuple") ds d:=by
 unfold a4f at h;split at h
 ·cases (qA h)
  exact ⟨_,tQ,λvs G H Q s r q=>by
   cases r with | cons r rr=>cases rr;cases r with | list hq r=>exact ⟨_,_,rfl,.inl ⟨s.seq hq,λl hl=>q _ _ _ (.put s hl) (.tuple (.of aH) (r.mono (bF (s.free hl))))⟩⟩⟩
 ·cases (qA h)
  exact ⟨_,tQ,λvs G H Q s r q=>by
   cases r with | cons r rr=>cases rr;cases r with | tuple hq r=>exact ⟨_,_,rfl,.inr ⟨lI s hq,q _ G H (.refl s) (.tuple hq r)⟩⟩⟩
 ·cases h
def b9M (ds:T0l):Option j0:=match ds with
 | [.list xs]=>some (.list xs)
 | [.tuple xs]=>some (.list xs)
 | _=>none
def c1A (ds:T0l):Option j0:=match ds with
 | [.bool b]=>some (.int (if b then 1 else 0))
 | [.int i]=>some (.int i)
 | _=>none
end
def b4Y:j0->Option j0
 | .int i=>some (.int (-i))
 | _=>none
def op1 (g:j0->Option j0) (fa:EF):EF:=λρ=>bnd (fa ρ) λx=>lft (g x)
def b3t (ha:DE X a fa):DE X (.UnaryOp .USub a pos) (op1 b4Y fa):=⟨λpq s σ H Q I ⟨ρ,r,H0,Gz,G,e,R,q⟩=>b6u b0P ha.run pq s σ H Q I (bE R e q.x λx v G1 H1 g1 R1 rv e1=>by
 obtain ⟨d,ed,rfl⟩:=bW e1;cases x with
 | int i=>cases (qA ed);cases rv;exact ⟨_,rfl,q _ _ _ g1 (.int _)⟩
 | none=>cases ed
 | bool _=>cases ed
 | str _=>cases ed
 | list _=>cases ed
 | tuple _=>cases ed
 | dict _=>cases ed)⟩
def c0j (g1 g2 g3:j0->j0->Option Bool) (fa fb fc fd:EF):EF:=λρ=>bnd (fa ρ) λx=>bnd (fb ρ) λy=>bnd (lft (g1 x y)) λt=>if t then bnd (fc ρ) λz=>bnd (lft (g2 y z)) λu=>if u then bnd (fd ρ) λw=>lft ((g3 z w).map .bool) else some (.ok (.bool false)) else some (.ok (.bool false))
def isB (k x:j0):Option Bool:=match k,x with
 | .none,.none=>some true
 | .none,.bool _=>some false
 | .none,.int _=>some false
 | .none,.str _=>some false
 | .none,.list _=>some false
 | .none,.tuple _=>some false
 | .none,.dict _=>some false
 | .bool a,.bool b=>some (b==a)
 | _,_=>none
def isE (neg:Bool) (k:j0) (fa:EF):EF:=λρ=>bnd (fa ρ) λx=>lft ((isB k x).map λt=>.bool (neg != t))
def isT (neg:Bool) (k:j0) (fa:EF):TF:=λρ=>bnd (fa ρ) λx=>lft ((isB k x).map λt=>neg != t)
abbrev OF:=List Ent->Mm (Option Int)
def uR:OF:=λ_=>some (.ok none)
def rB (fa:EF):OF:=λρ=>bnd (fa ρ) λx=>lft ((intD x).map some)
def slD (x:j0) (lo hi:Option Int):Option j0:=match x with
 | .list ds=>some (.list (cutD ds lo hi))
 | .tuple ds=>if HT.sIx ds.length 0 lo=0/\HT.sIx ds.length ds.length hi=ds.length then none else some (.tuple (cutD ds lo hi))
 | _=>none
def slE (fa:EF) (lo hi:OF):EF:=λρ=>bnd (fa ρ) λx=>bnd (lo ρ) λl=>bnd (hi ρ) λh=>lft (slD x l h)
def a5K (x y:j0):Option j0:=match x with
 | .list xs=>(match mF intD xs with | some []=>some y | some (n::ns)=>some (.int (a5J (n::ns))) | none=>none)
 | _=>none
def tyI:j0->Option Bool
 | .int _=>some true
 | .bool _=>some true
 | .dict _=>none
 | _=>some false
def tyB:j0->Option Bool
 | .bool _=>some true
 | .dict _=>none
 | _=>some false
def tyS:j0->Option Bool
 | .str _=>some true
 | .dict _=>none
 | _=>some false
def tyT:j0->Option Bool
 | .tuple _=>some true
 | .dict _=>none
 | _=>some false
def c1s (T:String) (x:j0):Option Bool:=if T = "int" then tyI x else if T = "bool" then tyB x else if T = "str" then tyS x else if T = "tuple" then tyT x else none
def isD (T:String) (x:j0):Option j0:=(c1s T x).map .bool
def b0H (a b:T0l):List j0:=(a.zip b).map λp=>.tuple [p.1,p.2]
def mB (ns:T0s):List Int:=ns.foldl (λa n=>if n∈a then a else a++[n]) []
def cH (a b:Str):Bool:=!decide (b.cps.toList<a.cps.toList)
def tJ (ns:T0q):List Str:=ns.mergeSort cH
section
variable {d:Expr} {fd:EF}
def b7D:OpR X (ww .Is) (λx y H Q=>∃ c d,x=.bl c/\y=.bl d/\Q (.bl (c==d)) H):=by
 intro pq s σ H x y v u Q I rx ry ⟨c,d,e1,e2,q⟩;subst e1 e2;cases rx;cases ry;exact is_bool (bH I q rfl)
def b4J:OpR X (ww .IsNot) (λx y H Q=>∃ c d,x=.bl c/\y=.bl d/\Q (.bl (c != d)) H):=by
 intro pq s σ H x y v u Q I rx ry ⟨c,d,e1,e2,q⟩;subst e1 e2;cases rx;cases ry;exact isnot_bool (bH I q rfl)
def b5X {x:j0} (h:isB .none x=some t):CmpD X .Is x .none t:=⟨_,b7C,λv u G H Q s rv ru q=>by
 cases ru;refine ⟨rfl,?_⟩
 cases rv<;>(have h:=qA h;subst h;simpa using q)⟩
def b3w {x:j0} (h:isB .none x=some t):CmpD X .IsNot x .none (true != t):=⟨_,b4H,λv u G H Q s rv ru q=>by
 cases ru;refine ⟨rfl,?_⟩
 cases rv<;>(have h:=qA h;subst h;simpa using q)⟩
def a6b {c:Bool} {x:j0} (h:isB (.bool c) x=some t):∃ d,x=.bool d/\t=(d==c):=by
 cases x<;>first | (cases h;done) | (exact ⟨_,rfl,(qA h).symm⟩)
def b5W {c:Bool} {x:j0} (h:isB (.bool c) x=some t):CmpD X .Is x (.bool c) t:=by
 obtain ⟨d,rfl,rfl⟩:=a6b h;exact ⟨_,b7D,λv u G H Q s rv ru q=>by cases rv;cases ru;exact ⟨_,_,rfl,rfl,q⟩⟩
def b3v {c:Bool} {x:j0} (h:isB (.bool c) x=some t):CmpD X .IsNot x (.bool c) (true != t):=by
 obtain ⟨d,rfl,rfl⟩:=a6b h;exact ⟨_,b4J,λv u G H Q s rv ru q=>by cases rv;cases ru;exact ⟨_,_,rfl,rfl,by cases d<;>cases c<;>exact q⟩⟩
def isG (neg:Bool) (k:j0) (x y:j0):Option Bool:=match k,y with
 | .none,.none=>(isB k x).map λt=>neg != t
 | .bool a,.bool b=>if a=b then (isB k x).map λt=>neg != t else none
 | _,_=>none
def b2x (neg:Bool) (k:j0) (hk:k=.none\/∃ c,k=.bool c):isE neg k fa=a4Y (isG neg k) fa (cst k):=by
 funext ρ
 unfold isE a4Y cst;cases fa ρ with
 | none=>rfl
 | some r=>cases r with
  | ex c=>rfl
  | ok x=>
   rcases hk with rfl | ⟨c,rfl⟩
   ·show lft _=lft _;simp only [isG,Option.map_map];rfl
   ·show lft _=lft _;simp only [isG,if_pos,Option.map_map];rfl
def b8h (neg:Bool) (k:j0) (hk:k=.none\/∃ c,k=.bool c):isT neg k fa=iC (isG neg k) fa (cst k):=by
 funext ρ
 unfold isT iC cst;cases fa ρ with
 | none=>rfl
 | some r=>cases r with
  | ex c=>rfl
  | ok x=>
   rcases hk with rfl | ⟨c,rfl⟩
   ·rfl
   ·show lft _=lft _;simp only [isG,if_pos]
def b2w {k x:j0} (h:isG false k x y=some t):CmpD X .Is x y t:=by
 unfold isG at h;split at h
 ·obtain ⟨t',e,rfl⟩:=qU.mp h
  have:=b5X (X:=X) e;cases t'<;>exact this
 ·split at h
  ·rename_i hab
   subst hab;obtain ⟨t',e,rfl⟩:=qU.mp h;have:=b5W (X:=X) e;cases t'<;>exact this
  ·cases h
 ·cases h
def b5r {k x:j0} (h:isG true k x y=some t):CmpD X .IsNot x y t:=by
 unfold isG at h;split at h
 ·obtain ⟨t',e,rfl⟩:=qU.mp h
  exact b3w (X:=X) e
 ·split at h
  ·rename_i hab
   subst hab;obtain ⟨t',e,rfl⟩:=qU.mp h;exact b3v (X:=X) e
  ·cases h
 ·cases h
def a7L {j:_} (ha:DE X a fa):DE X (.Compare a [.Is] [.Constant .none j p] pos) (isE false .none fa):=by rw [b2x _ _ (.inl rfl)];exact a0a (λ_ _ _ h=>b2w h) ha mW
def a2E {j:_} (ha:DE X a fa):DE X (.Compare a [.IsNot] [.Constant .none j p] pos) (isE true .none fa):=by rw [b2x _ _ (.inl rfl)];exact a0a (λ_ _ _ h=>b5r h) ha mW
def lY {j:_} (ha:DE X a fa):DT X (.Compare a [.Is] [.Constant .none j p] pos) (isT false .none fa):=by rw [b8h _ _ (.inl rfl)];exact dL (λ_ _ _ h=>b2w h) ha mW
end
def Inv.turnNew {T:Addr} (ch:T0o) (I:Inv X pq σ H s) (hf:∀ b∈ch,xM X pq H b)
  (k:∀ b o,b∉ch->s.heap.get? b=some o->h'.get? b=some o) (hT:s.heap.objs.size<=T) (new:cM X.prog X.w (upd H T (.tup xs)) h' T (.tup xs)):Inv X pq σ (upd H T (.tup xs)) { s with heap:=h',toks:=t' }:=by
 have nT:H T=none:=I.hok.fresh hT;have ne:∀ b o,s.heap.get? b=some o->b≠T:=λb o e=>qc (qa (qN e) hT);have up:∀ b u,H b=some u->upd H T (.tup xs) b=some u:=λb u e=>by rw [aE (aO e nT)];exact e
 refine I.step (g':=s.gens) (d':=s.drawn) (ch:=ch) (λb hb=>?_) (λb o _ _ hc e _=>k b o hc e) (λb o _ _ hc e _=>⟨o.slots,k b o hc e⟩) (λb o _ e n=>by rw [aE (ne b o e)];exact n)
  (λb o hc e=>⟨o,k b o hc e⟩) (λb u e=>up b _ e) (λb o u e=>up b _ e) (λb ps e=>⟨#[],by rw [up b _ e];simp⟩) (λm hm=>?_) (λb u e=>?_) I.bare
 ·obtain ⟨f0,f1,f2,f3,f4,f5⟩:=hf b hb
  exact ⟨f3,f1,f4,f5⟩
 ·obtain ⟨o,es,ep,ho,r⟩:=hm
  exact ⟨o,es,ep,k _ o (λz=>(hf _ z).2.1 rfl) ho,r⟩
 ·by_cases hb:b=T
  ·subst hb
   rw [aH] at e;cases e;exact new
  ·rw [aE hb] at e
   refine (I.hok b u e).stay (λc v hc q=>k c v (λz=>?_) q) (λq e'=>up _ _ e') λc v q=>up _ _ q;have f0:=(hf c z).1;rcases hc with z' | z'
   ·rw [z',e] at f0;cases f0
   ·rw [z'] at f0;cases f0
def Inv.turnAll (ch:T0o) (I:Inv X pq σ H s) (hf:∀ b∈ch,xM X pq H b)
  (k:∀ b o,b∉ch->s.heap.get? b=some o->h'.get? b=some o):Inv X pq σ H { s with heap:=h',toks:=t' }:=by
 refine I.step (g':=s.gens) (d':=s.drawn) (ch:=ch) (λb hb=>?_) (λb o _ _ hc e _=>k b o hc e) (λb o _ _ hc e _=>⟨o.slots,k b o hc e⟩) (λb o _ e n=>n)
  (λb o hc e=>⟨o,k b o hc e⟩) (λb u e=>e) (λb o u e=>e) (λb ps e=>⟨#[],by rw [e];simp⟩) (λm hm=>?_) (λb u e=>?_) I.bare
 ·obtain ⟨f0,f1,f2,f3,f4,f5⟩:=hf b hb
  exact ⟨f3,f1,f4,f5⟩
 ·obtain ⟨o,es,ep,ho,r⟩:=hm
  exact ⟨o,es,ep,k _ o (λz=>(hf _ z).2.1 rfl) ho,r⟩
 ·refine (I.hok b u e).stay (λc v hc q=>k c v (λz=>?_) q) (λq e'=>e') λc v q=>q
  have f0:=(hf c z).1;rcases hc with z' | z'
  ·rw [z',e] at f0;cases f0
  ·rw [z'] at f0;cases f0
end L2.L3
variable {f:L2.L3.SF} {B ms L:List L2.L3.Mt} {ρ ρ' ρ1 ρ2:List L2.L3.Ent} {fa fb fc fe fk fv fx:L2.L3.EF} {ft fu:L2.L3.TF} {fi aa:L2.L3.AF} {fl fh:L2.L3.OF}
namespace L2.SX
open PySem
def tH (xs:Array Nat):Prop:=xs.toList.Pairwise (·<·)
variable {xs:Array Nat}
theorem tH.lt (h:tH xs) (hij:i<j) (hj:j<xs.size):xs[i]<xs[j]:=by
 have:=jy.mp h i j (by simpa using vq hij hj) (by simpa using hj) hij;simpa using this
theorem b2J {xs:Array Nat} {j:Nat} (h:tH xs):∀ (fuel lo hi:Nat),hi - lo<=fuel->lo<=hi->hi<=xs.size->(∀ i (hi':i<xs.size),i<lo->xs[i]<j)->(∀ i (hi':i<xs.size),hi<=i->j<=xs[i]) ->
  zu xs j fuel lo hi<=xs.size/\(∀ i (hi':i<xs.size),i<zu xs j fuel lo hi->xs[i]<j)/\∀ i (hi':i<xs.size),zu xs j fuel lo hi<=i->j<=xs[i]
 | 0,lo,hi,hf,hl,hs,h1,h2=>by
  have:lo=hi:=by omega
  subst this;unfold zu;exact ⟨hs,h1,h2⟩
 | fuel+1,lo,hi,hf,hl,hs,h1,h2=>by
  unfold zu;by_cases hlt:lo<hi
  ·rw [if_pos hlt]
   dsimp only;have hm:(lo+hi) / 2<xs.size:=by omega
   have hg:xs.getD ((lo+hi) / 2) j=xs[(lo+hi) / 2]:=by simp [vW,hm]
   rw [hg];by_cases hc:xs[(lo+hi) / 2]<j
   ·rw [if_pos hc]
    refine b2J h fuel _ hi (by omega) (by omega) hs (λi hi' hlt'=>?_) h2;by_cases he:i=(lo+hi) / 2
    ·subst he;exact hc
    ·exact vq (h.lt (by omega) hm) hc
   ·rw [if_neg hc]
    refine b2J h fuel lo _ (by omega) (by omega) (by omega) h1 (λi hi' hge=>?_);by_cases he:i=(lo+hi) / 2
    ·subst he;omega
    ·have:=h.lt (i:=(lo+hi) / 2) (j:=i) (by omega) hi'
     omega
  ·rw [if_neg hlt]
   have:lo=hi:=by omega
   subst this;exact ⟨hs,h1,h2⟩
def a2k (h:tH xs) (j:Nat):qh xs j<=xs.size/\(∀ i (hi':i<xs.size),i<qh xs j->xs[i]<j)/\∀ i (hi':i<xs.size),qh xs j<=i->j<=xs[i]:=
 b2J h _ _ _ (by omega) (qt _) (qM _) (λ_ _ z=>absurd z (by omega)) (λi hi' z=>absurd z (by omega))
def a7S (h:tH xs) (hi:i<xs.size):qh xs (xs[i]+1)=i+1:=by
 obtain ⟨b1,b2,b3⟩:=a2k h (xs[i]+1);have c1:¬qh xs (xs[i]+1)<=i:=λz=>by have:=b3 i hi z;omega
 have c2:¬i+1<qh xs (xs[i]+1):=λz=>by
  have lt:i+1<xs.size:=by omega
  have:=b2 (i+1) lt z;have:=h.lt (i:=i) (j:=i+1) (by omega) lt;omega
 omega
def a7R (xs:Array Nat) (h:tH xs):qh xs 0=0:=by
 obtain ⟨b1,b2,b3⟩:=a2k h 0;cases e:qh xs 0 with
 | zero=>rfl
 | succ n=>
  have:=b2 0 (by omega) (by omega);omega
def b1l (h:tH xs) (hn:xs[qh xs j]?≠some j):tH (k8.insertAt xs (qh xs j) j):=by
 obtain ⟨b1,b2,b3⟩:=a2k h j;unfold tH;rw [k8.toList_insertAt,zr];have ne:∀ i (hi':i<xs.size),qh xs j<=i->j<xs[i]:=λi hi' hge=>by
  have a:=b3 i hi' hge;by_cases e:xs[i]=j
  ·exfalso
   by_cases e2:i=qh xs j
   ·exact hn (by rw [<-e2];simp [hi',e])
   ·have lt:qh xs j<i:=by omega
    have:=h.lt (i:=qh xs j) (j:=i) lt hi';have:=b3 (qh xs j) (by omega) (qM _);omega
  ·omega
 refine ⟨h.sublist (vT _ _),?_,λa ha b hb=>?_⟩
 ·rw [jV]
  refine ⟨λa ha=>?_,h.sublist (List.drop_sublist _ _)⟩;obtain ⟨k,hk,e⟩:=kI.mp ha;rw [List.getElem_drop] at e;subst e;have:qh xs j+k<xs.size:=by simpa using (by rw [zq,qS] at hk;omega:qh xs j+k<xs.size)
  have:=ne (qh xs j+k) this (by omega);simpa using this
 ·obtain ⟨k,hk,e⟩:=kI.mp ha
  rw [List.getElem_take] at e;subst e;rw [ju,qS] at hk;have k1:k<xs.size:=by omega
  have ak:=b2 k k1 (by omega);have ak':xs.toList[k]'(by simpa using k1)<j:=by simpa using ak
  rcases qI.mp hb with rfl | hb
  ·exact ak'
  ·obtain ⟨k',hk',e'⟩:=kI.mp hb
   rw [List.getElem_drop] at e';subst e';have k2:qh xs j+k'<xs.size:=by rw [zq,qS] at hk';omega
   have:=ne (qh xs j+k') k2 (by omega);have:j<xs.toList[qh xs j+k']'(by simpa using k2):=by simpa using this
   omega
structure TOk (t:k8) (led:Bool):Prop where
 led:t.led=led
 rise:t.plain=true->tH t.place
theorem TOk.fresh (led:Bool):TOk (k8.fresh 0 0 led) led:=⟨rfl,λ_=>by simp [k8.fresh,tH]⟩
theorem TOk.standIn {t:k8} {led:Bool} (h:TOk t led) (n:Nat):TOk (t.standIn n) led:=⟨h.led,λz=>by cases z⟩
variable {t:k8}
theorem TOk.off (h:TOk t led):TOk { t with plain:=false } led:=⟨h.led,λz=>by cases z⟩
theorem TOk.orStandIn {t:k8} {led:Bool} (h:TOk t led) (n:Nat):TOk (t.orStandIn n) led:=by
 unfold k8.orStandIn;split
 ·exact h
 ·exact h.standIn n
def a9q (h:t.slot j=.empty\/t.slot j=.dummy):t.place[qh t.place j]?≠some j:=by
 intro z;have:t.slot j=.live (qh t.place j):=by
  unfold k8.slot;dsimp only;rw [if_pos (by rw [z];simp)]
 rcases h with h | h<;>(rw [this] at h;cases h)
theorem uB {t:k8} {f:Nat->Int} {h:Int}:∀ (fuel:Nat) (p:k8.Probe) (j:Nat) (d:Option Nat),(∀ k,p.dummy=some k->t.slot k=.dummy)->k8.probe.go t f h fuel p=some (.empty j d) ->
  (t.slot j=.empty)/\∀ k,d=some k->t.slot k=.dummy
 | 0,p,j,d,_,e=>by unfold k8.probe.go at e;cases e
 | fuel+1,p,j,d,hd,e=>by
  unfold k8.probe.go at e;split at e
  ·rename_i es
   cases (qA e);exact ⟨es,hd⟩
  ·rename_i es
   refine uB fuel _ j d (λk hk=>?_) e;have adv:∀ q:k8.Probe,(t.advance q).dummy=q.dummy:=λq=>by unfold k8.advance;split<;>rfl
   rw [adv] at hk;cases hk;exact es
  ·split at e
   ·cases e
   ·refine uB fuel _ j d (λk hk=>?_) e
    have adv:∀ q:k8.Probe,(t.advance q).dummy=q.dummy:=λq=>by unfold k8.advance;split<;>rfl
    rw [adv] at hk;exact hd k hk
theorem TOk.layNew {t:k8} {led:Bool} (h:TOk t led) (es:Array (Int×Value)) (hs:Int) (x:Value):TOk (layNew t es hs x).2.1 led:=by
 unfold PySem.layNew;split
 ·rename_i slot wd e
  dsimp only;have hput:TOk (t.put slot).1 led:=by
   refine ⟨h.led,λhp=>?_⟩;have hr:tH t.place:=h.rise hp;refine b1l hr (a9q ?_);unfold k8.freeSlot k8.probe at e;split at e
   ·rename_i j d em
    obtain ⟨a,b⟩:=uB _ _ j d (λk hk=>by simp [k8.probeStart] at hk) em;cases (qA e);cases d with
    | none=>exact .inl a
    | some k=>exact .inr (b k rfl)
   ·cases e
  exact hput.orStandIn _
 ·exact h.standIn _
theorem TOk.relayAll {t:k8} {led:Bool} (h:TOk t led) (es:Array (Int×Value)) (wanted:Nat):TOk (relayAll t es wanted).2.1 led:=by
 unfold PySem.relayAll;split
 ·rename_i t' order e
  dsimp only;split
  ·unfold k8.relaid k8.laid at e
   cases ho:k8.layClean (k8.sizeAbove wanted - 1) (es.map (·.1)) with
   | none=>rw [ho] at e;cases e
   | some owner=>
    rw [ho] at e;have e:=qA e;have e1:=(congrArg Prod.fst e).symm;dsimp only at e1;subst e1;refine ⟨h.led,λ_=>?_⟩;show List.Pairwise (·<·) _;simp only [zy];rw [jK,List.pairwise_filterMap];refine List.pairwise_lt_range.imp ?_;intro a b hab x hx y hy;obtain ⟨u,_,rfl⟩:=qU.mp hx;obtain ⟨v,_,rfl⟩:=qU.mp hy;exact hab
  ·exact h.standIn _
 ·exact h.standIn _
end L2.SX
namespace L2.SX
open PySem PyProof.Rows
variable {es:Array (Int×Value)} {t:k8}
section
variable {K:Type} [DecidableEq K]
structure Good (knd:KeyKind prog w K) (h:Heap) (a:Addr) (ks:List K) (led:Bool):Prop where
 ex:∃ o es ep t,h.get? a=some o/\o.ExactSet/\o.data=.set es ep t/\ElemsOf knd es.toList/\(∀ k,k∈ks↔∃ e∈es.toList,knd.is k e.2=true)/\es.size=ks.length/\t.fits es.size=true/\TOk t led
 nd:ks.Nodup
 few:ks.length<u6
def addK (ks:List K) (k:K):List K:=if k∈ks then ks else ks++[k]
variable {knd:KeyKind prog w K} {ks:List K}
theorem Good.keeps {h:Heap} (g:Good knd h a ks led) (k:∀ o,h.get? a=some o->h'.get? a=some o):Good knd h' a ks led:=by
 obtain ⟨o,es,ep,t,ho,r⟩:=g.ex;exact ⟨⟨o,es,ep,t,k o ho,r⟩,g.nd,g.few⟩
def stored {h:Heap} {o:Obj} {es':Array (Int×Value)} {t':k8} (ho:h.get? a=some o) (hd:o.data=.set es ep t):(h.update a (Obj.putSet es' t')).get? a=some { o with data:=.set es' (ep+1) t' }:=by
 have e:=putSet_of es' t' hd;have q:=kJ (Obj.putSet es' t') ho (by rw [e];rfl);rw [e] at q;exact q
def bS {k:K} {x:Value} {Q:Bool->Shared->Prop} (hkey:knd.is k x=true) (hsc:x.scannable=true) (g:Good knd s.heap a ks led) (hroom:ks.length+1<u6)
  (h:∀ h' b,kj a s.heap h'->Good knd h' a (addK ks k) led->Q b { s with heap:=h' }):wpAny (model prog w) A (setAddHashed a x (knd.hash k)) Q E s:=by
 obtain ⟨o,es,ep,t,ho,hex,hd,hel,hmem,hn,hf,hT⟩:=g.ex;have hb:es.size<u6:=by rw [hn];exact g.few
 unfold setAddHashed setAddHashedIn;refine wz (q8 (wpAny_setState_of ho hd hf ?_));dsimp only;rw [byScan_of hsc hb hel];simp only [↓reduceIte];unfold setAddByScan;refine q8 (q8 (yd (q8 (wpAny_setScan_of hkey ho hd hf hel ?_))));cases hr:List.findIdx? (λe=>knd.is k e.2) es.toList with
 | some j=>
  dsimp only;obtain ⟨hj,hpj,_⟩:=List.findIdx?_eq_some_iff_getElem.mp hr;have hk:k∈ks:=(hmem k).mpr ⟨es.toList[j],jZ hj,hpj⟩;refine j3 (j3 ?_);have q:=h s.heap false (Heap.SameBut.refl a s.heap) (by unfold addK;rw [if_pos hk];exact g);exact q
 | none=>
  dsimp only;have hk:k∉ks:=λz=>by
   obtain ⟨e,he,hp⟩:=(hmem k).mp z;have:=List.findIdx?_eq_none_iff.mp hr e he;rw [hp] at this;cases this
  have gone:∀ (b:Bool) {s1z:Shared} {Q':Unit->Shared->Prop},Q' () s1z->wpAny (model prog w) A (match b with | true=>rule "set.scan.the-table-gave-way" | false=>pure ()) Q' E s1z:=by
   intro b s1z Q' q;cases b
   ·exact j3 q
   ·exact yd q
  have hperm:=layNew_perm t es (knd.hash k) x;have hfits:=layNew_fits t es (knd.hash k) x;have hTL:=hT.layNew es (knd.hash k) x;generalize layNew t es (knd.hash k) x=L at hperm hfits hTL ⊢;obtain ⟨es1,t1,wd,gave⟩:=L;dsimp only at hperm hfits hTL ⊢;rw [Array.toList_push] at hperm;have hel1:ElemsOf knd es1.toList:=(hel.push hkey hsc).perm hperm;have hmem1:∀ k',k'∈addK ks k↔∃ e∈es1.toList,knd.is k' e.2=true:=by
   intro k';unfold addK;rw [if_neg hk,qg,qH,hmem k'];constructor
   ·rintro (⟨e,he,hp⟩ | rfl)
    ·exact ⟨e,hperm.mem_iff.mpr (jA _ he),hp⟩
    ·exact ⟨_,hperm.mem_iff.mpr (qu _ (qH.mpr rfl)),hkey⟩
   ·rintro ⟨e,he,hp⟩
    rcases qg.mp (hperm.mem_iff.mp he) with he | he
    ·exact .inl ⟨e,he,hp⟩
    ·rw [qH] at he
     subst he;exact .inr (knd.inj x k' k hp hkey)
  have hlen:(addK ks k).length=ks.length+1:=by unfold addK;rw [if_neg hk];simp
  have hsz1:es1.size=(addK ks k).length:=by rw [hlen,<-hn,<-qS,hperm.length_eq];simp
  have hb1:es1.size<u6:=by rw [hsz1,hlen];exact hroom
  have hnd:(addK ks k).Nodup:=by
   unfold addK;rw [if_neg hk,kO];exact ⟨g.nd,by simp,λa ha b hb=>by rw [qH] at hb;subst hb;exact λz=>hk (z▸ha)⟩
  have tail:∀ {gv:Bool->Sem Unit} (hgv:∀ (b:Bool) (s1z:Shared) (Q':Unit->Shared->Prop),Q' () s1z->wpAny (model prog w) A (gv b) Q' E s1z) {t2:k8},t2.fits es1.size=true->TOk t2 led->∀ {R:Option Bool->Shared->Prop},(∀ h',kj a s.heap h'->Good knd h' a (addK ks k) led->R (some true) { s with heap:=h' }) ->
    wpAny (model prog w) A (do
     storeSet a es1 t2
     if (!wd&&t2.tooFull)=true then do
       gv (relayAll t2 es1 (zS es1.size)).2.2
       storeSet a (relayAll t2 es1 (zS es1.size)).1 (relayAll t2 es1 (zS es1.size)).2.1
       pure (some true)
      else pure (some true)) R E s:=by
   intro gv hgv t2 hf2 hT2 R hR;refine q8 (wpAny_storeSet_of ho hd ?_ (fits_of_scanBound hb1));have ho1:=stored (es':=es1) (t':=t2) ho hd;have sb1:=kU s.heap a (Obj.putSet es1 t2);split
   ·have p2:=relayAll_perm t2 es1 (zS es1.size)
    have f2:=relayAll_fits t2 es1 (zS es1.size);have hT3:=hT2.relayAll es1 (zS es1.size);generalize relayAll t2 es1 (zS es1.size)=W at p2 f2 hT3 ⊢;obtain ⟨es2,t3,gv2⟩:=W;dsimp only at p2 f2 hT3 ⊢;have sz2:es2.size=es1.size:=by rw [<-qS,p2.length_eq,qS]
    refine q8 (hgv _ _ _ ?_);refine q8 (wpAny_storeSet_of ho1 rfl ?_ (fits_of_scanBound (by rw [sz2];exact hb1)));have ho2:=stored (a:=a) (es':=es2) (t':=t3) ho1 rfl;refine j3 (hR _ (sb1.trans (kU _ a _)) ⟨⟨_,es2,_,t3,ho2,hex,rfl,hel1.perm p2,λk'=>(hmem1 k').trans ⟨λ⟨e,he,q⟩=>⟨e,p2.mem_iff.mpr he,q⟩,λ⟨e,he,q⟩=>⟨e,p2.mem_iff.mp he,q⟩⟩,by rw [sz2];exact hsz1,f2,hT3⟩,hnd,by rw [hlen];exact hroom⟩)
   ·exact j3 (hR _ sb1 ⟨⟨_,es1,_,t2,ho1,hex,rfl,hel1,hmem1,hsz1,hf2,hT2⟩,hnd,by rw [hlen];exact hroom⟩)
  refine q8 (gone _ ?_);split
  ·refine q8 ?_
   rw [hashByValue_scannable 8 hsc];refine j3 ?_;split
   ·refine tail (λb s1z Q' q=>by cases b<;>first | exact j3 q | exact yd q) hfits hTL λh' sb gg=>?_
    dsimp only;exact j3 (h h' true sb gg)
   ·refine tail (λb s1z Q' q=>by cases b<;>first | exact j3 q | exact yd q) (k8.fits_plain_off hfits) hTL.off λh' sb gg=>?_
    dsimp only;exact j3 (h h' true sb gg)
  ·refine q8 (j3 ?_)
   simp only [↓reduceIte];refine tail (λb s1z Q' q=>by cases b<;>first | exact j3 q | exact yd q) hfits hTL λh' sb gg=>?_;dsimp only;exact j3 (h h' true sb gg)
end
section
variable {K:Type} [DecidableEq K] {knd:KeyKind prog w K} {R:Result->Shared->Prop} {wr:T0o} {G:Array QY->Array QY->Prop} {P:Nat->Value->Prop} {St:Nat->Shared->Prop}
def metK (val:Nat->K) (i:Nat):List K:=((qV i).map val).foldl addK []
def a3j (val:Nat->K) (i:Nat):metK val (i+1)=addK (metK val i) (val i):=by unfold metK;rw [List.range_succ,qZ,List.foldl_append];rfl
theorem metK_len (val:Nat->K):∀ i,(metK val i).length<=i
 | 0=>by simp [metK]
 | i+1=>by
  have:=metK_len val i;rw [a3j];unfold addK;split
  ·omega
  ·simp;omega
def b5h (W:WalksS prog w A.in1 I fp wr G n P St) (S:Addr) (hSf:S∉fp) (val:Nat->K) (hval:∀ i v,P i v->knd.is (val i) v=true/\v.scannable=true)
  (hpy:∀ i v (A':Around) (E':T0a) (s':Shared) (Q':Int->Shared->Prop),P i v->Q' (knd.hash (val i)) { s' with toks:=s'.toks+1 }->wpAny (model prog w) A' (pyHash v) Q' E' s') (hb:n+1<u6):
  ∀ (m i:Nat) (s:Shared),n - i=m->i<=n->St i s->Good knd s.heap S (metK val i) led->(∀ s',Moved (S::wr) G s s'->Good knd s'.heap S (metK val n) led->R (.ok (.ret .none)) s') ->
   ua (model prog w) A (.builtin "set.update.loop" ⟨[.ref S,.ref I],[]⟩) R s:=by
 have nw:S∉wr:=λz=>hSf (W.sub _ z);have up:∀ b∈wr,b∈S::wr:=λb hb=>qE _ hb;intro m
 induction m with
 | zero=>
  intro i s hm hi st g hR;obtain rfl:i=n:=by omega
  refine wv F.entry_set_update_loop ?_;rw [jC we _];show wpAny _ A.in1 (yq (.ref I)>>=_) _ _ s;refine q8 (W.done s _ _ st λs' mv=>?_);exact j3 (hR s' (mv.mono up) (g.keeps λo e=>mv.heap S o nw e))
 | succ m ih=>
  intro i s hm hi st g hR;have lt:i<n:=by omega
  refine wv F.entry_set_update_loop ?_;rw [jC we _];show wpAny _ A.in1 (yq (.ref I)>>=_) _ _ s;refine q8 (W.item i s _ _ lt st λv s' pv st' mv=>?_);have g':=g.keeps (h':=s'.heap) λo e=>mv.heap S o nw e;obtain ⟨hk,hsc⟩:=hval i v pv;show wpAny _ A.in1 (holding [v] (setAdd S v)>>=_) _ _ s';refine q8 (wz ?_);unfold setAdd;refine wz (q8 (hpy i v _ _ _ _ pv ?_));have room:(metK val i).length+1<u6:=by have:=metK_len val i;omega
  refine bS (knd:=knd) (s:={ s' with toks:=s'.toks+1 }) hk hsc g' room λh' b sb g2=>?_;rw [<-a3j] at g2;refine j3 ⟨ye we _,ih (i+1) _ (by omega) lt (W.frame _ s' _ _ st' (kF _) λc hc o e=>?_) g2 λs'' mv'' g''=>?_⟩
  ·rw [sb.2 c (λz:c=S=>hSf (z▸hc))]
   exact e
  ·refine hR s'' (Moved.trans W.gtrans ((mv.mono up).then_heap (kF _) λc o hc e=>?_) mv'') g''
   rw [sb.2 c (λz:c=S=>hc (by rw [z];exact qf))];exact e
end
def tN (w:World):Bool:=!w.params.followText "set-order"
abbrev iJ (w:World):Obj:={ cls:=.type "set", dict:=none,data:=.set #[] 0 (.fresh 0 0 (tN w)) }
section
variable {K:Type} [DecidableEq K] {knd:KeyKind prog w K}
def b2H (h:Heap):Good knd (h.push (iJ w)) h.objs.size [] (tN w):=
 ⟨⟨_,#[],0,_,qJ _ rfl,⟨rfl,rfl,rfl⟩,rfl,λe he=>by simp at he,λk=>by simp,rfl,rfl,.fresh _⟩,List.nodup_nil,by show 0<u6;decide⟩
def new_one (v:Value) {Q1:T0a} (h:Q1 (.ref s.heap.objs.size) { s with heap:=s.heap.push (iJ w) }):ua (model prog w) A (.call (.builtin "set.__new__") ⟨[.type "set", v],[]⟩) (wants Q1 E) s:=by
 refine codeAny_of_tree ?_;show wpAny _ A.in1 (checkBuiltinCall "set.__new__" ⟨[.type "set", v],[]⟩>>=λ_=>again (.builtin "set.__new__" ⟨[.type "set", v],[]⟩)) _ _ s;refine q8 (ux (F.newCall_set_1 v) (j3 ⟨ye F.plain_set_new _,wv F.entry_set_new ?_⟩));rw [jC F.plain_set_new _];unfold Builtin.«set.__new__» Builtin.Frozenset.newClass;have sub:=sub_set_self;obtain ⟨hp,gs,dr,tk,os⟩:=s;dsimp only
 wp_walk
 refine ue (j3 ?_);dsimp only [newObj];exact q8 (wpAny_alloc (j3 (j3 h)))
def set_of {val:Nat->K} (hh:A.handled=none) (hl:s.heap.IsList l items) (hval:∀ i v,items[i]?=some v->knd.is (val i) v=true/\v.scannable=true)
  (hpy:∀ i v (A':Around) (E':T0a) (s':Shared) (Q':Int->Shared->Prop),items[i]?=some v->Q' (knd.hash (val i)) { s' with toks:=s'.toks+1 }->wpAny (model prog w) A' (pyHash v) Q' E' s') (hb:items.size+1<u6)
  (h:∀ (h':Heap) (tk:Nat),Good knd h' s.heap.objs.size (metK val items.size) (tN w)->(∀ b o,b<s.heap.objs.size->s.heap.get? b=some o->h'.get? b=some o)->Q (.ref s.heap.objs.size) { s with heap:=h',toks:=tk }):
  wpAny (model prog w) A (call (.type "set") [.ref l]) Q E s:=by
 obtain ⟨c,tl,hmro⟩:=zW.mro;have hmade:=zW.made;have hsub:=zW.sub;refine QL (codeAny_of_tree ?_);show wpAny _ _ (callAny (.type "set") ⟨[.ref l],[]⟩) _ _ _;refine j3 ⟨Code.quiet_builtin _ (by decide +kernel),wv F.entry_type_call ?_⟩;rw [Around.under_plain (weight_type_call_type "set" [.ref l] []) rfl];have n1:=zW.notType;have n2:=zW.canCreate;have n3:=F.typeCall_set_1 (.ref l)
 repeat (any_goals (first | assumption | wp_step))
 refine yo (new_one (.ref l) (E:=E) (Q1:=λob s1=>ob=.ref s.heap.objs.size/\s1={ s with heap:=s.heap.push (iJ w) }) ⟨rfl,rfl⟩) λr s1 hr=>?_;cases r with
 | error e=>exact hr
 | ok fl=>
  cases fl with
  | ret ob=>
   obtain ⟨rfl,rfl⟩:=hr;have hS:(s.heap.push (iJ w)).get? s.heap.objs.size=some (iJ w):=qJ _ rfl;have hT:vL { s with heap:=s.heap.push (iJ w) } (.ref s.heap.objs.size) "set" := ⟨_,hS,rfl⟩;have k1:=zW.init.lookup;have k2:=zW.init.bind (.ref s.heap.objs.size)
   repeat (any_goals (first | assumption | wp_step))
   refine yo (u8 (R:=wants (λr s2=>r=.none/\∃ h' tk,s2={ s with heap:=h',toks:=tk }/\Good knd h' s.heap.objs.size (metK val items.size) (tN w)/\∀ b o,b<s.heap.objs.size->s.heap.get? b=some o->h'.get? b=some o) E)
    zW.init.plain F.entry_set_init (check_set_init_1 hT ?_)) λr2 s2 hr2=>?_
   ·obtain ⟨ol,g0,c0,nl,d0⟩:=hl
    obtain ⟨ocl,odc,odt,osl⟩:=ol;dsimp only at c0 d0;subst c0 d0;have g1:(s.heap.push (iJ w)).get? l=some { cls:=.type "list", dict:=odc,data:=.seq items nl,slots:=osl }:=qC _ g0;have s1:=F.sub_list_set;have s2:=F.sub_list_frozenset;have ne:(zH "list" == zH "dict")=false:=by decide
    have L1:(s.heap.push (iJ w)).IsList l items:=⟨_,g1,rfl,nl,rfl⟩;unfold Builtin.«set.__init__» noKeywords Builtin.Frozenset.updateFrom;generalize hI:pyIter=PI
    wp_walk
    subst hI;refine ui L1 (q8 (wpAny_runValue ?_));have lt:l<s.heap.objs.size:=qN g0;have h3:A.in1.in1.in1.handled=none:=by simp [hh]
    have nI:l≠(s.heap.push (iJ w)).objs.size:=by
     rw [qv];exact qc (jl lt)
    have nf:s.heap.objs.size∉[(s.heap.push (iJ w)).objs.size,l]:=by
     rw [qv];intro z;rcases qI.mp z with z | z
     ·exact absurd z (qc (kt _))
     ·rw [qH] at z
      exact absurd z (jS lt)
    refine b5h (knd:=knd) (led:=tN w) ((Walks.list h3 _ l nI items).toS) s.heap.objs.size nf val hval hpy hb (items.size - 0) 0 _ (by omega) (qt _) ⟨⟨_,qJ _ rfl,rfl,rfl⟩,L1.push _⟩ ?g0 ?gR
    case g0=>exact (b2H (knd:=knd) s.heap).keeps λo e=>qC _ e
    case gR=>
     intro s' mv g';obtain ⟨h',gs',dr',tk',os'⟩:=s';obtain rfl:gs'=s.gens:=mv.gens;obtain rfl:dr'=s.drawn:=mv.drawn;obtain rfl:os'=s.os:=mv.os;show wpAny _ _ _ _ _ _;refine j3 ?_;show wpAny _ _ (ret jf) _ _ _;refine j3 ⟨rfl,h',tk',rfl,g',λb o hb' e=>?_⟩;refine mv.heap b o (λz=>?_) (qC _ (qC _ e));rcases qI.mp z with z | z
     ·exact absurd z (qc hb')
     ·rw [qH,qv] at z
      exact absurd z (qc (jl hb'))
   ·cases r2 with
    | error e=>exact hr2
    | ok fl2=>
     cases fl2 with
     | ret r=>
      obtain ⟨rfl,h',tk,rfl,g',kp⟩:=hr2
      repeat (any_goals (first | assumption | wp_step))
      exact h _ _ g' kp
     | _=>exact hr2.elim
  | _=>exact hr.elim
end
def slot_next:Slot "set_iterator" "__next__" "set_iterator.__next__" :=
 .of (owner := "set_iterator") (n := "__next__") (by rw [ug,yg];kernel_rfl) (by decide +kernel) (by decide +kernel) (by decide +kernel) (by first | exact .inl (by decide +kernel) | exact .inr (by decide +kernel)) (by rw [uj];kernel_rfl)
def entry_next:QG table "set_iterator.__next__" = some Builtin.«set_iterator.__next__»:=entryFor_of_fast (by kernel_rfl)
def args_next (v:Value):QW "set_iterator.__next__" ⟨[v],[]⟩:=by unfold QW;kernel_rfl
def a7G:QG table "set.__iter__" = some Builtin.«frozenset.__iter__»:=QH (id' := "frozenset.__iter__") (by kernel_rfl) rfl (by decide +kernel) (by kernel_rfl)
abbrev itO (f0:Value) (i:Nat) (a:Addr) (n ep:Nat):Obj:={ cls:=.type "set_iterator", data:=.fields #[f0,v7 i,.ref a,v7 n,v7 ep] }
structure SetAt (h:Heap) (a:Addr) (es:Array (Int×Value)) (ep:Nat) (t:k8):Prop where
 ex:∃ o,h.get? a=some o/\o.cls=.type "set" /\ o.data=.set es ep t
 fits:t.fits es.size=true
theorem SetAt.keeps {h:Heap} (g:SetAt h a es ep t) (k:∀ o,h.get? a=some o->h'.get? a=some o):SetAt h' a es ep t:=by
 obtain ⟨o,ho,r⟩:=g.ex;exact ⟨⟨o,k o ho,r⟩,g.fits⟩
theorem SetAt.state {Q:(Array (Int×Value)×Nat×k8)->Shared->Prop} (g:SetAt s.heap a es ep t) (h:Q (es,ep,t) s):wpAny (model prog w) A (setState a) Q E s:=by
 obtain ⟨o,ho,_,hd⟩:=g.ex;exact wpAny_setState_of ho hd g.fits h
def SetAt.entries {Q:Array (Int×Value)->Shared->Prop} (g:SetAt s.heap a es ep t) (h:Q es s):wpAny (model prog w) A (QK a) Q E s:=by
 unfold QK;exact q8 (g.state (j3 h))
def next_item {x:Value} {nx:Nat} {Q:Option Value->Shared->Prop} (hI:s.heap.get? I=some (itO (v7 f0) i a es.size ep)) (g:SetAt s.heap a es ep t)
  (hn:∀ (A':Around) (E':T0a) (Q':Option (Value×Nat)->Shared->Prop),Q' (some (x,nx)) s->wpAny (model prog w) A' (QD a f0 i ep) Q' E' s)
  (hQ:∀ h',h'.get? I=some (itO (v7 nx) (i+1) a es.size ep)->kj I s.heap h'->Q (some x) { s with heap:=h' }):wpAny (model prog w) A (yq (.ref I)) Q E s:=by
 have hT:s.TypeIs (.ref I) "set_iterator" := ⟨_,hI,rfl⟩;unfold yq;refine q8 (yu (j9 (name:=jB "__next__") hT slot_next (j7 slot_next hT entry_next ?_ (args_next _))));unfold Builtin.«set_iterator.__next__»;generalize hSE:QK=SE;generalize hSN:QD=SN;generalize hSF:setField=SF
 wp_walk
 subst hSE hSN hSF;refine g.entries ?_;dsimp only;rw [if_neg (by simp)];show wpAny _ A.in1 (QD a (f0:Int).toNat (i:Int).toNat (ep:Int).toNat>>=_) _ _ s;rw [qz,qz,qz];refine q8 (hn _ _ _ ?_);dsimp only;refine q8 (v0 hI (by simp) λh1 g1 s1=>?_);refine q8 (v0 g1 (by simp) λh2 g2 s2=>?_);refine j3 ⟨x,rfl,j3 (hQ h2 ?_ (s1.trans s2))⟩;rw [g2];simp [itO,v7]
def next_end {Q:Option Value->Shared->Prop} (hh:A.handled=none) (hI:s.heap.get? I=some (itO (v7 f0) i a es.size ep)) (g:SetAt s.heap a es ep t)
  (hn:∀ (A':Around) (E':T0a) (Q':Option (Value×Nat)->Shared->Prop),Q' none s->wpAny (model prog w) A' (QD a f0 i ep) Q' E' s)
  (hQ:∀ h',Heap.ExtBut I s.heap h'->Q none { s with heap:=h' }):wpAny (model prog w) A (yq (.ref I)) Q E s:=by
 have hT:s.TypeIs (.ref I) "set_iterator" := ⟨_,hI,rfl⟩;unfold yq;refine q8 (yu (j9 (name:=jB "__next__") hT slot_next (j7 slot_next hT entry_next ?_ (args_next _))));unfold Builtin.«set_iterator.__next__»;generalize hSE:QK=SE;generalize hSN:QD=SN;generalize hSF:setField=SF;generalize hNE:newExc=NE;generalize hRN:@QS=RN
 wp_walk
 subst hSE hSN hSF hNE hRN;refine g.entries ?_;dsimp only;rw [if_neg (by simp)];show wpAny _ A.in1 (QD a (f0:Int).toNat (i:Int).toNat (ep:Int).toNat>>=_) _ _ s;rw [qz,qz,qz];refine q8 (hn _ _ _ ?_);dsimp only;refine q8 (v0 hI (by simp) λh1 g1 s1=>?_);refine q8 ?_;dsimp only [newExc,newTuple];refine q8 (j8 ?_ (by size_fits));refine q8 (m:=yw _ _) (ux (a:=jf) (by first | rfl | (simp only [yw];rfl)) ?_);refine j8 ?_ (by size_fits);dsimp only [QS];refine q8 (QO ?_);rw [show A.in1.handled=none from hh];refine q8 (j3 (wpAny_throw ?_));refine q8 (yv (T := "StopIteration") (b:=true) ⟨_,qJ _ rfl,rfl⟩ QI ?_);exact j3 (hQ _ ((s1.extBut.push _).push _))
variable {T:Addr}
abbrev plO (pl:T0t):Obj:={ cls:=.type "tuple", data:=.seq (pl.map λ(k:Nat)=>v7 k).toArray }
def a7l {p:Nat} {hx:Int} {x:Value} {Q:Option Value->Shared->Prop} (hI:s.heap.get? I=some (itO (.ref T) i a es.size ep)) (hT:s.heap.get? T=some (plO pl)) (g:SetAt s.heap a es ep t) (hp:pl[i]?=some p) (he:es[p]?=some (hx,x))
  (hQ:∀ h',h'.get? I=some (itO (.ref T) (i+1) a es.size ep)->kj I s.heap h'->Q (some x) { s with heap:=h' }):wpAny (model prog w) A (yq (.ref I)) Q E s:=by
 have hty:s.TypeIs (.ref I) "set_iterator" := ⟨_,hI,rfl⟩;unfold yq;refine q8 (yu (j9 (name:=jB "__next__") hty slot_next (j7 slot_next hty entry_next ?_ (args_next _))));unfold Builtin.«set_iterator.__next__»;generalize hSE:QK=SE;generalize hSN:setNextDrawn=SN;generalize hSF:setField=SF;generalize hSI:uh=SI
 wp_walk
 subst hSE hSN hSF hSI;refine g.entries ?_;dsimp only;rw [if_neg (by simp)];show wpAny _ A.in1 (uh (.ref T)>>=_) _ _ s;refine q8 (wu hT rfl ?_);dsimp only;have e1:(pl.map λ(k:Nat)=>v7 k).toArray[(i:Int).toNat]?=some (v7 p):=by
  rw [qz,jP,qQ,hp];rfl
 rw [e1];show wpAny _ A.in1 (setNextDrawn a (p:Int).toNat (ep:Int).toNat>>=_) _ _ s;rw [qz,qz];unfold setNextDrawn;refine q8 (q8 (g.state ?_));dsimp only;rw [if_neg (by simp),he];refine j3 ?_;refine q8 (v0 hI (by simp) λh1 g1 s1=>?_);refine j3 ⟨x,rfl,j3 (hQ h1 ?_ s1)⟩;rw [g1];simp [itO,v7]
def a9F {Q:Option Value->Shared->Prop} (hh:A.handled=none) (hI:s.heap.get? I=some (itO (.ref T) i a es.size ep)) (hT:s.heap.get? T=some (plO pl)) (g:SetAt s.heap a es ep t) (hp:pl[i]?=none)
  (hQ:∀ h',Heap.ExtBut I s.heap h'->Q none { s with heap:=h' }):wpAny (model prog w) A (yq (.ref I)) Q E s:=by
 have hty:s.TypeIs (.ref I) "set_iterator" := ⟨_,hI,rfl⟩;unfold yq;refine q8 (yu (j9 (name:=jB "__next__") hty slot_next (j7 slot_next hty entry_next ?_ (args_next _))));unfold Builtin.«set_iterator.__next__»;generalize hSE:QK=SE;generalize hSF:setField=SF;generalize hSI:uh=SI;generalize hNE:newExc=NE;generalize hRN:@QS=RN
 wp_walk
 subst hSE hSF hSI hNE hRN;refine g.entries ?_;dsimp only;rw [if_neg (by simp)];show wpAny _ A.in1 (uh (.ref T)>>=_) _ _ s;refine q8 (wu hT rfl ?_);dsimp only;have e1:(pl.map λ(k:Nat)=>v7 k).toArray[(i:Int).toNat]?=none:=by
  rw [qz,jP,qQ,hp];rfl
 rw [e1];dsimp only;refine q8 (v0 hI (by simp) λh0 g0 s0=>?_);refine q8 (v0 g0 (by simp) λh1 g1 s1=>?_);refine q8 ?_;dsimp only [newExc,newTuple];refine q8 (j8 ?_ (by size_fits));refine q8 (m:=yw _ _) (ux (a:=jf) (by first | rfl | (simp only [yw];rfl)) ?_);refine j8 ?_ (by size_fits);dsimp only [QS];refine q8 (QO ?_);rw [show A.in1.handled=none from hh];refine q8 (j3 (wpAny_throw ?_));refine q8 (yv (T := "StopIteration") (b:=true) ⟨_,qJ _ rfl,rfl⟩ QI ?_);exact j3 (hQ _ (((s0.trans s1).extBut.push _).push _))
theorem a8K {α:Type} (next:Nat->Nat):∀ (fuel k:Nat) (left:List α) (out:Array α),left.length=fuel->(ud.go next fuel k left out).toList.Perm (out.toList++left)
 | 0,k,left,out,h=>by
  have:left=[]:=vY.mp h;subst this;simp [ud.go]
 | fuel+1,k,left,out,h=>by
  unfold ud.go;have lt:next k % left.length<left.length:=Nat.mod_lt _ (by omega);rw [qD lt];dsimp only;refine (a8K next fuel (k+1) _ _ (by rw [List.length_eraseIdx,if_pos lt];omega)).trans ?_;rw [Array.toList_push,qy];refine zE _ ?_;show (left[next k % left.length]::left.eraseIdx (next k % left.length)).Perm left;generalize next k % left.length=m at lt;rw [wU];have e:left=left.take m++left[m]::left.drop (m+1):=by rw [List.getElem_cons_drop,List.take_append_drop]
  refine vt ?_ (List.Perm.of_eq e.symm);exact List.perm_middle.symm
def yD {α:Type} (next:Nat->Nat) (xs:Array α):(ud next xs).toList.Perm xs.toList:=by
 unfold ud;have:=a8K next xs.size 0 xs.toList #[] (by simp);simpa using this
def b8W (hb:w.params.followText "set-order" = true) {Q:Array (Int×Value)->Shared->Prop} (g:SetAt s.heap a es ep t) (h:Q (ud (w.params.setOrder a ep) es) s):wpAny (model prog w) A (setWalk a) Q E s:=by
 unfold setWalk;refine q8 (g.state ?_);dsimp only;unfold setsByText;refine q8 (q8 (ue (j3 ?_)));show wpAny _ _ (if w.params.followText "set-order" = true then _ else _) _ _ s;rw [if_pos hb];exact q8 (ue (j3 h))
def nextT (hb:w.params.followText "set-order" = true) {Q:Option (Value×Nat)->Shared->Prop} (g:SetAt s.heap a es ep t) (h:Q (((ud (w.params.setOrder a ep) es)[i]?).map λe=>(e.2,f0)) s):wpAny (model prog w) A (QD a f0 i ep) Q E s:=by
 unfold QD;refine q8 (g.state ?_);dsimp only;refine q8 ?_;unfold setsByText;refine q8 (ue (j3 ?_));show wpAny _ _ (if w.params.followText "set-order" = true then _ else _) _ _ s;rw [if_pos hb,if_neg (by simp)];refine q8 ?_;exact b8W hb g (j3 h)
def b6v (hb:w.params.followText "set-order" = false) (hnd:(!t.plain&&decide (es.size > 1))=false) (hl:t.led=true) {Q:Option (Value×Nat)->Shared->Prop} (g:SetAt s.heap a es ep t)
  (h:Q (match es[qh t.place f0]?,t.place[qh t.place f0]? with | some (_,x),some j=>some (x,j+1) | _,_=>none) s):wpAny (model prog w) A (QD a f0 i ep) Q E s:=by
 unfold QD;refine q8 (g.state ?_);dsimp only;refine q8 ?_;unfold setsByText;refine q8 (ue (j3 ?_));show wpAny _ _ (if w.params.followText "set-order" = true then _ else (if (!t.plain&&decide (es.size > 1))=true then _ else _)) _ _ s;rw [hb,if_neg (by decide),hnd,if_neg (by decide)];show wpAny _ _ ((if (!t.led&&!es.isEmpty)=true then unsupported "set:maker-not-led" else pure PUnit.unit)>>=λ_=>_) _ _ s;rw [hl];rw [if_neg (by simp)];exact q8 (j3 (j3 h))
def b0m {src:Source} {Q:Nat->Shared->Prop} (hn:n≠0) (h:∀ k,k<n->Q k { s with drawn:=s.drawn.bump src }):wpAny M A (choose src n) Q E s:=λΓ p hΓ=>by
 unfold choose;rw [Sem.wp_choose];exact ⟨hn,h _ (Nat.mod_lt _ (by omega))⟩
theorem a8V {α:Type} {M:Model} {A:Around} {E:T0a}:∀ (n:Nat) (xs:List α) (s:Shared) (Q:List α->Shared->Prop),xs.length=n->(∀ ys d',ys.Perm xs->Q ys { s with drawn:=d' })->wpAny M A (drawOrder n xs) Q E s
 | 0,xs,s,Q,hn,h=>by
  have:xs=[]:=vY.mp hn;subst this;unfold drawOrder;exact j3 (h [] s.drawn .nil)
 | n+1,[],s,Q,hn,h=>by cases hn
 | n+1,x::xs,s,Q,hn,h=>by
  unfold drawOrder;refine q8 (b0m (by simp) λk hk=>?_);rw [qD hk];dsimp only;refine q8 (a8V n _ _ _ (by rw [List.length_eraseIdx,if_pos hk];omega) λys d' hp=>j3 (h _ d' ?_));refine (hp.cons _).trans ?_;generalize hL:x::xs=left at hk ⊢;rw [wU];have e:left=left.take k++left[k]::left.drop (k+1):=by rw [List.getElem_cons_drop,List.take_append_drop]
  exact List.perm_middle.symm.trans (List.Perm.of_eq e.symm)
def slot_self:Slot "set_iterator" "__iter__" "set_iterator.__iter__" :=
 .of (owner := "set_iterator") (n := "__iter__") (by rw [ug,yg];kernel_rfl) (by decide +kernel) (by decide +kernel) (by decide +kernel) (by first | exact .inl (by decide +kernel) | exact .inr (by decide +kernel)) (by rw [uj];kernel_rfl)
def entry_self:QG table "set_iterator.__iter__" = some Builtin.«dict_keyiterator.__iter__»:=QH (id' := "dict_keyiterator.__iter__") (by kernel_rfl) rfl (by decide +kernel) (by kernel_rfl)
def args_self (v:Value):QW "set_iterator.__iter__" ⟨[v],[]⟩:=by unfold QW;kernel_rfl
def lG (hty:s.TypeIs (.ref I) "set_iterator") (h:Q (.ref I) s):wpAny (model prog w) A (pyIter (.ref I)) Q E s:=by
 refine u2 hty slot_self (j7 slot_self hty entry_self ?_ (args_self _));show wpAny _ _ (ret (.ref I)) _ _ s;exact j3 ⟨_,rfl, "set_iterator", _,hty,slot_next.lookup,h⟩
def b6M (hb:w.params.followText "set-order" = true) (hne:a≠I) (hh:A.handled=none):Walks prog w A I [I,a] [I] es.size (λi v=>((ud (w.params.setOrder a ep) es).toList.map (·.2))[i]?=some v)
  (λi h=>h.get? I=some (itO (v7 0) i a es.size ep)/\SetAt h a es ep t) where
 sub:=λb hb=>by simp at hb;simp [hb]
 frame:=λi h h' st kp=>⟨kp I (by simp) _ st.1,st.2.keeps λo e=>kp a (by simp) o e⟩
 item:=λi s Q E hi st hQ=>by
  have hl:(ud (w.params.setOrder a ep) es).size=es.size:=by rw [<-qS,(yD _ _).length_eq,qS]
  have hi':i<(ud (w.params.setOrder a ep) es).size:=by omega
  refine next_item st.1 st.2 (x:=(ud (w.params.setOrder a ep) es)[i].2) (nx:=0) (λA' E' Q' q=>nextT hb st.2 (by rw [jR hi'];exact q)) λh' g1 s1=>?_;refine hQ _ h' s.toks ?_ ⟨g1,st.2.keeps λo e=>s1.extBut _ _ hne e⟩ λb o hb e=>s1.extBut b o (by simpa using hb) e;rw [qQ,jo,jR hi'];rfl
 done:=λs Q E st hQ=>by
  have hl:(ud (w.params.setOrder a ep) es).size=es.size:=by rw [<-qS,(yD _ _).length_eq,qS]
  refine next_end hh st.1 st.2 (λA' E' Q' q=>nextT hb st.2 (by rw [Array.getElem?_eq_none (by omega)];exact q)) λh' x=>hQ h' s.toks λb o hb e=>x b o (by simpa using hb) e
 self:=λi s Q E st hQ=>by
  have hty:s.TypeIs (.ref I) "set_iterator" := ⟨_,st.1,rfl⟩;exact lG hty hQ
def slotAt (t:k8):Nat->Nat
 | 0=>0
 | i+1=>t.place.getD i 0+1
def xI (hr:tH t.place) (hn:t.place.size=n):∀ i,i<=n->qh t.place (slotAt t i)=i
 | 0,_=>a7R _ hr
 | i+1,h=>by
  have lt:i<t.place.size:=by omega
  show qh t.place (t.place.getD i 0+1)=i+1;have:t.place.getD i 0=t.place[i]:=by simp [vW,lt]
  rw [this];exact a7S hr lt
def b6O (hb:w.params.followText "set-order" = false) (hnd:(!t.plain&&decide (es.size > 1))=false) (hl:t.led=true) (hr:tH t.place) (hp:t.place.size=es.size) (hne:a≠I) (hh:A.handled=none):
  Walks prog w A I [I,a] [I] es.size (λi v=>(es.toList.map (·.2))[i]?=some v) (λi h=>i<=es.size/\h.get? I=some (itO (v7 (slotAt t i)) i a es.size ep)/\SetAt h a es ep t) where
 sub:=λb hb=>by simp at hb;simp [hb]
 frame:=λi h h' st kp=>⟨st.1,kp I (by simp) _ st.2.1,st.2.2.keeps λo e=>kp a (by simp) o e⟩
 item:=λi s Q E hi st hQ=>by
  have hi':i<t.place.size:=by omega
  have bl:=xI hr hp i (by omega)
  refine next_item st.2.1 st.2.2 (x:=es[i].2) (nx:=slotAt t (i+1)) (λA' E' Q' q=>b6v hb hnd hl st.2.2 (by
   rw [bl,jR hi,jR hi'];have:slotAt t (i+1)=t.place[i]+1:=by show t.place.getD i 0+1=_;simp [vW,hi']
   rw [this] at q
   exact q)) λh' g1 s1=>?_
  refine hQ _ h' s.toks ?_ ⟨hi,g1,st.2.2.keeps λo e=>s1.extBut _ _ hne e⟩ λb o hb e=>s1.extBut b o (by simpa using hb) e;rw [qQ,jo,jR hi];rfl
 done:=λs Q E st hQ=>by
  have bl:=xI hr hp es.size (qM _)
  refine next_end hh st.2.1 st.2.2 (λA' E' Q' q=>b6v hb hnd hl st.2.2 (by
   rw [bl,Array.getElem?_eq_none (qM _)]
   exact q)) λh' x=>hQ h' s.toks λb o hb e=>x b o (by simpa using hb) e
 self:=λi s Q E st hQ=>lG ⟨_,st.2.1,rfl⟩ hQ
def b6N (hpl:pl.Perm (qV es.size)) (hne:a≠I) (hTI:T≠I) (hh:A.handled=none):
  Walks prog w A I [I,a,T] [I] es.size (λi v=>(pl.map λk=>(es.toList.map (·.2)).getD k .none)[i]?=some v) (λi h=>h.get? I=some (itO (.ref T) i a es.size ep)/\h.get? T=some (plO pl)/\SetAt h a es ep t) where
 sub:=λb hb=>by simp at hb;simp [hb]
 frame:=λi h h' st kp=>⟨kp I (by simp) _ st.1,kp T (by simp) _ st.2.1,st.2.2.keeps λo e=>kp a (by simp) o e⟩
 item:=λi s Q E hi st hQ=>by
  have hlen:pl.length=es.size:=by rw [hpl.length_eq,qx]
  have hi':i<pl.length:=by omega
  have hm:pl[i]∈qV es.size:=hpl.mem_iff.mp (jZ hi');have hlt:pl[i]<es.size:=qo.mp hm;refine a7l (p:=pl[i]) (hx:=es[pl[i]].1) (x:=es[pl[i]].2) st.1 st.2.1 st.2.2 (qD hi') (jR hlt) λh' g1 s1=>?_;refine hQ _ h' s.toks ?_ ⟨g1,s1.extBut _ _ hTI st.2.1,st.2.2.keeps λo e=>s1.extBut _ _ hne e⟩ λb o hb e=>s1.extBut b o (by simpa using hb) e;rw [qQ,qD hi'];simp [vV,hlt]
 done:=λs Q E st hQ=>by
  have hlen:pl.length=es.size:=by rw [hpl.length_eq,qx]
  exact a9F hh st.1 st.2.1 st.2.2 (qd (by omega)) λh' x=>hQ h' s.toks λb o hb e=>x b o (by simpa using hb) e
 self:=λi s Q E st hQ=>lG ⟨_,st.1,rfl⟩ hQ
def a7j {α:Type} (xs:List α) (d:α) (h:pl.Perm (qV xs.length)):(pl.map λk=>xs.getD k d).Perm xs:=by
 refine (h.map _).trans (List.Perm.of_eq ?_);apply jb;intro i;rw [qQ];by_cases hi:i<xs.length
 ·rw [kq hi,qD hi];simp [vV,hi]
 ·rw [qd (by simpa using hi),qd (by omega)];rfl
def b2v (g:SetAt s.heap a es ep t) (hT:TOk t (tN w)) (few:es.size<=j5)
  (h:∀ (h':Heap) (d':Drawn) (I:Addr) (vs:T0m) (fp:T0o) (St:Nat->Heap->Prop),vs.Perm (es.toList.map (·.2))->(∀ b o,s.heap.get? b=some o->h'.get? b=some o)->s.heap.objs.size<=I->I∈fp->(∀ b∈fp,b=a\/s.heap.objs.size<=b) ->
   (∀ A':Around,A'.handled=none->Walks prog w A' I fp [I] es.size (λi v=>vs[i]?=some v) St)->St 0 h'->Q (.ref I) { s with heap:=h',drawn:=d' }):
  wpAny (model prog w) A (pyIter (.ref a)) Q E s:=by
 obtain ⟨o,ho,hc,hd⟩:=g.ex;have hty:s.TypeIs (.ref a) "set" := ⟨o,ho,hc⟩;have lt:a<s.heap.objs.size:=qN ho;have hpl:t.place.size=es.size:=by
  have:=g.fits;simp only [k8.fits,qL,beq_iff_eq] at this;exact this.1
 refine u2 hty F.slot_set_iter (j7 F.slot_set_iter hty a7G ?_ (F.args_set_iter_1 _));unfold Builtin.«frozenset.__iter__»;generalize hSD:setDrawn=SD;generalize hSE:setEpoch=SE;generalize hSZ:Builtin.Frozenset.sizeOf=SZ
 wp_walk
 subst hSD hSE hSZ;unfold Builtin.Frozenset.sizeOf;refine q8 (g.entries (j3 ?_));have fin:∀ (f0:Value) (s2:Shared),SetAt s2.heap a es ep t->Q (.ref s2.heap.objs.size) { s2 with heap:=s2.heap.push (itO f0 0 a es.size ep) } ->
   wpAny (model prog w) A.in1 (setEpoch a>>=λe=>newFields "set_iterator" [f0,v7 0,jU a,v7 (es.size:Nat),v7 (e:Nat)]>>=λv=>ret v) (λfin s'=>∃ v,fin=Fin.done (Flow.ret v)/\∃ T' r,s'.TypeIs v T'/\typeLookup (zH T') (jB "__next__")=pure (some r)/\Q v s') E s2:=by
  intro f0 s2 g2 q;refine q8 ?_;unfold setEpoch;refine q8 (g2.state (j3 ?_));refine q8 ?_;unfold newFields;exact j8 (j3 ⟨_,rfl, "set_iterator", _,⟨_,qJ _ rfl,rfl⟩,slot_next.lookup,q⟩) (by size_fits)
 have plain:∀ (vs:T0m) (St:Nat->Heap->Prop),vs.Perm (es.toList.map (·.2))->(∀ A':Around,A'.handled=none->Walks prog w A' s.heap.objs.size [s.heap.objs.size,a] [s.heap.objs.size] es.size (λi v=>vs[i]?=some v) St) ->
   St 0 (s.heap.push (itO (v7 0) 0 a es.size ep))->Q (.ref s.heap.objs.size) { s with heap:=s.heap.push (itO (v7 0) 0 a es.size ep) }:=by
  intro vs St hp W st;refine h _ s.drawn s.heap.objs.size vs [s.heap.objs.size,a] St hp (λb o e=>qC _ e) (qM _) (by simp) (λb hb=>?_) W st;rcases qI.mp hb with z | z
  ·exact .inr (by rw [z];exact qM _)
  ·exact .inl (qH.mp z)
 have hne:a≠s.heap.objs.size:=qc lt;have g1:SetAt (s.heap.push (itO (v7 0) 0 a es.size ep)) a es ep t:=g.keeps λo e=>qC _ e;refine q8 ?_;unfold setDrawn;refine q8 (g.state ?_);dsimp only;unfold setsByText;refine q8 (q8 (ue (j3 (j3 ?_))));show wpAny _ _ (if (!w.params.followText "set-order" && (!t.plain&&decide (es.size > 1)))=true then _ else _) _ _ s;cases hbt:w.params.followText "set-order" with
 | true=>
  rw [if_neg (by simp)];refine q8 (j3 ?_);exact fin (v7 0) s g (plain _ _ ((yD _ _).map _) (λA' hA=>b6M hbt hne hA) ⟨qJ _ rfl,g1⟩)
 | false=>
  have hled:t.led=true:=by rw [hT.led];unfold tN;rw [hbt];rfl
  cases hdr:(!t.plain&&decide (es.size > 1)) with
  | false=>
   rw [if_neg (by simp)];refine q8 (j3 ?_);have hr:tH t.place:=by
    cases hp:t.plain with
    | true=>exact hT.rise hp
    | false=>
     rw [hp] at hdr;have:¬es.size > 1:=by simpa using hdr
     unfold tH;have hl:t.place.toList.length<=1:=by rw [qS];omega
     match t.place.toList,hl with
     | [],_=>exact .nil
     | [x],_=>exact zT _ _
   exact fin (v7 0) s g (plain _ _ (.refl _) (λA' hA=>b6O hbt hdr hled hr hpl hne hA) ⟨qt _,qJ _ rfl,g1⟩)
  | true=>
   rw [if_pos (by simp)];refine q8 (a8V es.size (qV es.size) s _ (by simp) λpl d' hpl'=>?_);refine q8 ?_;unfold newTuple
   refine j8 ?_ (by
    have h1:pl.length=es.size:=by rw [hpl'.length_eq,qx]
    show (pl.map λ(k:Nat)=>v7 k).toArray.size<=j5;rw [qP,qF,h1]
    exact few)
   have g2:SetAt (s.heap.push (plO pl)) a es ep t:=g.keeps λo e=>qC _ e;refine fin (.ref s.heap.objs.size) { s with heap:=s.heap.push (plO pl),drawn:=d' } g2 ?_;have sz:(s.heap.push (plO pl)).objs.size=s.heap.objs.size+1:=qv ..;have hp2:(pl.map λk=>(es.toList.map (·.2)).getD k jf).Perm (es.toList.map (·.2)):=a7j _ _ (by simpa using hpl');refine h _ d' (s.heap.push (plO pl)).objs.size _ [(s.heap.push (plO pl)).objs.size,a,s.heap.objs.size] _ hp2 (λb o e=>qC _ (qC _ e)) (by rw [sz];exact kF _) (by simp) (λb hb=>?_)
    (λA' hA=>b6N (ep:=ep) (t:=t) hpl' (by rw [sz];exact qc (jl lt)) (by rw [sz];exact qc (kt _)) hA) ⟨qJ _ rfl,qC _ (qJ _ rfl),g2.keeps λo e=>qC _ e⟩
   rcases qI.mp hb with z | z
   ·exact .inr (by rw [z,sz];exact kF _)
   ·rcases qI.mp z with z | z
    ·exact .inl z
    ·rw [qH] at z;exact .inr (by rw [z];exact qM _)
def b4k:typeLookup (.type "set") "__len__" = pure (some (.builtin "set.__len__")):=by rw [ug,yg];kernel_rfl
def a6q {Q:List Value->Shared->Prop} (hh:A.handled=none) (g:SetAt s.heap a es ep t) (hT:TOk t (tN w)) (few:es.size<=j5)
  (hQ:∀ (h':Heap) (d':Drawn) (tk:Nat) (vs:T0m),vs.Perm (es.toList.map (·.2))->(∀ b o,s.heap.get? b=some o->h'.get? b=some o)->s.heap.objs.size<h'.objs.size->Q vs { s with heap:=h',drawn:=d',toks:=tk }):
  wpAny (model prog w) A (collect (.ref a)) Q E s:=by
 obtain ⟨o,ho,hc,_⟩:=g.ex;have lt:a<s.heap.objs.size:=qN ho;unfold collect;refine q8 (wpAny_runValue (wv F.entry_proto_collect ?_));rw [jC F.plain_proto_collect _];show wpAny _ A.in1 (newList []>>=λl=>again (.builtin "list.__iadd__" ⟨[l,.ref a],[]⟩)) _ _ s;refine q8 (j8 ?_);refine j3 ⟨ye vx _,wv F.entry_list_iadd ?_⟩;rw [jC vx _];have g1:SetAt (s.heap.push { cls:=.type "list", data:=.seq ([]:T0m).toArray }) a es ep t:=g.keeps λo e=>qC _ e;have hS1:(s.heap.push { cls:=.type "list", data:=.seq ([]:T0m).toArray }).get? s.heap.objs.size=some { cls:=.type "list", data:=.seq ([]:T0m).toArray }:=qJ _ rfl;have ty1:vL { s with heap:=s.heap.push { cls:=.type "list", data:=.seq ([]:T0m).toArray } } (.ref a) "set" := ⟨o,qC _ ho,hc⟩;show wpAny _ A.in1 (jw (.ref s.heap.objs.size) (.ref a) (.ref s.heap.objs.size)) _ _ _;unfold jw;refine q8 (y0 ty1 ?_);have e1:Builtin.List.listSameRef (.ref s.heap.objs.size) (.ref a)=false:=by simp [Builtin.List.listSameRef,jS lt]
 have e2:(zH "set" == zH "list")=false:=by decide
 have e3:(zH "set" == zH "tuple")=false:=by decide
 simp only [e1,e2,e3,wQ,kE,if_false];refine q8 (b2v (w:=w) g1 hT few λh' d' I vs fp St hp kp hI hIf hfp W st=>?_);have ty2:vL { s with heap:=h',drawn:=d' } (.ref a) "set" := ⟨o,kp a o (qC _ ho),hc⟩;refine q8 (wz ?_);have hint:∀ Q':Bool->Shared->Prop,Q' false { s with heap:=h',drawn:=d' }->wpAny (model prog w) A.in1 (Builtin.List.listLengthHint (.ref a)) Q' E { s with heap:=h',drawn:=d' }:=by
  intro Q' q;unfold Builtin.List.listLengthHint;refine q8 (QB ty2 b4k ?_);generalize hid:("set.__len__" : String)=i0
  wp_delta
  rw [show splitId i0=some ("set", "__len__") from by rw [<-hid];decide +kernel];rw [<-hid];refine q8 (yv (T := "set") (b:=true) ty2 sub_set_self ?_);refine wpAny_ite_split (λz=>absurd z (by decide)) λ_=>?_;refine wpAny_ite_split (λ_=>?_) λz=>absurd (by decide +kernel) z;exact q8 (y0 ty2 (j3 q))
 refine hint _ ?_;have hSf:s.heap.objs.size∉fp:=λhm=>by
  rcases hfp _ hm with z | z
  ·exact absurd z (jS lt)
  ·rw [qv] at z;exact absurd z (Nat.not_succ_le_self _)
 refine wpAny_ite_split (λ_=>?_) λz=>absurd (by decide +kernel) z;have hS2:=kp _ _ hS1;refine q8 (yd ?_);refine q8 ?_;show wpAny _ A.in1 (updateSeq s.heap.objs.size (·.push .none)>>=λ_=>updateSeq s.heap.objs.size (·.pop)) _ _ _;refine q8 (uu hS2 rfl ?_);have hS3:=kJ (kK (·.push jf)) hS2 rfl;refine uu hS3 rfl ?_;have hS4:=kJ (kK (·.pop)) hS3 rfl;have oth:∀ b o,b≠s.heap.objs.size->h'.get? b=some o->((h'.update s.heap.objs.size (kK (·.push jf))).update s.heap.objs.size (kK (·.pop))).get? b=some o:=
  λb o hb e=>by rw [jk _ _ (jT hb),jk _ _ (jT hb)];exact e
 have W1:=W A.in1 hh
 refine j3 ⟨ye F.plain_extend_loop _,codeAny_extend_loopS W1.toS few _ hSf _ es.size 0 _ _ _ rfl (qt _)
  (W1.frame 0 _ _ st λb hb o e=>oth b o (λz=>hSf (z▸hb)) e) hS4 (ItemsOf.nil _) λs' acc' c' hm hS' hacc=>?_⟩
 show wpAny _ A (load s.heap.objs.size>>=_) _ _ s';refine q8 (wpAny_load hS' (j3 ?_));have hv:acc'.toList=vs:=by
  have hl:vs.length=es.size:=by rw [hp.length_eq];simp
  refine jb λi=>?_;by_cases hi:i<es.size
  ·have h1:i<acc'.size:=by rw [hacc.1];exact hi
   have h2:=hacc.2 i _ (jR h1);rw [h2,jo,jR h1]
  ·rw [qd (by rw [qS,hacc.1];omega),qd (by rw [hl];omega)]
 show Q acc'.toList s';rw [hv,Moved.eq_with hm];refine hQ s'.heap d' s'.toks vs hp (λb o e=>?_) (qN hS');have hb:b≠s.heap.objs.size:=qc (qN e);refine hm.heap b o (λhmem=>?_) (oth b o hb (kp b o (qC _ e)));rcases qI.mp hmem with z | z
 ·exact hb z
 ·rw [qH] at z
  rw [qv] at hI;have q:=qN e;rw [z] at q;exact ji _ (qa (jl q) hI)
theorem a8l {α:Type} [DecidableEq α]:∀ (ks qs:List α),ks.Nodup->(∀ k∈ks,k∈qs)->qs.length=ks.length->qs.Perm ks
 | [],[],_,_,_=>.refl _
 | k::ks,qs,hn,hm,hl=>by
  have h1:=List.perm_cons_erase (hm k (by simp));have hn':=kA.mp hn;refine h1.trans (.cons k (a8l ks _ hn'.2 (λx hx=>?_) ?_))
  ·exact (List.mem_erase_of_ne (λz=>by rw [z] at hx;exact hn'.1 hx)).mpr (hm x (by simp [hx]))
  ·have:=h1.length_eq;simp only [qW] at this hl;omega
variable {ks:List Int}
section
variable {K:Type} [DecidableEq K] {knd:KeyKind prog w K}
inductive Keys (knd:KeyKind prog w K):List Value->List K->Prop
 | nil:Keys knd [] []
 | cons {v k vs ks:_}:knd.is k v=true->Keys knd vs ks->Keys knd (v::vs) (k::ks)
theorem Keys.len {vs ks:_} (h:Keys knd vs ks):ks.length=vs.length:=by induction h<;>simp [*]
theorem Keys.mem {vs ks:_} (h:Keys knd vs ks) {v:Value} {k:K} (hv:v∈vs) (e:knd.is k v=true):k∈ks:=by
 induction h with
 | nil=>cases hv
 | cons h1 _ ih=>
  rcases qI.mp hv with z | z
  ·subst z;rw [knd.inj _ _ _ e h1];simp
  ·exact qE _ (ih z)
theorem a8E:∀ (es:List (Int×Value)),ElemsOf knd es->∃ qs,Keys knd (es.map (·.2)) qs
 | [],_=>⟨[],.nil⟩
 | e::es,h=>by
  obtain ⟨qs,hq⟩:=a8E es λx hx=>h x (qE _ hx);obtain ⟨⟨k,hk,_⟩,_⟩:=h e (by simp);exact ⟨k::qs,.cons hk hq⟩
theorem Keys.perm (hp:us.Perm vs):∀ {ks:_},Keys knd vs ks->∃ qs,Keys knd us qs/\qs.Perm ks:=by
 induction hp with
 | nil=>intro ks h;exact ⟨ks,h,.refl _⟩
 | cons v _ ih=>
  intro ks h;cases h with
  | cons h1 h2=>obtain ⟨qs,a,b⟩:=ih h2;exact ⟨_::qs,.cons h1 a,.cons _ b⟩
 | swap x y l=>
  intro ks h;cases h with
  | cons h1 h2=>cases h2 with
   | cons h3 h4=>exact ⟨_,.cons h3 (.cons h1 h4),.swap ..⟩
 | trans _ _ i1 i2=>
  intro ks h;obtain ⟨q1,a1,b1⟩:=i2 h;obtain ⟨q2,a2,b2⟩:=i1 a1;exact ⟨q2,a2,b2.trans b1⟩
theorem Good.keys {h:Heap} {ks:List K} (g:Good knd h a ks led):∃ es ep t,SetAt h a es ep t/\TOk t led/\es.size=ks.length/\∀ vs,vs.Perm (es.toList.map (·.2))->∃ qs,Keys knd vs qs/\qs.Perm ks:=by
 obtain ⟨o,es,ep,t,ho,hx,hd,hE,hm,hl,hf,hT⟩:=g.ex;refine ⟨es,ep,t,⟨⟨o,ho,hx.1,hd⟩,hf⟩,hT,hl,λvs hp=>?_⟩;obtain ⟨qs,hq⟩:=a8E es.toList hE
 have h1:qs.Perm ks:=a8l ks qs g.nd (λk hk=>by
  obtain ⟨e,he,hi⟩:=(hm k).mp hk
  exact hq.mem (qi he) hi) (by rw [hq.len,qF,qS,hl])
 obtain ⟨q2,a2,b2⟩:=Keys.perm hp.symm.symm hq;exact ⟨q2,a2,b2.trans h1⟩
def a9P (h:Keys (Qe prog w) vs ks):ul vs ks:=by
 induction h with
 | nil=>exact .nil
 | cons h1 _ ih=>obtain ⟨t,rfl⟩:=Value.isInt_shape h1;exact .cons _ t ih
def a6Y {Out:Array Value->Prop} (hh:A.handled=none) (g:SetAt s.heap a es ep t) (hT:TOk t (tN w)) (few:es.size<64)
  (hsort:∀ (A':Around) (E':T0a) (s':Shared) (l:Addr) (vs:T0m) (n:Nat) (P:Fin->Shared->Prop),vs.Perm (es.toList.map (·.2))->s'.heap.get? l=some (yh "list" vs.toArray n) ->
   (∀ out,Out out->P (.done (.ret .none)) { s' with heap:=sortedHeap s'.heap l vs out })->wpAny (model prog w) A' (Builtin.«list.sort» ⟨[.ref l],[]⟩) P E' s')
  (h:∀ (h':Heap) (d':Drawn) (tk:Nat) (D:Addr) (out:Array Value) (e:Nat),(∀ b o,s.heap.get? b=some o->h'.get? b=some o)->s.heap.objs.size<=D->h'.get? D=some (yh "list" out e)->Out out->Q (.ref D) { s with heap:=h',drawn:=d',toks:=tk }):
  wpAny (model prog w) A (call (.builtin "sorted") [.ref a]) Q E s:=by
 have big:(64:Nat)<=j5:=by decide
 refine Calls.call_function_entry kind_sorted plain_sorted entry_sorted (args_sorted1 _) ?_;unfold Builtin.«sorted»;refine q8 (m:=checkCount "sorted" 1 1 _) (j3 ?_);refine q8 (a6q hh g hT (qk (jN few) big) λh1 d1 tk vs hp kp hlt=>?_);have hl:vs.length=es.size:=by rw [hp.length_eq];simp
 refine q8 (wpAny_newList ?_ (by rw [hl];exact qk (jN few) big));have hoL:(h1.push (yh "list" vs.toArray 0)).get? h1.objs.size=some (yh "list" vs.toArray 0):=qJ _ rfl;refine q8 (wz (j7 slot_list_sort ⟨_,hoL,rfl⟩ entry_list_sort (hsort _ _ _ _ vs 0 _ hp hoL λout ho=>⟨_,rfl,?_⟩) (args_list_sort _)));obtain ⟨e,he⟩:=sortedHeap_at (out:=out) hoL;refine j3 ⟨_,rfl,h _ d1 tk h1.objs.size out e (λb o g=>?_) (jN hlt) he ho⟩;have hb:b<h1.objs.size:=qN (kp b o g);rw [sortedHeap_old (qc hb) (by rw [qv];exact jl hb),qC _ (kp b o g)]
def sorted_setI (hh:A.handled=none) (g:Good (Qe prog w) s.heap a ks (tN w)) (few:ks.length<64)
  (h:∀ (h':Heap) (d':Drawn) (tk:Nat) (D:Addr) (out:Array Value) (e:Nat),(∀ b o,s.heap.get? b=some o->h'.get? b=some o)->s.heap.objs.size<=D->h'.get? D=some (yh "list" out e)->ul out.toList (L3.sortI ks)->Q (.ref D) { s with heap:=h',drawn:=d',toks:=tk }):
  wpAny (model prog w) A (call (.builtin "sorted") [.ref a]) Q E s:=by
 obtain ⟨es,ep,t,g1,hT,hl,hv⟩:=g.keys;refine a6Y (Out:=λout=>ul out.toList (L3.sortI ks)) hh g1 hT (by rw [hl];exact few) (λA' E' s' l vs n P hp ho q=>?_) h;obtain ⟨qs,hk,hq⟩:=hv vs hp;refine list_sort_tree ho (a9P hk) (by rw [hp.length_eq,qF,qS,hl];exact few) λout ns' h1 h2 h3=>q out ?_;rw [<-L3.sortI_eq (h2.trans hq) h3];exact h1
end
end L2.SX
namespace L2.L3
open PySem PySem.Spec PyProof.Rows
def c1P (X:Cx) (H0 Gz G:Hp) (ρ:List Ent) (H:Hp) (Q:Option Int->Hp->Prop):Re (Option Int)->Prop
 | .ok b=>∀ G' H',Grow G H G' H'->Q b H'
 | .ex c=>nO X H0 Gz G ρ c
def rO (X:Cx) (f:OF):TO:=λσ H Q=>∃ ρ r H0 Gz G,f ρ=some r/\RepS X.K H0 Gz G H σ ρ/\c1P X H0 Gz G ρ H Q r
structure DO (X:Cx) (e:Option Expr) (f:OF):Prop where
 run:PO X e (rO X f)
variable {a d:Expr} {fd:EF} {ns:List Str}
def bO {fa:OF} {β:Type} {k:Option Int->Mm β} {r:Re β} (R:RepS X.K H0 Gz G H σ ρ) (e:bnd (fa ρ) k=some r) {T:Option Int->Hp->Prop} (hx:∀ c,r=.ex c->nO X H0 Gz G ρ c)
  (h:∀ x G1 H1,Grow G H G1 H1->RepS X.K H0 Gz G1 H1 σ ρ->k x=some r->T x H1):rO X fa σ H T:=by
 rcases fE e with ⟨x,e1,e2⟩ | ⟨c,e1,e2⟩
 ·exact ⟨ρ,_,H0,Gz,G,e1,R,λG1 H1 g1=>h x G1 H1 g1 (R.more g1) e2⟩
 ·exact ⟨ρ,_,H0,Gz,G,e1,R,hx c e2⟩
def uZ:DO X none uR:=⟨λpq s σ H Q I ⟨ρ,r,H0,Gz,G,e,R,q⟩=>by
 cases (qA e)
 exact b4u pq s σ H Q I (q G H (.refl R.sub))⟩
def uY (ha:DE X a fa):DO X (some a) (rB fa):=⟨λpq s σ H Q I ⟨ρ,r,H0,Gz,G,e,R,q⟩=>by
 refine b4t ha.run pq s σ H Q I (bE R e (λc z=>by subst z;exact q) λx v G1 H1 g1 R1 rv e1=>?_);obtain ⟨k,ek,rfl⟩:=bW e1;cases x<;>simp only [intD,Option.map] at ek<;>cases ek
 cases rv
 exact ⟨_,rfl,q G1 H1 g1⟩⟩
def b3s (ha:DE X a fa) (hl:DO X lo fl) (hh:DO X hi fh):DE X (.Subscript a (.Slice lo hi none p2) pos) (slE fa fl fh):=⟨λpq s σ H Q I ⟨ρ,r,H0,Gz,G,e,R,q⟩=>
 a5z (b4f.or b1b) ha.run hl.run hh.run pq s σ H Q I (bE R e q.x λx v G1 H1 g1 R1 rv e1=>bO R1 e1 (q.more g1).x λl G2 H2 g2 R2 e2=>bO R2 e2 ((q.more g1).more g2).x λh G3 H3 g3 R3 e3=>by
  obtain ⟨d,ed,rfl⟩:=bW e3;have g23:=g2.trans g3;unfold slD at ed;split at ed
  ·cases (qA ed)
   cases rv with
   | list hq r=>
    refine .inl ⟨_,_,rfl,(g23.gg.trans g23.sub).seq hq,λl hl=>q _ _ _ ((g1.trans g23).trans (.put g23.sub hl)) ?_⟩;exact .list (.of aH) (a2d (r.mono (g23.gg.trans (bF (g23.sub.free hl)))) _ _)
  ·split at ed
   ·cases ed
   ·rename_i hw
    cases (qA ed);cases rv with
    | tuple hq r=>
     refine .inr ⟨_,_,rfl,lI (g23.gg.trans g23.sub) hq,by rw [r.length];exact hw,λl hl=>q _ _ _ ((g1.trans g23).trans (.put g23.sub hl)) ?_⟩;exact .tuple (.of aH) (a2d (r.mono (g23.gg.trans (bF (g23.sub.free hl)))) _ _)
  ·cases ed)⟩
def Inv.draws (I:Inv X pq σ H s):Inv X pq σ H { s with drawn:=d' }:=⟨I.ok,I.os,I.bare,I.base,I.loc,I.cell,I.free,I.freeC,I.pin,I.hok,I.len⟩
def a7K {α:Type} [DecidableEq α] (d:α) (ns:List α):SX.metK (λi=>ns.getD i d) ns.length=ns.foldl SX.addK []:=by
 unfold SX.metK;have:(qV ns.length).map (λi=>ns.getD i d)=ns:=by
  refine jb λi=>?_;rw [qQ];by_cases h:i<ns.length
  ·rw [kq h,qD h];simp [h]
  ·rw [qd (by simp;omega),qd (by omega)];rfl
 rw [this]
def yY (ns:T0s):SX.metK (λi=>ns.getD i 0) ns.length=mB ns:=a7K 0 ns
def a8I {ns:T0s} (h:ul vs ns):∀ (i:Nat) (v:Value),vs[i]?=some v->∃ t:Tok,v=wL (ns.getD i 0) t:=by
 induction h with
 | nil=>intro i v e;simp at e
 | cons n t _ ih=>
  intro i v e;cases i with
  | zero=>simp at e;exact ⟨t,by simp [<-e]⟩
  | succ i=>simpa using ih i v (by simpa using e)
def a6U:∀ {us:T0m},aU (ns.map V.str) us->StrsAre us ns:=by
 induction ns with
 | nil=>intro us r;cases r;exact .nil
 | cons n ns ih=>intro us r;cases r with | cons r1 r2=>obtain ⟨t,rfl⟩:=r1;exact .cons n t (ih r2)
theorem a2H:∀ {vs:T0m} {ns:T0q},StrsAre vs ns->aU (ns.map V.str) vs
 | _,_,.nil=>.nil
 | _,_,.cons n t h=>.cons ⟨t,rfl⟩ (a2H h)
theorem uO {K:qB} {G:Hp}:∀ ns:List Str,RepAll K G (ns.map V.str) (ns.map .str)
 | []=>.nil
 | _::r=>.cons (.str _) (uO r)
def a5r (h:StrsAre vs ns):vs.length=ns.length:=by induction h<;>simp [*]
def rL {a b c:Str} (h1:cH a b=true) (h2:cH b c=true):cH a c=true:=by
 unfold cH at *;simp only [zJ,decide_eq_false_iff_not,List.not_lt] at *;exact List.le_trans h1 h2
def mT (a b:Str):(cH a b || cH b a)=true:=by
 unfold cH;simp only [vz,zJ,decide_eq_false_iff_not,List.not_lt];exact List.le_total _ _
def a1G {a b:Str} (h1:cH a b=true) (h2:cH b a=true):a=b:=by
 unfold cH at *;simp only [zJ,decide_eq_false_iff_not,List.not_lt] at *;have e:=List.le_antisymm h1 h2;cases a;cases b;congr 1;exact Array.toList_inj.mp e
def oJ (ns:T0q):(tJ ns).Perm ns:=wH _ _
def uK (ns:T0q):(tJ ns).Pairwise (λa b=>cH a b=true):=vX (le:=cH) (λa b c h1 h2=>rL h1 h2) mT ns
theorem a2X:∀ (l:T0q) (p:Str),risingS p l=true->(p::l).Pairwise (λa b=>cH a b=true)
 | [],p,_=>zT _ _
 | x::r,p,h=>by
  have h':(!ltCps x.cps.toList p.cps.toList&&risingS x r)=true:=h;rw [qL] at h';have h1:cH p x=true:=by unfold cH;rw [<-ltCps_eq];exact h'.1
  have ih:=a2X r x h'.2;refine jV.mpr ⟨λy hy=>?_,ih⟩;rcases qI.mp hy with z | z
  ·rw [z];exact h1
  ·exact rL h1 ((jV.mp ih).1 y z)
def a9p (l:T0q) (h:sortedS l=true):l.Pairwise (λa b=>cH a b=true):=by
 cases l with
 | nil=>exact .nil
 | cons x r=>exact a2X r x h
theorem tZ:∀ {a b:T0q},a.Perm b->a.Pairwise (λa b=>cH a b=true)->b.Pairwise (λa b=>cH a b=true)->a=b
 | [],b,hp,_,_=>by rw [List.nil_perm.mp hp]
 | x::a,b,hp,ha,hb=>by
  match b,hp,hb with
  | [],hp,_=>exact absurd hp.length_eq (by simp)
  | y::b,hp,hb=>
   have h1:=jV.mp ha;have h2:=jV.mp hb;have e:x=y:=by
    rcases qI.mp (hp.mem_iff.mp (qf (a:=x) (l:=a))) with z | z
    ·exact z
    ·rcases qI.mp (hp.mem_iff.mpr (qf (a:=y) (l:=b))) with q | q
     ·exact q.symm
     ·exact a1G (h1.1 y q) (h2.1 x z)
   subst e;rw [tZ (List.Perm.cons_inv hp) h1.2 h2.2]
def b1a {ms:T0q} (hp:ms.Perm ns) (hs:sortedS ms=true):ms=tJ ns:=tZ (hp.trans (oJ ns).symm) (a9p ms hs) (uK ns)
section
variable {x:Str}
end
def anyB (ds:T0l):Option j0:=match ds with
 | [.list xs]=>(mF tR xs).map λns=>.bool (ns.any id)
 | _=>none
def range_any (bs:List Bool):(qV bs.length).any (λi=>bs.getD i false)=bs.any id:=by
 have:(qV bs.length).map (λi=>bs.getD i false)=bs:=by
  refine jb λi=>?_;rw [qQ];by_cases h:i<bs.length
  ·rw [kq h,qD h];simp [h]
  ·rw [qd (by simp;omega),qd (by omega)];rfl
 conv=>rhs;rw [<-this]
 rw [List.any_map];rfl
section
variable {x:Str}
def b0r (hc:X.calm=true):lB X (.builtin "any") (λxs H Q=>∃ (p:Addr) (bs:List Bool),xs=[.ref p]/\SqL X.K H p (bs.map V.bl)/\Q (.bl (bs.any id)) H):=by
 intro pq s σ H xs us Q I r ⟨p,bs,e,hq,q⟩;subst e;obtain ⟨u,rfl,rx⟩:=vals1 r;cases rx;obtain ⟨its,rv,pl,hz⟩:=I.list hq;have ev:=a7X rv;subst ev;have hl:=pl.isList;have lt:p<s.heap.objs.size:=by obtain ⟨o,g,_⟩:=hl;exact qN g
 refine call_any_walk (ui hl ?_);refine ⟨s.heap.objs.size,_,_,_,_,_,λi=>bs.getD i false,rfl,Walks.list (A:=X.A.in1) (I.ok.hd hc) _ p (qc lt) (bs.map zt).toArray,⟨⟨_,qJ _ rfl,rfl,rfl⟩,hl.push _⟩,λi v s' Q' E' hP hQ=>?_,λh' tk kp=>?_⟩
 ·have hP:(bs.map zt).toArray[i]?=some v:=hP
  rw [jP,qQ] at hP;cases eb:bs[i]? with
  | none=>rw [eb] at hP;cases hP
  | some b=>
   rw [eb] at hP;cases hP;refine ym ?_;have:bs.getD i false=b:=by rw [vV,eb];rfl
   rw [<-this];exact hQ
 ·have sz:(bs.map zt).toArray.size=bs.length:=by simp
  rw [sz,range_any];refine ⟨.bl _,H,I.kept (λb o g=>kp b o ?_ (qC _ g)),rfl,q⟩;intro hb;have z:b=s.heap.objs.size:=by simpa using hb
  exact absurd (qN g) (by rw [z];exact ji _)
def b8R (hc:X.calm=true) (ds:T0l) (d:j0) (h:anyB ds=some d):CallD X (.builtin "any") ds d:=by
 unfold anyB at h;split at h
 ·obtain ⟨ns,e,rfl⟩:=qU.mp h
  have:=iN (g:=.bool) (λd a q=>b3J q) e;subst this
  exact ⟨_,b0r hc,λvs G H Q s r q=>by
   cases r with | cons r rr=>cases rr;cases r with | list hq r=>
    have e:=r.bools;subst e
    exact ⟨_,ns,rfl,s.seq hq,q _ G H (.refl s) (.bool _)⟩⟩
 ·cases h
def a6e (x:j0) (ds:T0l):Option Bool:=if qb x&&ds.all qb then some (ds.any λd=>qw d x) else none
def inX (x y:j0):Option Bool:=match x with
 | .tuple _=>none
 | .list _=>none
 | _=>inD x y
def b4V (x y:j0):Option Bool:=(match tW y with | some ds=>a6e x ds | none=>none).map (!·)
def b9n (K:qB) (neg:Bool) (dx:j0) (ds:T0l):R2:=λx y H Q=>∃ p xs,y=.ref p/\(SqL K H p xs\/SqT K H p xs)/\Rep K H x dx/\RepAll K H xs ds/\qb dx=true/\ds.all qb=true/\Q (.bl (if neg then !(ds.any λd=>qw d dx) else ds.any λd=>qw d dx)) H
open Classical in
theorem a1R {pq:T0b} {s:Shared} {A:Around} (I:Inv X pq σ H s) (hu:A.units+64<cLine) {v:Value} {dx:j0} {bs:T0o} (rx:Reads s.heap v dx bs) (hx:qb dx=true) :
  ∀ {xs:List V} {ds:T0l} {us:T0m},RepAll X.K H xs ds->aU xs us->ds.all qb=true ->
   (∀ u∈us,SeqAt.EqAt A s u v (decide (∃ d as,Reads s.heap u d as/\qb d=true/\qw d dx=true)))/\us.any (λu=>decide (∃ d as,Reads s.heap u d as/\qb d=true/\qw d dx=true))=ds.any λd=>qw d dx
 | _,_,_,.nil,.nil,_=>⟨(λu hm=>by cases hm),rfl⟩
 | _,_,_,.cons (d:=d) r rr,.cons t tt,hs=>by
  rw [jG,qL] at hs;obtain ⟨h1,h2⟩:=a1R I hu rx hx rr tt hs.2;obtain ⟨as,ra⟩:=r.reads I (dB hs.1) t;have key0:∀ u,Reads s.heap u d as->decide (∃ d as,Reads s.heap u d as/\qb d=true/\qw d dx=true)=qw d dx:=by
   intro u ra;cases e:qw d dx with
   | true=>exact decide_eq_true ⟨d,as,ra,hs.1,e⟩
   | false=>
    refine decide_eq_false λ⟨d',as',r',s',e'⟩=>?_;rw [SeqAt.Reads.unique d d' _ _ _ (jj hs.1) ra r'] at e;rw [e] at e';cases e'
  have key:=key0 _ ra;refine ⟨λu hu'=>?_,by rw [jz,jz,key,h2]⟩;rcases qI.mp hu' with z | z
  ·subst z
   rw [key];exact SeqAt.eqAt_reads d dx A s _ v as bs ra rx (jj hs.1) (jj hx) (SeqAt.room_of_shaped hs.1 hu)
  ·exact h1 u z
open Classical in
theorem b7E (hu:X.A.in1.units+64<cLine) (dx:j0) (ds:T0l):OpR X (ww .In) (b9n X.K false dx ds):=by
 intro pq s σ H x y v u Q I rx ry h;obtain ⟨p,xs,rfl,hq,r1,r2,h1,h2,q⟩:=h;cases ry;obtain ⟨bs,rb⟩:=r1.reads I (dB h1) rx;rcases hq with hq | hq
 ·obtain ⟨its,r,pl,hz⟩:=I.list hq
  obtain ⟨e1,e2⟩:=a1R (A:=X.A.in1) I hu rb h1 r2 r h2;refine SeqAt.in_listAt _ pl.isList (λw hw=>e1 w (by simpa using hw)) ⟨.bl _,H,I,rfl,?_⟩;rw [<-vj,e2];exact q
 ·obtain ⟨its,r,pl,hz⟩:=I.tuple hq
  obtain ⟨e1,e2⟩:=a1R (A:=X.A.in1) I hu rb h1 r2 r h2;refine SeqAt.in_tupleAt _ pl (λw hw=>e1 w (by simpa using hw)) ⟨.bl _,H,I,rfl,?_⟩;rw [<-vj,e2];exact q
open Classical in
theorem b4I (hu:X.A.in1.units+64<cLine) (dx:j0) (ds:T0l):OpR X (ww .NotIn) (b9n X.K true dx ds):=by
 intro pq s σ H x y v u Q I rx ry h;obtain ⟨p,xs,rfl,hq,r1,r2,h1,h2,q⟩:=h;cases ry;obtain ⟨bs,rb⟩:=r1.reads I (dB h1) rx;rcases hq with hq | hq
 ·obtain ⟨its,r,pl,hz⟩:=I.list hq
  obtain ⟨e1,e2⟩:=a1R (A:=X.A.in1) I hu rb h1 r2 r h2;refine SeqAt.notIn_listAt _ pl.isList (λw hw=>e1 w (by simpa using hw)) ⟨.bl _,H,I,rfl,?_⟩;rw [<-vj,e2];exact q
 ·obtain ⟨its,r,pl,hz⟩:=I.tuple hq
  obtain ⟨e1,e2⟩:=a1R (A:=X.A.in1) I hu rb h1 r2 r h2;refine SeqAt.notIn_tupleAt _ pl (λw hw=>e1 w (by simpa using hw)) ⟨.bl _,H,I,rfl,?_⟩;rw [<-vj,e2];exact q
def b2C {hu:X.A.in1.units+64<cLine} {x y:j0} (e:tW y=some ds) (h:a6e x ds=some t):CmpD X .In x y t/\CmpD X .NotIn x y (!t):=by
 unfold a6e at h;split at h
 ·rename_i hz
  rw [qL] at hz;cases (qA h);refine ⟨⟨_,b7E hu x ds,λv u G H Q s rv ru q=>?_⟩,⟨_,b4I hu x ds,λv u G H Q s rv ru q=>?_⟩⟩
  ·obtain ⟨p,vs,rfl,hq,r⟩:=oK s e ru
   exact ⟨p,vs,rfl,hq,rv.mono s,r.mono s,hz.1,hz.2,q⟩
  ·obtain ⟨p,vs,rfl,hq,r⟩:=oK s e ru
   exact ⟨p,vs,rfl,hq,rv.mono s,r.mono s,hz.1,hz.2,q⟩
 ·cases h
def b2z (hu:X.A.in1.units+64<cLine) (x y:j0) (t:Bool) (h:inX x y=some t):CmpD X .In x y t:=by
 unfold inX at h;split at h
 ·cases h
 ·cases h
 ·exact b9W x y t h
def b4U (hu:X.A.in1.units+64<cLine) (x y:j0) (t:Bool) (h:b4V x y=some t):CmpD X .NotIn x y t:=by
 unfold b4V at h;obtain ⟨t',hq,rfl⟩:=qU.mp h;split at hq
 ·rename_i ds e;exact (b2C (hu:=hu) e hq).2
 ·cases hq
end
theorem _root_.L2.Room.units1 (r:Room k A):A.in1.units+64<cLine:=by
 have:=r.un;show A.units+1+64<cLine;omega
section
variable {x:Str}
end
def lX (ds:T0l):List j0:=(qV ds.length).map λ(k:Nat)=>.tuple [.int (k:Int),ds.getD k .none]
def b2V (fa:EF):AF:=λρ=>match fa ρ with
 | some (.ok (.list a))=>some (.ok (lX a))
 | _=>none
def Itn (K:qB) (l:Addr):It:=
 ⟨λi H=>∃ xs x,SqL K H l xs/\xs[i]?=some x,
 λi H v H'=>∃ T x,H T=none/\v=.ref T/\H'=upd H T (.tup [.int (i:Int),x])/\∀ xs,SqL K H l xs->xs[i]?=some x,
 λi H=>∃ xs,SqL K H l xs/\xs.length<=i⟩
def b6R (e it l:Addr) (i:Nat) (h:Heap):Prop:=(∃ old,IsEnum h e it i old)/\h.IsListIter it l i
def a9i {K:qB} {e:Addr} (hne:e≠it):Turn P w K (.Tuple pj k0 p0) (Itn K l) [e,it] e (b6R e it l) where
 mem:=by simp
 obj:=λi h ⟨⟨old,he⟩,⟨o1,g1,_,d1⟩⟩ c hc=>by
  simp only [qI,qp,or_false] at hc;rcases hc with rfl | rfl
  ·exact ⟨_,he,λv q=>by cases q⟩
  ·exact ⟨o1,g1,λv q=>by rw [d1] at q;cases q⟩
 keep:=λi h h' ⟨⟨old,he⟩,h1⟩ kp=>⟨⟨old,kp e (by simp) _ he⟩,h1.at λo q=>kp it (by simp) o q⟩
 item:=by
  intro X hP hw hK hc i pq s σ H E I hf ⟨⟨old,he⟩,h1⟩ ⟨xs,x,q1,ex⟩;subst hP hw hK;obtain ⟨its,r1,p1,_⟩:=I.list q1;obtain ⟨u,eu,ru⟩:=r1.get ex;refine wpAny_pyNext_enum_item he h1 p1.isList (x:=u) (by rw [jP];exact eu) hne λh' a1 a2 a3 a4 hk=>⟨_,rfl,?_⟩;refine wpAny_letOwnedTupleGo_enum a1 λh2' hz' hs'=>?_;have hk2:∀ c o,c∉[e,it]->s.heap.get? c=some o->h2'.get? c=some o:=λc o hc q=>by
   simp only [qI,qp,or_false,not_or] at hc;exact hs'.extBut c o hc.1 (hk c o hc.1 hc.2 q)
  have nT:s.heap.objs.size≠e:=jS (qN he);have new:cM X.prog X.w (upd H s.heap.objs.size (.tup [.int (i:Int),x])) h2' s.heap.objs.size (.tup [.int (i:Int),x]):=
   ⟨by show 2<=j5;decide,[.int i s.toks,u],.cons ⟨_,rfl⟩ (.cons ru .nil),⟨_,hs'.extBut _ _ nT a3,rfl,_,rfl⟩⟩
  have hfT:H s.heap.objs.size=none:=I.hok.fresh (qM _)
  refine ⟨.ref s.heap.objs.size,upd H s.heap.objs.size (.tup [.int (i:Int),x]),Inv.turnNew (s:=s) (h':=h2') (t':=s.toks+1) [e,it] I (λc hc=>hf c hc) hk2 (qM _) new,rfl,
   ⟨_,x,hfT,rfl,rfl,λxs' q=>by rw [I.list_inj q q1];exact ex⟩,⟨⟨u,hz'⟩,a2.extBut hs'.extBut (jT hne)⟩,λc hc=>?_⟩
  obtain ⟨o,q,_⟩:∃ o,s.heap.get? c=some o/\True:=by
   simp only [qI,qp,or_false] at hc;rcases hc with rfl | rfl
   ·exact ⟨_,he,trivial⟩
   ·obtain ⟨o,g,_⟩:=h1;exact ⟨o,g,trivial⟩
  rw [aE (qc (qN q))];exact (hf c hc).1
 done:=by
  intro X hP hw hK hc i pq s σ H E I hf ⟨⟨old,he⟩,h1⟩ ⟨xs,q1,hend⟩;subst hP hw hK;obtain ⟨its,r1,p1,_⟩:=I.list q1;have l1':=r1.length;refine wpAny_pyNext_enum_end (I.ok.hd hc) he h1 p1.isList (by rw [jP];exact qd (by omega)) λh' hk=>⟨rfl,Inv.turnAll (t':=s.toks) [e,it] I (λc hc=>hf c hc) λc o hc q=>?_⟩;simp only [qI,qp,or_false,not_or] at hc;exact hk c o hc.2 q
 self:=λA i s Q E ⟨⟨old,he⟩,_⟩ h=>u1 he h
def a8R (ds:T0l) (i:Nat):(lX ds)[i]?=(ds[i]?).map λd=>.tuple [.int (i:Int),d]:=by
 unfold lX;rw [qQ];by_cases h:i<ds.length
 ·rw [kq h,qD h];simp [h]
 ·rw [qd (by simp;omega),qd (by omega)];rfl
def a9g {K:qB} (h1:SqL K G l xs) (r1:RepAll K G xs ds):Walk K (Itn K l) G (lX ds):=by
 intro i G' H' s1 s2;have a1:=(s1.trans s2).seq h1;refine ⟨λd e=>?_,λhl=>⟨xs,a1,?_⟩⟩
 ·rw [a8R] at e
  obtain ⟨p,e1,rfl⟩:=qU.mp e;obtain ⟨v,ev,rv⟩:=r1.get e1;refine ⟨⟨xs,v,a1,ev⟩,λx H2 ⟨T,x',hT,ex,eH,b1⟩=>?_⟩;subst ex eH;have b3:=b1 xs a1;rw [ev] at b3;cases b3;have hG:G' T=none:=s2.free hT;exact ⟨upd G' T (.tup [.int (i:Int),v]),.put s2 hT,.tuple (.of aH) (.cons (.int _) (.cons ((rv.mono s1).mono (bF hG)) .nil))⟩
 ·unfold lX at hl
  rw [qF,qx] at hl;have e1:=r1.length;omega
def b5O (hm:X.mg "enumerate" = none) (ha:DE X a fa) (hs:j4 [a] X.env=(false,eval a X.env)::j4 [] X.env:=by rfl)
  (hpl:(v8 pos (j4 [] X.env)).any (·.1)=false:=by rfl) (hg:Gl X "enumerate":=by rfl):DI X (.Tuple pj k0 p0) (.Call (.Name "enumerate" p) [a] [] pos) (b2V fa):=a3N λρ r e=>by
 unfold b2V at e;split at e
 ·rename_i as e1
  refine ⟨_,(qA e).symm,⟨?_⟩⟩;intro pq s σ H R I ⟨H0,Gz,G,S,q⟩;have pa:=gI (ha.pd e1) mR hs;refine k9 (iV I hg hm boot_enumerate ?_ (by decide) (by decide));refine jq (thn (pa.run H0 Gz G pos pq s σ H (λvs H'=>∃ G',Grow G H G' H'/\RepAll X.K G' vs [.list as]) I S λvs G' H' g r=>⟨G',g,r⟩) λus s1 ⟨vs,H1,I1,r1,G1,g1,w1⟩=>?_) hs hpl;cases w1 with
  | cons wa wn=>
   cases wn;cases wa with
   | list hq ra=>
    obtain ⟨u,rfl,ru⟩:=vals1 r1;cases ru;obtain ⟨its,r1',p1,_⟩:=I1.list (g1.sub.seq hq);refine call_enumerate_list p1.isList λh' z1 z2 z3 hk=>?_;refine u1 z1 ?_;refine ⟨s1.heap.objs.size+1,[s1.heap.objs.size+1,s1.heap.objs.size],_,_,H1,rfl,I1.kept (h':=h') (t':=s1.toks) (λb o e=>hk b o e),a9i (Nat.succ_ne_self _),⟨⟨_,z1⟩,z2⟩,λc hc=>?_,q _ G1 H1 g1 (a9g hq ra)⟩;have ge:s1.heap.objs.size<=c:=by
     simp only [qI,qp,or_false] at hc;rcases hc with h | h<;>rw [h]<;>first | exact ve _ _ | exact qM _
    exact I1.fpOk ge (I1.hok.fresh ge)
 ·cases e
end L2.L3
namespace L2.ZT
open PySem PyProof.Rows
variable {c t:Addr} {xs:Array Value}
section
def tup_next {x:Value} (hc:s.heap.IsTupleIter c t i) (ht:s.heap.IsTuple t xs) (hx:xs[i]?=some x)
  (q:∀ k,k.IsTupleIter c t (i+1)->kj c s.heap k->Q x { s with heap:=k }):wpAny (model prog w) A (jW (.ref c)) Q E s:=by
 obtain ⟨oc,gc,ec,dc⟩:=id hc;obtain ⟨ot,gt,_,nt,dt⟩:=ht;unfold jW;refine q8 (j9 (name:=jB "__next__") hc.typeIs zR (j7 zR hc.typeIs F.entry_tuple_iterator_next ?_ (F.args_tuple_iterator_next_1 _)));show wpAny _ _ (field (.ref c) 0>>=_) _ _ s;refine q8 (w9 gc dc (x:=.ref t) rfl ?_);show wpAny _ _ (if (jU t==jf)=true then _ else _) _ _ s;rw [if_neg (λz=>by cases z)];show wpAny _ _ (field (.ref c) 1>>=_) _ _ s;refine q8 (w9 gc dc (x:=.int i 0) rfl ?_);show wpAny _ _ (uh (.ref t)>>=_) _ _ s;refine q8 (wu gt dt ?_);simp only [qz,hx];refine q8 (wpAny_setField gc dc (by simp) (j3 ⟨x,rfl,j3 (q _ ?_ (kU ..))⟩));refine ⟨_,kJ _ gc (Obj.isFreed_of_fields (Obj.data_mapFields dc _)),(Obj.cls_mapFields ..).trans ec,?_⟩;rw [Obj.data_mapFields dc];simp [v7]
def tup_stop (hh:A.handled=none) (hc:s.heap.IsTupleIter c t i) (ht:s.heap.IsTuple t xs) (hx:xs[i]?=none)
  (q:∀ k e,Heap.ExtBut c s.heap k->(∃ o,k.get? e=some o/\o.cls=.type "StopIteration")->E (.ref e) { s with heap:=k }):wpAny (model prog w) A (jW (.ref c)) Q E s:=by
 obtain ⟨oc,gc,ec,dc⟩:=id hc;obtain ⟨ot,gt,_,nt,dt⟩:=ht;unfold jW;refine q8 (j9 (name:=jB "__next__") hc.typeIs zR (j7 zR hc.typeIs F.entry_tuple_iterator_next ?_ (F.args_tuple_iterator_next_1 _)));show wpAny _ _ (field (.ref c) 0>>=_) _ _ s;refine q8 (w9 gc dc (x:=.ref t) rfl ?_);show wpAny _ _ (if (jU t==jf)=true then _ else _) _ _ s;rw [if_neg (λz=>by cases z)];show wpAny _ _ (field (.ref c) 1>>=_) _ _ s;refine q8 (w9 gc dc (x:=.int i 0) rfl ?_);show wpAny _ _ (uh (.ref t)>>=_) _ _ s;refine q8 (wu gt dt ?_);simp only [qz,hx];refine q8 (yd (q8 (wpAny_setField gc dc (by simp) ?_)));unfold Builtin.SmallTypes.stopIteration;refine q8 ?_;simp only [newExc,newTuple];refine q8 (j8 ?_ (by size_fits));refine q8 (m:=yw _ _) (ux (a:=jf) (by simp only [yw];rfl) ?_);refine j8 ?_ (by size_fits);simp only [QS];refine q8 (QO ?_);rw [show A.in1.handled=none from hh];refine q8 (j3 (wpAny_throw (q _ _ ?_ ⟨_,qJ _ rfl,rfl⟩)));exact ((kU ..).extBut.push _).push _
variable {TI TO d u:Addr} {a b:Value}
end
abbrev itT (l:Addr):Obj:={ cls:=.type "tuple_iterator", data:=.fields #[.ref l,.int 0 0] }
end L2.ZT
namespace L2.L3
open PySem PySem.Spec PyProof.Rows
def Itt (K:qB) (l1 l2:Addr):It:=
 ⟨λi H=>∃ xs ys x y,SqT K H l1 xs/\SqT K H l2 ys/\xs[i]?=some x/\ys[i]?=some y,
 λi H v H'=>∃ T x y,H T=none/\v=.ref T/\H'=upd H T (.tup [x,y])/\(∀ xs,SqT K H l1 xs->xs[i]?=some x)/\∀ ys,SqT K H l2 ys->ys[i]?=some y,
 λi H=>∃ xs ys,SqT K H l1 xs/\SqT K H l2 ys/\(xs.length<=i\/ys.length<=i)⟩
section
variable {a:Expr}
end
end L2.L3
namespace L2.L3
open PySem PySem.Spec PyProof.Rows PySem.W PySem.Builtin PySem.Builtin.ObjectAttr PySem.Builtin.Getset_descriptor
section
variable {K:Frag} {D:Addr} {ox:Obj}
end
end L2.L3
namespace L2.L3
open PySem PySem.Spec PyProof.Rows
def CX1 (P:Program) (w:World):CXT:=λouter H s E e s'=>∃ a C H',e=.ref a/\E (.ref C) none H'/\s'.os=s.os/\QC s'.gens/\Un (frs outer) [] H H' s.heap s'.heap/\HOk P w H' s'.heap/\ExcAt (λb=>s.heap.get? b=none) H' a C s'.heap
section
variable {K:qB} {x:Str} {F:List j0->Mm j0}
end
section
variable {K:qB}
end
section
variable {x:Str}
end
section
variable {K:qB} {x y:Str} {F:Str->Mm j0}
end
section
variable {env:Env}
end
section
variable {σ:List (Option V)} {fr:Addr->Prop}
end
section
variable {cap:T0e} {t:Tg}
end
end L2.L3
namespace L2.ST
open PySem PySem.W PyProof.Rows
section
variable {α β:Type} {lt:Nat->Nat->Bool}
def run (lt:Nat->Nat->Bool):KasT α->α
 | .ret a=>a
 | .ask i j k=>run lt (k (lt i j))
def asks (n:Nat) (lt:Nat->Nat->Bool):KasT α->Prop
 | .ret _=>True
 | .ask i j k=>i<n/\j<n/\asks n lt (k (lt i j))
def Hq (n:Nat) (lt:Nat->Nat->Bool) (t:KasT α) (Q:α->Prop):Prop:=asks n lt t/\Q (run lt t)
def lS {a:α} {Q:α->Prop} (h:Q a):Hq n lt (.ret a) Q:=⟨trivial,h⟩
def yO {k:Bool->KasT α} {Q:α->Prop} (hi:i<n) (hj:j<n) (h:Hq n lt (k (lt i j)) Q):Hq n lt (.ask i j k) Q:=⟨⟨hi,hj,h.1⟩,h.2⟩
theorem sY {f:α->KasT β} {Q:β->Prop}:∀ {t:KasT α},Hq n lt t (λa=>Hq n lt (f a) Q)->Hq n lt (t.bind f) Q
 | .ret _,h=>h.2
 | .ask i j k,h=>yO h.1.1 h.1.2.1 (sY (t:=k (lt i j)) ⟨h.1.2.2,h.2⟩)
def lC {t:KasT α} {Q Q':α->Prop} (h:Hq n lt t Q) (hq:∀ a,Q a->Q' a):Hq n lt t Q':=⟨h.1,hq _ h.2⟩
theorem wp_run {cmp:Nat->Nat->(Bool->Shared->Prop)->Shared->Prop} {s:Shared} (hc:∀ i j C,i<n->j<n->C (lt i j) s->cmp i j C s):∀ (t:KasT α) {Q:α->Shared->Prop},asks n lt t->Q (run lt t) s->t.kasWp cmp Q s
 | .ret _,_,_,h=>h
 | .ask i j k,Q,a,h=>hc i j _ a.1 a.2.1 (wp_run hc (k (lt i j)) a.2.2 h)
end
variable {p:Array Nat}
section
variable {r:Nat->Int}
def vl (r:Nat->Int) (p:Array Nat) (k:Nat):Int:=r (p.getD k 0)
def ltr (r:Nat->Int) (i j:Nat):Bool:=decide (r i<r j)
def Up (r:Nat->Int) (p:Array Nat) (k:Nat):Prop:=∀ i j,i<=j->j<k->vl r p i<=vl r p j
def uI (r:Nat->Int) (p:Array Nat) (k:Nat):Prop:=∀ i j,i<=j->j<k->vl r p j<=vl r p i
structure Pm (n:Nat) (p:Array Nat):Prop where
 size:p.size=n
 perm:p.Perm (qV n).toArray
theorem Pm.lt (h:Pm n p) (hn:0<n) (k:Nat):p.getD k 0<n:=by
 by_cases hk:k<p.size
 ·have e:p.getD k 0=p[k]:=by simp [vW,hk]
  rw [e];have:p[k]∈(qV n).toArray:=h.perm.mem_iff.mp (Array.getElem_mem hk);simpa using this
 ·have e:p.getD k 0=0:=by simp [vW,hk]
  rw [e];exact hn
theorem Pm.rev (h:Pm n p) (i j:Nat):Pm n (kas_rev p i j):=⟨by unfold kas_rev;rw [mirror_size];exact h.size,(mirror_perm _ _ _ _).trans h.perm⟩
theorem Pm.bub (h:Pm n p) (i j:Nat):Pm n (bubble p i j):=⟨by rw [bubble_size];exact h.size,(bubble_perm _ _ _).trans h.perm⟩
def uV {q:Array Nat} (h:p[i]?=q[j]?):p.getD i 0=q.getD j 0:=by
 rw [Array.getD_eq_getD_getElem?,Array.getD_eq_getD_getElem?,h]
def a6M (hj:j<=p.size) (k:Nat):vl r (kas_rev p i j) k=if i<=k/\k<j then vl r p (i+j - 1 - k) else vl r p k:=by
 have e:=getElem?_mirror_all (i:=i) hj k;unfold vl kas_rev;by_cases h:i<=k/\k<j
 ·rw [if_pos h] at e ⊢;rw [uV e]
 ·rw [if_neg h] at e ⊢;rw [uV e]
def b0N {src d:Nat} (hs:src<p.size) (hd:d<=src) (k:Nat):vl r (bubble p src d) k=if k=src - d then vl r p src else if src - d<k/\k<=src then vl r p (k - 1) else vl r p k:=by
 have e:=getElem?_bubble hs d hd k;unfold vl;by_cases h:k=src - d
 ·rw [if_pos h] at e ⊢;rw [uV e]
 ·rw [if_neg h] at e ⊢
  by_cases h2:src - d<k/\k<=src
  ·rw [if_pos h2] at e ⊢;rw [uV e]
  ·rw [if_neg h2] at e ⊢;rw [uV e]
def Up.snoc (h:Up r p k) (hk:0<k) (hl:vl r p (k - 1)<=vl r p k):Up r p (k+1):=λi j hij hj=>by
 by_cases e:j=k
 ·subst e
  by_cases e2:i=j
  ·subst e2;exact jd _
  ·exact km (h i (j - 1) (by omega) (by omega)) hl
 ·exact h i j hij (by omega)
def uI.snoc (h:uI r p k) (hk:0<k) (hl:vl r p k<=vl r p (k - 1)):uI r p (k+1):=λi j hij hj=>by
 by_cases e:j=k
 ·subst e
  by_cases e2:i=j
  ·subst e2;exact jd _
  ·exact km hl (h i (j - 1) (by omega) (by omega))
 ·exact h i j hij (by omega)
theorem b2F (P:Pm n p) (hn:0<n):∀ (f m:Nat),0<m->Up r p m->Hq n (ltr r) (kas_asc p f m) (λk=>m<=k/\k<=m+f/\Up r p k/\(k<m+f->vl r p k<vl r p (k - 1)))
 | 0,m,hm,h=>lS ⟨qM _,qM _,h,λz=>absurd z (by omega)⟩
 | f+1,m,hm,h=>by
  refine yO (P.lt hn _) (P.lt hn _) ?_;by_cases c:r (p.getD m 0)<r (p.getD (m - 1) 0)
  ·rw [show ltr r (p.getD m 0) (p.getD (m - 1) 0)=true from decide_eq_true c,if_pos rfl]
   exact lS ⟨qM _,by omega,h,λ_=>c⟩
  ·rw [show ltr r (p.getD m 0) (p.getD (m - 1) 0)=false from decide_eq_false c,if_neg (by simp)]
   exact lC (b2F P hn f (m+1) (by omega) (h.snoc hm (wW.mp c))) λk ⟨a,b,c,d⟩=>⟨by omega,by omega,c,λz=>d (by omega)⟩
def a4e (hj:j<=p.size) (he:∀ k,i<=k->k<j->vl r p k=vl r p (j - 1)) (k:Nat):vl r (kas_rev p i j) k=vl r p k:=by
 rw [a6M hj];by_cases h:i<=k/\k<j
 ·rw [if_pos h,he _ (by omega) (by omega),he k h.1 h.2]
 ·rw [if_neg h]
def uI.cong {p':Array Nat} (e:∀ k,vl r p' k=vl r p k) (h:uI r p k):uI r p' k:=λi j a b=>by rw [e,e];exact h i j a b
theorem a4N (hn:0<n):∀ (f:Nat) (p:Array Nat) (m q:Nat),Pm n p->q<m->m+f<=n->uI r p m->(∀ k,m - (q+1)<=k->k<m->vl r p k=vl r p (m - 1)) ->
  Hq n (ltr r) (kas_desc f p m q) (λx=>Pm n x.1/\m<=x.2.1/\x.2.1<=m+f/\x.2.2<x.2.1/\uI r x.1 x.2.1/\∀ k,x.2.1 - (x.2.2+1)<=k->k<x.2.1->vl r x.1 k=vl r x.1 (x.2.1 - 1))
 | 0,p,m,q,P,hq,hm,hd,he=>lS ⟨P,qM _,qM _,hq,hd,he⟩
 | f+1,p,m,q,P,hq,hm,hd,he=>by
  have one:∀ p':Array Nat,∀ k,m+1 - (0+1)<=k->k<m+1->vl r p' k=vl r p' (m+1 - 1):=λp' k a b=>by rw [show k=m+1 - 1 by omega]
  refine yO (P.lt hn _) (P.lt hn _) ?_;by_cases c:r (p.getD m 0)<r (p.getD (m - 1) 0)
  ·rw [show ltr r (p.getD m 0) (p.getD (m - 1) 0)=true from decide_eq_true c,if_pos rfl]
   have hd':=hd.snoc (by omega) (zF c);by_cases q0:q > 0
   ·rw [if_pos q0]
    have e:=a4e (i:=m - (q+1)) (j:=m) (by rw [P.size];omega) he;exact lC (a4N hn f _ (m+1) 0 (P.rev _ _) (by omega) (by omega) (hd'.cong e) (one _)) λx ⟨a,b,c,d,e,g⟩=>⟨a,by omega,by omega,d,e,g⟩
   ·rw [if_neg q0]
    exact lC (a4N hn f _ (m+1) 0 P (by omega) (by omega) hd' (one _)) λx ⟨a,b,c,d,e,g⟩=>⟨a,by omega,by omega,d,e,g⟩
  ·rw [show ltr r (p.getD m 0) (p.getD (m - 1) 0)=false from decide_eq_false c,if_neg (by simp)]
   refine yO (P.lt hn _) (P.lt hn _) ?_;by_cases c2:r (p.getD (m - 1) 0)<r (p.getD m 0)
   ·rw [show ltr r (p.getD (m - 1) 0) (p.getD m 0)=true from decide_eq_true c2,if_pos rfl]
    exact lS ⟨P,qM _,ve _ _,hq,hd,he⟩
   ·rw [show ltr r (p.getD (m - 1) 0) (p.getD m 0)=false from decide_eq_false c2,if_neg (by simp)]
    have eq:vl r p m=vl r p (m - 1):=by unfold vl;omega
    refine lC (a4N hn f p (m+1) (q+1) P (by omega) (by omega) (hd.snoc (by omega) (by omega)) λk a b=>?_) λx ⟨a,b,c,d,e,g⟩=>⟨a,by omega,by omega,d,e,g⟩;rw [show m+1 - 1=m by omega,eq];by_cases e2:k=m
    ·rw [e2,eq]
    ·exact he k (by omega) (by omega)
theorem uI.rev {m:Nat} (P:Pm n p) (hm:m<=n) (h:uI r p m):Up r (kas_rev p 0 m) m:=λi j hij hj=>by
 rw [a6M (by rw [P.size];omega),a6M (by rw [P.size];omega),if_pos (by omega),if_pos (by omega)];exact h _ _ (by omega) (by omega)
abbrev b8U (r:Nat->Int) (n:Nat) (x:Nat×Array Nat):Prop:=Pm n x.2/\0<x.1/\x.1<=n/\Up r x.2 x.1
def b2E (hn:0<n) {m:Nat} (P:Pm n p) (h0:0<m) (hm:m<=n) (hd:uI r p m):Hq n (ltr r) (kas_tail3 m n p) (b8U r n):=by
 unfold kas_tail3;refine sY (lC (b2F (P.rev 0 m) hn (n - m) m h0 (hd.rev P hm)) λk ⟨a,b,c,d⟩=>lS ⟨P.rev 0 m,by show 0<k;omega,by show k<=n;omega,c⟩)
def a1S (hn:0<n) {m:Nat} (P:Pm n p) (hm:m+1<=n) (hd:uI r p (m+1)):Hq n (ltr r) (kas_descPart m n p) (b8U r n):=by
 unfold kas_descPart;refine sY (lC (a4N hn (n - (m+1)) p (m+1) 0 P (by omega) (by omega) hd (λk a b=>by rw [show k=m+1 - 1 by omega])) λx ⟨a,b,c,d,e,g⟩=>?_);by_cases h:x.2.2 > 0
 ·rw [if_pos h]
  exact b2E hn (a.rev _ _) (by omega) (by omega) (e.cong (a4e (by rw [a.size];omega) g))
 ·rw [if_neg h]
  exact b2E hn a (by omega) (by omega) e
def b5v (hn:0<n) (P:Pm n p):Hq n (ltr r) (kas_count n p) (b8U r n):=by
 unfold kas_count;refine sY (lC (b2F P hn (n - 1) 1 (by decide) (λi j a b=>by rw [show i=j by omega];exact jd _)) λm ⟨a,b,c,d⟩=>?_);by_cases h:(m==n)=true
 ·rw [if_pos h]
  exact lS ⟨P,by show 0<m;omega,by show m<=n;omega,c⟩
 ·rw [if_neg h]
  have hmn:m<n:=by have:m≠n:=λz=>h (by rw [z];simp);omega
  have dr:=d (by omega);by_cases h1:m > 1
  ·rw [if_pos h1]
   refine yO (P.lt hn _) (P.lt hn _) ?_;by_cases c2:r (p.getD 0 0)<r (p.getD (m - 1) 0)
   ·rw [show ltr r (p.getD 0 0) (p.getD (m - 1) 0)=true from decide_eq_true c2,if_pos rfl]
    exact lS ⟨P,by show 0<m;omega,by show m<=n;omega,c⟩
   ·rw [show ltr r (p.getD 0 0) (p.getD (m - 1) 0)=false from decide_eq_false c2,if_neg (by simp)]
    have eqs:∀ k,k<m->vl r p k=vl r p (m - 1):=λk hk=>by
     have a1:=c 0 k (qt _) hk;have a2:=c k (m - 1) (by omega) (by omega);have a3:vl r p (m - 1)<=vl r p 0:=wW.mp c2;omega
    have e:=a4e (r:=r) (i:=0) (j:=m) (by rw [P.size];omega) (λk _ hk=>eqs k hk);refine a1S hn (P.rev 0 m) (by omega) (uI.cong e ?_);refine uI.snoc (λi j hij hj=>?_) (by omega) (zF dr);rw [eqs i (by omega),eqs j hj];exact jd _
  ·rw [if_neg h1]
   refine a1S hn P (by omega) (uI.snoc (λi j hij hj=>?_) (by omega) (zF dr));rw [show i=j by omega];exact jd _
theorem a4M (hn:0<n) (P:Pm n p) {k:Nat} (hu:Up r p k):∀ (f l u:Nat),l<=u->u<=k->u - l<=f->(∀ i,i<l->vl r p i<=vl r p k)->(∀ i,u<=i->i<k->vl r p k<vl r p i) ->
  Hq n (ltr r) (kas_place p k f l u) (λx=>x<=k/\(∀ i,i<x->vl r p i<=vl r p k)/\∀ i,x<=i->i<k->vl r p k<vl r p i)
 | 0,l,u,h1,h2,h3,a,b=>lS ⟨by omega,a,λi hi hk=>b i (by omega) hk⟩
 | f+1,l,u,h1,h2,h3,a,b=>by
  unfold kas_place;by_cases h:l>=u
  ·rw [if_pos h];exact lS ⟨by omega,a,λi hi hk=>b i (by omega) hk⟩
  ·rw [if_neg h]
   refine yO (P.lt hn _) (P.lt hn _) ?_;by_cases c:r (p.getD k 0)<r (p.getD ((l+u) / 2) 0)
   ·rw [show ltr r (p.getD k 0) (p.getD ((l+u) / 2) 0)=true from decide_eq_true c,if_pos rfl]
    refine a4M hn P hu f l ((l+u) / 2) (by omega) (by omega) (by omega) a λi hi hk=>?_;have c':vl r p k<vl r p ((l+u) / 2):=c;exact Int.lt_of_lt_of_le c' (hu _ _ hi hk)
   ·rw [show ltr r (p.getD k 0) (p.getD ((l+u) / 2) 0)=false from decide_eq_false c,if_neg (by simp)]
    refine a4M hn P hu f ((l+u) / 2+1) u (by omega) (by omega) (by omega) (λi hi=>?_) b;have c':vl r p ((l+u) / 2)<=vl r p k:=wW.mp c;exact km (hu i ((l+u) / 2) (by omega) (by omega)) c'
theorem b6C (hn:0<n):∀ (f:Nat) (p:Array Nat) (k:Nat),Pm n p->0<k->k+f=n->Up r p k->Hq n (ltr r) (kas_bin f p k) (λq=>Pm n q/\Up r q n)
 | 0,p,k,P,_,hk,hu=>lS ⟨P,by rw [show n=k by omega];exact hu⟩
 | f+1,p,k,P,h0,hk,hu=>by
  unfold kas_bin;refine sY (lC (a4M hn P hu k 0 k (qt _) (qM _) (by omega) (λi hi=>absurd hi (by omega)) (λi hi hk=>absurd hi (by omega))) λl ⟨a,b,c⟩=>?_);refine b6C hn f _ (k+1) (P.bub _ _) (by omega) (by omega) λi j hij hj=>?_;have hs:k<p.size:=by rw [P.size];omega
  have ei:=b0N (r:=r) hs (show k - l<=k by omega) i;have ej:=b0N (r:=r) hs (show k - l<=k by omega) j;rw [show k - (k - l)=l by omega] at ei ej;rw [ei,ej];by_cases i1:i=l
  ·rw [if_pos i1]
   by_cases j1:j=l
   ·rw [if_pos j1];exact jd _
   ·rw [if_neg j1,if_pos (by omega)];exact zF (c (j - 1) (by omega) (by omega))
  ·rw [if_neg i1]
   by_cases i2:l<i/\i<=k
   ·rw [if_pos i2,if_neg (by omega),if_pos (by omega)];exact hu _ _ (by omega) (by omega)
   ·rw [if_neg i2]
    by_cases j1:j=l
    ·rw [if_pos j1];exact b i (by omega)
    ·rw [if_neg j1]
     by_cases j2:l<j/\j<=k
     ·rw [if_pos j2];exact hu _ _ (by omega) (by omega)
     ·rw [if_neg j2];exact hu _ _ hij (by omega)
def h_sort (hn:2<=n):Hq n (ltr r) (kas_sort n) (λq=>Pm n q/\Up r q n):=by
 unfold kas_sort;refine sY (lC (b5v (by omega) ⟨by simp,Array.Perm.refl _⟩) λx ⟨a,b,c,d⟩=>?_);by_cases h:x.1<n
 ·rw [if_pos h,show max x.1 1=x.1 by omega]
  exact b6C (by omega) _ _ _ a b (by omega) d
 ·rw [if_neg h]
  exact lS ⟨a,by rw [show n=x.1 by omega];exact d⟩
end
end L2.ST
namespace L2.L3
open PySem PySem.Spec PyProof.Rows
def ltC:j0->j0->Bool
 | .int a,.int b=>decide (a<b)
 | .str a,.str b=>!cH b a
 | _,_=>false
def eqC:j0->j0->Bool
 | .int a,.int b=>a==b
 | .str a,.str b=>a==b
 | _,_=>false
def ltR:List j0->List j0->Bool
 | a::r,b::s=>if eqC a b then ltR r s else ltC a b
 | _,_=>false
def eO:List Bool->List j0->Bool
 | [],[]=>true
 | true::g,.int _::r=>eO g r
 | false::g,.str _::r=>eO g r
 | _,_=>false
variable {a:List j0}
def mN (h:eO [] a=true):a=[]:=by
 cases a with
 | nil=>rfl
 | cons x r=>cases x<;>cases h
def sig_int (h:eO (true::g) a=true):∃ i r,a=.int i::r/\eO g r=true:=by
 cases a with
 | nil=>cases h
 | cons x r=>cases x<;>first | exact ⟨_,_,rfl,h⟩ | cases h
def sig_str (h:eO (false::g) a=true):∃ i r,a=.str i::r/\eO g r=true:=by
 cases a with
 | nil=>cases h
 | cons x r=>cases x<;>first | exact ⟨_,_,rfl,h⟩ | cases h
def a7v (a:Str):cH a a=true:=by have:=mT a a;rwa [Bool.or_self] at this
theorem a4I:∀ (g:List Bool) (a:T0l),eO g a=true->ltR a a=false
 | [],a,h=>by rw [mN h];rfl
 | true::g,a,h=>by
  obtain ⟨i,r,rfl,h⟩:=sig_int h;simp [ltR,eqC,a4I g r h]
 | false::g,a,h=>by
  obtain ⟨i,r,rfl,h⟩:=sig_str h;simp [ltR,eqC,a4I g r h]
theorem a4H:∀ (g:List Bool) (a b:T0l),eO g a=true->eO g b=true->ltR a b=true\/a=b\/ltR b a=true
 | [],a,b,h,h'=>by rw [mN h,mN h'];exact .inr (.inl rfl)
 | true::g,a,b,h,h'=>by
  obtain ⟨i,r,rfl,h⟩:=sig_int h;obtain ⟨j,q,rfl,h'⟩:=sig_int h';by_cases e:i=j
  ·subst e
   rcases a4H g r q h h' with z | z | z
   ·exact .inl (by simp [ltR,eqC,z])
   ·exact .inr (.inl (by rw [z]))
   ·exact .inr (.inr (by simp [ltR,eqC,z]))
  ·by_cases l:i<j
   ·exact .inl (by simp [ltR,eqC,e,ltC,l])
   ·exact .inr (.inr (by have:¬j=i:=λz=>e z.symm;simp [ltR,eqC,this,ltC];omega))
 | false::g,a,b,h,h'=>by
  obtain ⟨i,r,rfl,h⟩:=sig_str h;obtain ⟨j,q,rfl,h'⟩:=sig_str h';by_cases e:i=j
  ·subst e
   rcases a4H g r q h h' with z | z | z
   ·exact .inl (by simp [ltR,eqC,z])
   ·exact .inr (.inl (by rw [z]))
   ·exact .inr (.inr (by simp [ltR,eqC,z]))
  ·have e':¬j=i:=λz=>e z.symm
   cases l:cH j i with
   | false=>exact .inl (by simp [ltR,eqC,e,ltC,l])
   | true=>
    cases l2:cH i j with
    | false=>exact .inr (.inr (by simp [ltR,eqC,e',ltC,l2]))
    | true=>exact absurd (a1G l2 l) e
theorem a7u:∀ (g:List Bool) (a b c:T0l),eO g a=true->eO g b=true->eO g c=true->ltR a b=true->ltR b c=true->ltR a c=true
 | [],a,b,c,h,_,_,z,_=>by rw [mN h] at z;cases z
 | true::g,a,b,c,h,h',h'',z,z'=>by
  obtain ⟨i,r,rfl,h⟩:=sig_int h;obtain ⟨j,q,rfl,h'⟩:=sig_int h';obtain ⟨k,u,rfl,h''⟩:=sig_int h'';simp only [ltR,eqC,ltC,beq_iff_eq] at z z' ⊢;by_cases e:i=j
  ·subst e
   rw [if_pos rfl] at z;by_cases e2:i=k
   ·subst e2;rw [if_pos rfl] at z' ⊢;exact a7u g r q u h h' h'' z z'
   ·rw [if_neg e2] at z' ⊢;exact z'
  ·rw [if_neg e] at z
   by_cases e2:j=k
   ·subst e2;rw [if_neg e];exact z
   ·rw [if_neg e2] at z'
    rw [decide_eq_true_eq] at z z';rw [if_neg (by omega)];exact decide_eq_true (by omega)
 | false::g,a,b,c,h,h',h'',z,z'=>by
  obtain ⟨i,r,rfl,h⟩:=sig_str h;obtain ⟨j,q,rfl,h'⟩:=sig_str h';obtain ⟨k,u,rfl,h''⟩:=sig_str h'';simp only [ltR,eqC,ltC,beq_iff_eq] at z z' ⊢;by_cases e:i=j
  ·subst e
   rw [if_pos rfl] at z;by_cases e2:i=k
   ·subst e2;rw [if_pos rfl] at z' ⊢;exact a7u g r q u h h' h'' z z'
   ·rw [if_neg e2] at z' ⊢;exact z'
  ·rw [if_neg e] at z
   by_cases e2:j=k
   ·subst e2;rw [if_neg e];exact z
   ·rw [if_neg e2] at z'
    have z1:cH j i=false:=by simpa using z
    have z2:cH k j=false:=by simpa using z'
    have y1:cH i j=true:=by have:=mT i j;rw [z1,wQ] at this;exact this
    have y2:cH j k=true:=by have:=mT j k;rw [z2,wQ] at this;exact this
    have z3:cH k i=false:=by
     cases q3:cH k i with
     | false=>rfl
     | true=>rw [rL q3 y1] at z2;cases z2
    have e3:¬i=k:=λw=>by subst w;rw [a7v] at z3;cases z3
    rw [if_neg e3,z3];rfl
def ltT:j0->j0->Bool
 | .tuple a,.tuple b=>ltR a b
 | _,_=>false
def cE (g:List Bool):j0->Bool
 | .tuple a=>eO g a
 | _=>false
def iF (h:cE g d=true):∃ a,d=.tuple a/\eO g a=true:=by
 cases d<;>first | exact ⟨_,rfl,h⟩ | cases h
section
variable {a b c:j0}
def a4G (h:cE g a=true):ltT a a=false:=by obtain ⟨x,rfl,h⟩:=iF h;exact a4I g x h
def a0M (h:cE g a=true) (h':cE g b=true):ltT a b=true\/a=b\/ltT b a=true:=by
 obtain ⟨x,rfl,h⟩:=iF h;obtain ⟨y,rfl,h'⟩:=iF h';exact (a4H g x y h h').imp id (Or.imp (λe=>by rw [e]) id)
def a4F (h:cE g a=true) (h':cE g b=true) (h'':cE g c=true) (z:ltT a b=true) (z':ltT b c=true):ltT a c=true:=by
 obtain ⟨x,rfl,h⟩:=iF h;obtain ⟨y,rfl,h'⟩:=iF h';obtain ⟨u,rfl,h''⟩:=iF h'';exact a7u g x y u h h' h'' z z'
def b7W (h:cE g a=true) (h':cE g b=true) (h'':cE g c=true) (z:ltT b a=false) (z':ltT c b=false):ltT c a=false:=by
 cases e:ltT c a with
 | false=>rfl
 | true=>
  rcases a0M h h' with q | q | q
  ·rw [a4F h'' h h' e q] at z';cases z'
  ·subst q;rw [e] at z';cases z'
  ·rw [q] at z;cases z
end
def a2B (x:j0):List j0->List j0
 | []=>[x]
 | y::l=>if ltT y x then y::a2B x l else x::y::l
def a0Y (l:T0l):List j0:=l.foldr a2B []
theorem yN (x:j0):∀ l:List j0,(a2B x l).Perm (x::l)
 | []=>.refl _
 | y::l=>by
  unfold a2B;split
  ·exact ((yN x l).cons y).trans (.swap x y l)
  ·exact .refl _
theorem xU:∀ l:List j0,(a0Y l).Perm l
 | []=>.refl _
 | x::l=>(yN x _).trans ((xU l).cons x)
abbrev a2n (l:T0l):Prop:=l.Pairwise λa b=>ltT b a=false
theorem a0w {g:List Bool} {x:j0} (hx:cE g x=true):∀ l:List j0,(∀ d∈l,cE g d=true)->a2n l->a2n (a2B x l)
 | [],_,_=>by simp [a2B]
 | y::l,h,hp=>by
  have hp':=jV.mp hp;have hy:=h y (by simp);unfold a2B;by_cases e:ltT y x=true
  ·rw [if_pos e,a2n,jV]
   refine ⟨λz hz=>?_,a0w hx l (λd hd=>h d (qE _ hd)) hp'.2⟩;rcases qI.mp ((yN x l).mem_iff.mp hz) with rfl | hz
   ·cases q:ltT z y with
    | false=>rfl
    | true=>have:=a4F hx hy hx q e;rw [a4G hx] at this;cases this
   ·exact hp'.1 z hz
  ·rw [if_neg e,a2n,jV]
   have e':ltT y x=false:=by simpa using e
   refine ⟨λz hz=>?_,hp⟩;rcases qI.mp hz with rfl | hz
   ·exact e'
   ·exact b7W hx hy (h z (qE _ hz)) e' (hp'.1 z hz)
theorem pU {g:List Bool}:∀ l:List j0,(∀ d∈l,cE g d=true)->a2n (a0Y l)
 | [],_=>.nil
 | x::l,h=>a0w (h x (by simp)) _ (λd hd=>h d (qE _ ((xU l).mem_iff.mp hd))) (pU l λd hd=>h d (qE _ hd))
theorem a5s {g:List Bool}:∀ (l m:T0l),l.Perm m->(∀ d∈l,cE g d=true)->a2n l->a2n m->l=m
 | [],m,hp,_,_,_=>by rw [List.nil_perm.mp hp]
 | x::l,[],hp,_,_,_=>by have:=hp.length_eq;simp at this
 | x::l,y::m,hp,h,h1,h2=>by
  have q1:=jV.mp h1;have q2:=jV.mp h2;have hy:y∈x::l:=hp.mem_iff.mpr (by simp);have hx:x∈y::m:=hp.mem_iff.mp (by simp);have e:x=y:=by
   rcases qI.mp hy with z | z
   ·exact z.symm
   ·rcases qI.mp hx with w | w
    ·exact w
    ·rcases a0M (h x (by simp)) (h y hy) with u | u | u
     ·rw [q2.1 x w] at u;cases u
     ·exact u
     ·rw [q1.1 y z] at u;cases u
  subst e;rw [a5s l m (List.Perm.cons_inv hp) (λd hd=>h d (qE _ hd)) q1.2 q2.2]
def b4d {l m:T0l} (hp:l.Perm m) (h:∀ d∈m,cE g d=true) (hs:a2n l):l=a0Y m:=
 a5s (g:=g) l (a0Y m) (hp.trans (xU m).symm) (λd hd=>h d (hp.mem_iff.mp hd)) hs (pU m h)
def rk (ds:T0l) (i:Nat):Int:=((ds.filter λx=>ltT x (ds.getD i .none)).length:Nat)
theorem a4P {α:Type} {p q:α->Bool}:∀ l:List α,(∀ x∈l,p x=true->q x=true)->(l.filter p).length<=(l.filter q).length
 | [],_=>by simp
 | x::l,h=>by
  have ih:=a4P l λy hy=>h y (qE _ hy);cases e:p x with
  | false=>
   rw [jF (by simp [e])];cases e2:q x with
   | false=>rw [jF (by simp [e2])];exact ih
   | true=>rw [qr e2,qW];omega
  | true=>rw [qr e,qr (h x (by simp) e),qW,qW];omega
theorem a8N {α:Type} {p q:α->Bool}:∀ l:List α,(∀ x∈l,p x=true->q x=true)->(∃ x∈l,p x=false/\q x=true)->(l.filter p).length<(l.filter q).length
 | [],_,⟨x,hx,_⟩=>by cases hx
 | x::l,h,⟨y,hy,h1,h2⟩=>by
  have ih:=a4P l λy hy=>h y (qE _ hy);rcases qI.mp hy with rfl | hy
  ·rw [jF (by simp [h1]),qr h2,qW];omega
  ·have ih2:=a8N l (λy hy=>h y (qE _ hy)) ⟨y,hy,h1,h2⟩
   cases e:p x with
   | false=>
    rw [jF (by simp [e])];cases e2:q x with
    | false=>rw [jF (by simp [e2])];exact ih2
    | true=>rw [qr e2,qW];omega
   | true=>rw [qr e,qr (h x (by simp) e),qW,qW];omega
def b6s (h:∀ d∈ds,cE g d=true) (hi:i<ds.length) (hj:j<ds.length):ltT (ds.getD i .none) (ds.getD j .none)=ST.ltr (rk ds) i j:=by
 have mi:ds.getD i .none∈ds:=by rw [qG,qD hi];exact jZ hi
 have mj:ds.getD j .none∈ds:=by rw [qG,qD hj];exact jZ hj
 unfold ST.ltr rk;generalize ds.getD i j0.none=a at *;generalize ds.getD j j0.none=b at *;have ha:=h a mi;have hb:=h b mj;cases e:ltT a b with
 | true=>
  refine (decide_eq_true ?_).symm;have:=a8N (p:=λx=>ltT x a) (q:=λx=>ltT x b) ds (λx hx z=>a4F (h x hx) ha hb z e) ⟨a,mi,a4G ha,e⟩;omega
 | false=>
  refine (decide_eq_false ?_).symm
  have:=a4P (p:=λx=>ltT x b) (q:=λx=>ltT x a) ds (λx hx z=>by
   rcases a0M ha hb with q | q | q
   ·rw [e] at q;cases q
   ·subst q;exact z
   ·exact a4F (h x hx) hb ha z q)
  omega
def a1t (h:∀ d∈ds,cE g d=true) {p:Array Nat} (P:ST.Pm ds.length p) (U:ST.Up (rk ds) p ds.length):(p.toList.map λi=>ds.getD i .none)=a0Y ds:=by
 have hl:p.toList.length=ds.length:=by rw [qS];exact P.size
 have hr:(qV ds.length).map (λi=>ds.getD i .none)=ds:=by
  refine wq (by simp) λi h1 h2=>?_;simp [qG,h2]
 have hp:(p.toList.map λi=>ds.getD i .none).Perm ds:=by
  have:=(vD.mp P.perm).map λi=>ds.getD i j0.none;simp only [zy] at this;rw [hr] at this;exact this
 refine b4d hp h ?_;unfold a2n;rw [jK,jy];intro i j hi hj hij;have hi':i<p.size:=by simpa using hi
 have hj':j<p.size:=by simpa using hj
 have u:=U i j (jN hij) (by rw [P.size] at hj';exact hj');unfold ST.vl at u;have ei:p.toList[i]=p.getD i 0:=by simp [vW,hi']
 have ej:p.toList[j]=p.getD j 0:=by simp [vW,hj']
 rw [ei,ej];by_cases hn:0<ds.length
 ·rw [b6s h (P.lt hn j) (P.lt hn i)]
  exact decide_eq_false (by omega)
 ·rw [P.size] at hi';omega
end L2.L3
namespace L2.L3
open PySem PySem.W PyProof.Rows PySem.Calls
variable {Q:Bool->Shared->Prop} {k:Bool}
def a8r (b:Bool) (m n:Int) (t u:Tok) (h:Q (decide (m<n)) s):wpAny (model prog w) A (oneLt' b (.int m t) (.int n u)) Q E s:=by
 cases b with
 | true=>exact oneLt_int h
 | false=>exact kat_one _ _ (lt_int h)
def b4P (b:Bool) (m n:Str) (t u:Tok) (h:Q (decide (m.cps.toList<n.cps.toList)) s):wpAny (model prog w) A (oneLt' b (.str m t) (.str n u)) Q E s:=by
 cases b with
 | true=>exact oneLt_str h
 | false=>exact kat_one _ _ (lt_str h)
theorem a2f {Q:Bool->Shared->Prop}:∀ (g:List Bool) (xs ys:T0m) (ds es:T0l) (as bs:T0o) (i:Nat),QF s.heap xs ds as->QF s.heap ys es bs->eO g ds=true->eO g es=true->Q (ltR ds es) s ->
  KatLex prog w A true false Q (xs.zip ys) i s
 | [],xs,ys,ds,es,as,bs,i,r,r',h,h',q=>by
  have e1:=mN h;have e2:=mN h';subst e1;subst e2;cases r;cases r';exact kat_nil q
 | true::g,xs,ys,ds,es,as,bs,i,r,r',h,h',q=>by
  obtain ⟨m,r1,rfl,h⟩:=sig_int h;obtain ⟨n,r2,rfl,h'⟩:=sig_int h';cases r with | cons v rr=>
  cases r' with | cons v' rr'=>
  cases v;cases v';refine kat_cons (SeqAt.EqAt.int_int _ _ _ _ _ _ _ _ ?_);by_cases e:m=n
  ·subst e
   rw [beq_self_eq_true];refine kat_yes (a2f g _ _ _ _ _ _ _ rr rr' h h' ?_);simpa [ltR,eqC] using q
  ·rw [beq_eq_false_iff_ne.mpr e]
   refine kat_no (a8r _ _ _ _ _ ?_);simpa [ltR,eqC,e,ltC] using q
 | false::g,xs,ys,ds,es,as,bs,i,r,r',h,h',q=>by
  obtain ⟨m,r1,rfl,h⟩:=sig_str h;obtain ⟨n,r2,rfl,h'⟩:=sig_str h';cases r with | cons v rr=>
  cases r' with | cons v' rr'=>
  cases v;cases v';refine kat_cons (SeqAt.EqAt.str_str _ _ _ _ _ _ _ _ ?_);by_cases e:m=n
  ·subst e
   rw [beq_self_eq_true];refine kat_yes (a2f g _ _ _ _ _ _ _ rr rr' h h' ?_);simpa [ltR,eqC] using q
  ·rw [beq_eq_false_iff_ne.mpr e]
   refine kat_no (b4P _ _ _ _ _ ?_);have:ltR (.str m::r1) (.str n::r2)=decide (m.cps.toList<n.cps.toList):=by
    simp [ltR,eqC,e,ltC,cH]
   rw [<-this];exact q
def b7f {v:Value} {e:j0} {as bs:T0o} (r:Reads s.heap v d as) (r':Reads s.heap u e bs) (h:cE g d=true) (h':cE g e=true) (q:Q (ltT d e) s):
  wpAny (model prog w) A (keyLt' (tuples' true) v u) Q E s:=by
 obtain ⟨x,rfl,h⟩:=iF h;obtain ⟨y,rfl,h'⟩:=iF h';cases r with
 | tuple hg hc hd rr=>
  cases r' with
  | tuple hg' hc' hd' rr'=>
   refine kat_lt hg hd hg' hd' ?_;have sz:∀ (g:List Bool) (x y:T0l),eO g x=true->eO g y=true->x.length=y.length:=by
    intro g
    induction g with
    | nil=>intro x y h h';rw [mN h,mN h']
    | cons b g ih=>
     intro x y h h';cases b with
     | true=>obtain ⟨_,_,rfl,h⟩:=sig_int h;obtain ⟨_,_,rfl,h'⟩:=sig_int h';simp [ih _ _ h h']
     | false=>obtain ⟨_,_,rfl,h⟩:=sig_str h;obtain ⟨_,_,rfl,h'⟩:=sig_str h';simp [ih _ _ h h']
   have ln:∀ {vs:T0m} {ds:T0l} {as:T0o},QF s.heap vs ds as->vs.length=ds.length:=by
    intro vs
    induction vs with
    | nil=>intro ds as r;cases r;rfl
    | cons v vs ih=>intro ds as r;cases r with | cons _ r=>simp [ih r]
   have e1:=ln rr;have e2:=ln rr';have e3:=sz _ _ _ h h';rw [decide_eq_false (by rw [<-qS,<-qS];omega)];exact a2f g _ _ _ _ _ _ 0 rr rr' h h' q
inductive Rows (h:Heap):List Value->List j0->Prop
 | nil:Rows h [] []
 | cons {v:Value} {vs:T0m} {d:j0} {ds:T0l} {as:T0o}:Reads h v d as->Rows h vs ds->Rows h (v::vs) (d::ds)
theorem Rows.len {h:Heap} (r:Rows h vs ds):vs.length=ds.length:=by
 induction r with
 | nil=>rfl
 | cons _ _ ih=>simp [ih]
theorem Rows.at {h:Heap} {vs:T0m} {ds:T0l} (r:Rows h vs ds):∀ i,i<vs.length->∃ as,Reads h (vs.getD i .none) (ds.getD i .none) as:=by
 induction r with
 | nil=>intro i hi;simp at hi
 | cons r _ ih=>
  intro i hi;cases i with
  | zero=>exact ⟨_,r⟩
  | succ i=>exact ih i (by simpa using hi)
def Rows.firsts {h:Heap} {k:Bool} (r:Rows h vs ds) (hs:∀ d∈ds,cE (k::g) d=true):
  ∃ fs:List Value,KatTups h vs fs/\fs.length=vs.length/\∀ v∈fs,(k=true/\∃ i t,v=.int i t)\/(k=false/\∃ i t,v=.str i t):=by
 induction r with
 | nil=>exact ⟨[],.nil,rfl,λv hv=>by cases hv⟩
 | @cons v vs d ds as r _ ih=>
  obtain ⟨fs,t,l,a⟩:=ih λd hd=>hs d (qE _ hd);obtain ⟨x,rfl,hx⟩:=iF (hs d (by simp));cases r with
  | tuple hg hc hd rr=>
   cases k with
   | true=>
    obtain ⟨i,y,rfl,hy⟩:=sig_int hx;generalize hv:wj _=vl at rr;cases rr with | cons z rr=>
    cases z with | int _ tk=>
    refine ⟨.int i tk::fs,KatTups.cons hg hc hd (by rw [<-jo,hv];rfl) t,by simp [l],λv hv=>?_⟩
    ·rcases qI.mp hv with rfl | hv
     ·exact .inl ⟨rfl,_,_,rfl⟩
     ·exact a v hv
   | false=>
    obtain ⟨i,y,rfl,hy⟩:=sig_str hx;generalize hv:wj _=vl at rr;cases rr with | cons z rr=>
    cases z with | str _ tk=>
    refine ⟨.str i tk::fs,KatTups.cons hg hc hd (by rw [<-jo,hv];rfl) t,by simp [l],λv hv=>?_⟩
    ·rcases qI.mp hv with rfl | hv
     ·exact .inr ⟨rfl,_,_,rfl⟩
     ·exact a v hv
def a9x {k:Bool} (r:Rows s.heap vs ds) (hs:∀ d∈ds,cE (k::g) d=true) (hne:0<vs.length) {Q:SortKind->Shared->Prop} (h:Q (tuples' true) s):
  wpAny (model prog w) A (keyKind' vs.toArray) Q E s:=by
 obtain ⟨fs,t,l,a⟩:=r.firsts hs;cases k with
 | true=>
  refine kat_kind (T:=.type "int") t (by omega) (λv hv=>?_) (by decide) h;rcases a v hv with ⟨_,i,t,rfl⟩ | ⟨z,_⟩
  ·exact Looks.of_pure rfl
  ·cases z
 | false=>
  refine kat_kind (T:=.type "str") t (by omega) (λv hv=>?_) (by decide) h;rcases a v hv with ⟨z,_⟩ | ⟨_,i,t,rfl⟩
  ·cases z
  ·exact Looks.of_pure rfl
def a2F {o:Obj} {Q:List Value->Shared->Prop} (hT:T = "list" \/ T = "tuple") (ho:s.heap.get? l=some o) (hc:o.cls=.type T) (hd:o.data=.seq vs.toArray n) (few:vs.length<=j5)
  (hQ:∀ h',(∀ b o,s.heap.get? b=some o->h'.get? b=some o)->s.heap.objs.size<=h'.objs.size->Q vs { s with heap:=h' }):wpAny (model prog w) A (collect (.ref l)) Q E s:=by
 unfold collect;refine q8 (wpAny_runValue (wv F.entry_proto_collect ?_));rw [jC F.plain_proto_collect _];show wpAny _ A.in1 (newList []>>=λl'=>again (.builtin "list.__iadd__" ⟨[l',.ref l],[]⟩)) _ _ s;refine q8 (j8 ?_);refine j3 ⟨ye vx _,wv F.entry_list_iadd ?_⟩;rw [jC vx _];have hS1:(s.heap.push { cls:=.type "list", data:=.seq ([]:T0m).toArray }).get? s.heap.objs.size=some { cls:=.type "list", data:=.seq ([]:T0m).toArray }:=qJ _ rfl;have ty1:vL { s with heap:=s.heap.push { cls:=.type "list", data:=.seq ([]:T0m).toArray } } (.ref l) T:=⟨o,qC _ ho,hc⟩;show wpAny _ A.in1 (jw (.ref s.heap.objs.size) (.ref l) (.ref s.heap.objs.size)) _ _ _;unfold jw;refine q8 (y0 ty1 ?_);rw [if_pos (by rcases hT with rfl | rfl<;>simp)];refine q8 (uz (qC _ ho) hd ?_);refine q8 (uz hS1 rfl ?_);rw [if_neg (by simp)];refine q8 (uq hS1 rfl ?_ (qt _) (by rw [Array.size_append,qP,qP,zz];omega));have hS2z:=kJ (kK (·++vs.toArray)) hS1 rfl;refine j3 ?_;show wpAny _ A (load s.heap.objs.size>>=_) _ _ _;refine q8 (wpAny_load hS2z (j3 ?_));have e:(([]:T0m).toArray++vs.toArray).toList=vs:=by simp
 show Q (([]:T0m).toArray++vs.toArray).toList _;rw [e];refine hQ _ (λb o' hb=>?_) (by rw [Heap.size_update,size_push'];omega);rw [Heap.get?_update_ne _ _ _ _ (qc (qN hb))];exact qC _ hb
end L2.L3
namespace L2.L3
open PySem PySem.W PyProof.Rows
def b1d:List j0->Option (List Bool)
 | []=>some []
 | .int _::r=>(b1d r).map (true::·)
 | .str _::r=>(b1d r).map (false::·)
 | _=>none
def b4h:j0->Option (List Bool)
 | .tuple a=>b1d a
 | _=>none
theorem a5B:∀ (g:List Bool) (a:T0l),eO g a=true->noDcs a=true
 | _,[],_=>by simp [noDcs]
 | [],_::_,h=>by simp [eO] at h
 | b::g,x::a,h=>by
  rw [noDcs,qL];cases b<;>cases x<;>first | (simp [eO] at h;done) | exact ⟨by simp [pQ],a5B g a (by simpa [eO] using h)⟩
theorem a8f {g:List Bool}:∀ {ds:T0l},(∀ d∈ds,cE g d=true)->noDcs ds=true
 | [],_=>by simp [noDcs]
 | d::ds,h=>by
  rw [noDcs,qL];obtain ⟨a,rfl,ha⟩:=iF (h d (by simp));exact ⟨by rw [pQ];exact a5B g a ha,a8f λx hx=>h x (qE _ hx)⟩
section
variable {σ:List (Option V)}
theorem a4q (I:Inv X pq σ H s):∀ {xs:List V} {ds:T0l} {us:T0m},RepAll X.K H xs ds->noDcs ds=true->aU xs us->Rows s.heap us ds
 | _,_,_,.nil,_,.nil=>.nil
 | _,_,_,.cons r rr,hc,.cons t tt=>by
  rw [noDcs,qL] at hc;obtain ⟨as,ra⟩:=r.reads I hc.1 t;exact .cons ra (a4q I rr hc.2 tt)
theorem RepAll.at {K:qB} {G:Hp}:∀ {vs:List V} {ds:T0l},RepAll K G vs ds->∀ i,i<vs.length->Rep K G (vs.getD i .non) (ds.getD i .none)
 | _,_,.nil,i,h=>by simp at h
 | _,_,.cons r rr,0,_=>r
 | _,_,.cons r rr,i+1,h=>RepAll.at rr i (by simpa using h)
theorem RepAll.len {K:qB} {G:Hp}:∀ {vs:List V} {ds:T0l},RepAll K G vs ds->vs.length=ds.length
 | _,_,.nil=>rfl
 | _,_,.cons _ rr=>by simp [RepAll.len rr]
theorem RepAll.pick {K:qB} {G:Hp} {vs:List V} {ds:T0l} (r:RepAll K G vs ds):∀ p:List Nat,(∀ i∈p,i<vs.length)->RepAll K G (p.map λi=>vs.getD i .non) (p.map λi=>ds.getD i .none)
 | [],_=>.nil
 | i::p,h=>.cons (r.at i (h i (by simp))) (RepAll.pick r p λj hj=>h j (qE _ hj))
theorem aU.at':∀ {vs:List V} {us:T0m},aU vs us->∀ i,i<vs.length->RelV (vs.getD i .non) (us.getD i .none)
 | _,_,.nil,i,h=>by simp at h
 | _,_,.cons r rr,0,_=>r
 | _,_,.cons r rr,i+1,h=>aU.at' rr i (by simpa using h)
theorem aU.pick {vs:List V} {us:T0m} (r:aU vs us):∀ p:List Nat,(∀ i∈p,i<vs.length)->aU (p.map λi=>vs.getD i .non) (p.map λi=>us.getD i .none)
 | [],_=>.nil
 | i::p,h=>.cons (aU.at' r i (h i (by simp))) (aU.pick r p λj hj=>h j (qE _ hj))
def xW (I:Inv X pq σ H s) {p:Addr} {vs:List V} (h:SqL X.K H p vs\/SqT X.K H p vs):∃ (its:T0m) (T:String) (o:Obj) (n:Nat),(T = "list" \/ T = "tuple")/\s.heap.get? p=some o/\o.cls=.type T/\o.data=.seq its.toArray n/\aU vs its:=by
 rcases h with h | h
 ·obtain ⟨its,rv,pl,hz⟩:=I.list h
  obtain ⟨o,ho,hc,n,hd⟩:=pl.isList;exact ⟨its, "list", o,n,.inl rfl,ho,hc,hd,rv⟩
 ·obtain ⟨its,rv,⟨o,ho,hc,n,hd⟩,hz⟩:=I.tuple h
  exact ⟨its, "tuple", o,n,.inr rfl,ho,hc,hd,rv⟩
end
end L2.L3
namespace L2.L3
open PySem PySem.Spec PySem.Calls PyProof.Rows
abbrev b9P (qual:Str) (params:Arguments) (body:Expr) (scope:Scope) (pm:Value) (c:Addr) (ct:Value):Obj:=zx "<lambda>" qual params body scope [] pm c ct
variable {c:Addr} {body:Expr}
section
variable {K:qB}
def b2o {f:Addr} {x:Str} {outer:List Env} 
  (hr:Room (k+1) A) (e0:Env0 P w K mg base A outer s H) (ho:s.heap.get? f=some (b9P qual params body scope pm c ct)) (hcd:s.heap.CodeRec (.ref c) qual) (S:FnScope [x] [x] scope)
  (hb:uo (vM "<lambda>" qual params body scope [] pm (.ref c) ct) ⟨[u],[]⟩=pure [(x,u)])
  (hbody:DE (fcx P w K mg base [x] qual scope f (.ref c) A outer s H E0) body fe)
  (sm:bJ G H/\pG K G H) (rep:Rep K G v d) (rel:RelV v u) (hf:fe [.val d]=some (.ok kd)):
  ua (model P w) A (.call (.ref f) ⟨[u],[]⟩) (CR CX0 outer P w H s (λv' H'=>∃ G',Grow G H G' H'/\Rep K G' v' kd) E0) s:=by
 have lim:s.heap.NoLimit:=e0.mod.nolimit.keeps λb o e=>(e0.bs b o e).1;refine PySem.W.kla_callFunE hr.depth ho rfl S.co S.gen rfl hcd ?_;rw [hb];have hkind:∀ y∈[(x,u)],scope.names.lookup y.1=some .local\/(scope.names.lookup y.1=some .cell/\((v6 (s.heap.objs.size+1) scope.names []).lookup y.1).isSome=true):=λy hy=>by
  obtain rfl:=qH.mp hy;rcases S.par x (by simp) with q | q
  ·exact .inl q
  ·exact .inr ⟨q,vk _ _ _ (.inl q)⟩
 refine j3 (wpAny_newFunctionEnv_cells S.kind hkind λenv he s1 xx=>?_);subst he;refine ⟨lim.keeps xx.toInCall.keep,PySem.W.kla_codeExpr ?_⟩;have I:Inv (fcx P w K mg base [x] qual scope f (.ref c) A outer s H E0) [] (start [x] [v]) H s1:=(a3E (CX:=CX0) (E:=E0) (us:=[u]) S hr.hd e0 rfl (.cons rel .nil) xx).wish _;have R:RepS K H G G H (start [x] [v]) [.val d]:=fR (N:=[x]) (ds:=[d]) sm (.cons rep .nil);refine yi (hbody.run [] s1 _ H (λv' H'=>∃ G',Grow G H G' H'/\Rep K G' v' kd) I ⟨_,_,H,G,G,hf,R,λv' G' H' g rv=>⟨G',g,rv⟩⟩) (λu' s' hs=>?_) λe s' hs=>hs.elim;obtain ⟨v',H',J,rv,q⟩:=hs;exact ⟨v',H',J.os,J.bare,J.base,J.hok,rv,q⟩
end
structure BM (mg:T0d) (base:Heap):Prop where
 ex:∃ bm ob,mg "__builtins__" = some (.ref bm)/\bm≠u5/\bm≠j6/\base.get? bm=some ob/\ob.cls=.type "module" /\ ob.dict=some u5/\ob.data=.plain
def a0U (i j:Int) (t u:Tok) (v:Value):∀ (n:Nat) (l:T0m),l.length<=n->QE l->QE (l++[.int i t,.int j u,v]):=by
 intro n
 induction n with
 | zero=>
  intro l hl _;cases l with
  | nil=>trivial
  | cons a l=>cases hl
 | succ n ih=>
  intro l hl h;unfold QE at h;split at h
  ·trivial
  ·rename_i rest
   have hr:rest.length<=n:=by simp only [qW] at hl;omega
   exact ih rest hr h
  ·cases h
def a4g (l:T0m) (i j:Int) (t u:Tok) (v:Value) (h:QE l):QE (l++[.int i t,.int j u,v]):=a0U i j t u v l.length l (qM _) h
theorem a2l {p:Pos} {c cv:Value} (i j:Int) (t u:Tok):∀ (l:T0m),QE l->QQ p (l++[.int i t,.int j u,c])=some cv->QQ p l=some cv\/cv=c
 | [],_,h=>by
  have h:(if (i==(p.line:Int)&&j==(p.col:Int))=true then some c else none)=some cv:=h;split at h
  ·exact .inr (qA h).symm
  ·cases h
 | .int a _::.int b _::d::r,ht,h=>by
  have h:(if (a==(p.line:Int)&&b==(p.col:Int))=true then some d else QQ p (r++[.int i t,.int j u,c]))=some cv:=h;show (if (a==(p.line:Int)&&b==(p.col:Int))=true then some d else QQ p r)=some cv\/_;split at h
  ·rename_i hc;rw [if_pos hc];exact .inl h
  ·rename_i hc;rw [if_neg hc];exact a2l i j t u r ht h
def a5W {x:Str} {cl:T0f} {P:Addr} (hx:x∈fC) (ht:jh X.K x=some (c,P)) (hc:X.env.code=.ref c)
  (hq:X.env.qual ++ "<lambda>" = lamQ x) (C:kQ X.K c P=true) (M:BM X.mg X.base) (hdef:defaultsOf params X.env=([],[])) (hcl:closureFor scope X.env=pure cl) (I:Inv X pq σ H s) (R:RepS X.K H0 Gz G H σ ρ)
  (h:∀ f c' ct pm H' s',Inv X pq σ H' s'->Grow G H G H'->s'.heap.get? f=some (zx "<lambda>" (lamQ x) params body scope cl pm c' ct)->H' f=none->s.heap.objs.size<=f->H' c'=some (cdO c' (lamQ x))->Q (.ref f) s'):
  wpAny (model X.prog X.w) X.A (eval (.Lambda params body scope pos) X.env) Q E s:=by
 refine PySem.W.kla_eval hdef ?_;rw [hq];have hTab:=R.tab.1 x hx c P ht;generalize lamQ x=q at hTab h ⊢;obtain ⟨ps,hP,hT,hA⟩:=hTab;have hPo:s.heap.get? P=some (wD ps):=I.hok P _ hP;have C0:PySem.W.CodeHd s.heap c P:=PySem.W.codeHd_of_K I.kIn C;have hg:s.heap.Ns j6 X.mg:=I.mod.glob.keeps I.bk;have hgP:j6≠P:=λz=>by
  obtain ⟨o,es,ep,e,hd,_⟩:=hg;rw [z,hPo] at e;cases e;cases hd
 have hB:s.heap.BuiltinsAt X.mg P:=by
  obtain ⟨bm,ob,b1,b2,b3,b4,b5,b6,b7⟩:=M.ex;refine ⟨bm,ob,b1,b2,b3,λz=>?_,I.bk _ _ b4,b5,b6,b7⟩;have e:=I.bk _ _ b4;rw [z,hPo] at e;cases e;cases b5
 cases hm:QQ pos ps.toList with
 | some cv=>
  obtain ⟨c',rfl,hc'⟩:=hA pos cv hm;refine PySem.W.kla_makeFunctionHit hcl I.ok.glob hg hc C0 hPo hT hm hB λct h' tk kp sz=>?_;exact h _ c' ct _ H _ (I.kept λb o e=>qC _ (kp b o e)) (.refl R.sub) (qJ _ rfl) (I.hok.fresh sz) sz hc'
 | none=>
  refine PySem.W.kla_makeFunction hcl I.ok.glob hg hc C0 hPo hT hm hgP hB λc' ct h' tk ex ge lt rc tb=>?_;have hf:H c'=none:=I.hok.fresh ge;have cP:c'≠P:=λz=>by rw [z,hP] at hf;cases hf
  have lP:P≠X.env.locals:=λz=>by have:=I.free;rw [<-z,hP] at this;cases this
  -- the heap beside the table
  have kp:∀ b o,b≠P->s.heap.get? b=some o->(h'.push (zx "<lambda>" q params body scope cl ((X.mg "__name__").getD .none) c' ct)).get? b=some o:=λb o n e=>qC _ (ex b o n e);have hsz:s.heap.objs.size<=h'.objs.size:=qk ge (jN lt);have H1:∀ b,b≠P->b≠c'->upd (upd H P (.tbl (q,ps++#[v7 pos.line,v7 pos.col,.ref c']))) c' (cdO c' (q)) b=H b:=λb n1 n2=>by rw [aE n2,aE n1]
  have HP:upd (upd H P (.tbl (q,ps++#[v7 pos.line,v7 pos.col,.ref c']))) c' (cdO c' (q)) P=some (.tbl (q,ps++#[v7 pos.line,v7 pos.col,.ref c'])):=by rw [aE (jT cP),aH]
  have nb:∀ b o,s.heap.get? b=some o->b≠c':=λb o e=>qc (qa (qN e) ge);have nH:∀ b o,H b=some o->b≠c':=λb o e z=>by rw [z,hf] at e;cases e
  have nP:∀ b,H b=none->b≠P:=λb e z=>by rw [z,hP] at e;cases e
  have hsm:Sm H (upd (upd H P (.tbl (q,ps++#[v7 pos.line,v7 pos.col,.ref c']))) c' (cdO c' (q))):=by
   refine ⟨λb o e n=>?_,λb p e=>?_,λP' q' t=>?_⟩
   ·rw [H1 b (λz=>by rw [z,hP] at e;cases e;exact n _ rfl) (nH b o e)];exact e
   ·by_cases z:b=P
    ·rw [z];exact ⟨_,HP⟩
    ·exact ⟨p,by rw [H1 b z (nH b _ e)];exact e⟩
   ·obtain ⟨ps',g1,g2,g3⟩:=t
    have old:∀ d o,H d=some (cdO d o)->upd (upd H P (.tbl (q,ps++#[v7 pos.line,v7 pos.col,.ref c']))) c' (cdO c' (q)) d=some (cdO d o):=λd o e=>by
     rw [H1 d (λz=>by rw [z,hP] at e;unfold cdO at e;cases e) (nH d _ e)];exact e
    by_cases z:P'=P
    ·subst z
     rw [hP] at g1;cases g1;refine ⟨_,HP,?_,λp cv e=>?_⟩
     ·rw [Array.toList_append];exact a4g _ _ _ _ _ _ g2
     ·rw [Array.toList_append] at e
      rcases a2l _ _ _ _ _ g2 e with e | rfl
      ·obtain ⟨d,e1,e2⟩:=g3 p cv e
       exact ⟨d,e1,old d _ e2⟩
      ·exact ⟨c',rfl,aH⟩
    ·refine ⟨ps',by rw [H1 P' z (nH P' _ g1)];exact g1,g2,λp cv e=>?_⟩
     obtain ⟨d,e1,e2⟩:=g3 p cv e;exact ⟨d,e1,old d _ e2⟩
  have gw:Grow G H G (upd (upd H P (.tbl (q,ps++#[v7 pos.line,v7 pos.col,.ref c']))) c' (cdO c' (q))):=by
   refine ⟨.refl _,hsm,λb o e=>?_,λ_ e _=>e,id⟩;rw [H1 b (λz=>by have:=R.sub b o e;rw [z,hP] at this;cases this;exact R.tab.2 _ _ e) (nH b o (R.sub b o e))];exact R.sub b o e
  refine h h'.objs.size c' ct _ _ _ (I.step (ch:=[]) (g':=s.gens) (d':=s.drawn) (t':=tk) (h':=h'.push (zx "<lambda>" q params body scope cl ((X.mg "__name__").getD .none) c' ct)) (λ_ z=>nomatch z) (λb o _ _ _ e n=>kp b o (nP b n) e) (λb o _ _ _ e n=>⟨o.slots,kp b o (nP b n) e⟩)
   (λb o _ e n=>by rw [H1 b (nP b n) (nb b o e)];exact n) (λb o _ e=>?_) (λb xs e=>by rw [H1 b (cO e hP (by nofun)) (nH b _ e)];exact e) (λb o u e=>by rw [H1 b (cO e hP (by nofun)) (nH b _ e)];exact e) (λb p e=>?_) (λm hn=>(hn.extBut ex (jT lP)).push _) (λb u e=>?_) I.bare) gw (qJ _ rfl) ?_ hsz aH
  ·by_cases z:b=P
   ·rw [z];exact ⟨_,qC _ tb⟩
   ·exact ⟨o,kp b o z e⟩
  ·by_cases z:b=P
   ·subst z
    rw [hP] at e;cases e;exact ⟨#[v7 pos.line,v7 pos.col,.ref c'],HP⟩
   ·exact ⟨#[],by rw [H1 b z (nH b _ e),e];simp⟩
  ·by_cases z:b=c'
   ·subst z
    rw [aH] at e;cases e;obtain ⟨c2,o2,vs,t,e1,e2,e3,e4⟩:=rc;cases e1;exact ⟨⟨_,o2,vs,t,rfl,qC _ e2,e3,e4⟩,⟨o2,qC _ e2⟩,λh1 h2 ⟨c3,o3,vs3,t3,g1,g2,g3,g4⟩ k=>by cases g1;exact ⟨_,o3,vs3,t3,rfl,k _ g2,g3,g4⟩⟩
   ·by_cases z2:b=P
    ·subst z2
     rw [HP] at e;cases e;exact qC _ tb
    ·rw [H1 b z2 z] at e
     refine (I.hok b u e).stay (λb' u' hb' e'=>kp b' u' (λy=>?_) e') (λb' e'=>by rw [H1 b' (cO e' hP (by nofun)) (nH b' _ e')];exact e') λb' xs e'=>by rw [H1 b' (cO e' hP (by nofun)) (nH b' _ e')];exact e'
     rcases hb' with y' | y'
     ·exact z2 (y'.symm.trans y)
     ·rw [y,hP] at y';cases y'
  ·have:=jS lt
   rw [H1 _ (λz=>absurd (qN hPo) (by rw [<-z];exact zo hsz)) this];exact I.hok.fresh hsz
end L2.L3
namespace L2.L3
open PySem PySem.W PyProof.Rows PySem.Calls
variable {kds:List j0} {k:Bool}
theorem a5Z {kS a:Addr} {oa:Obj} {vs:T0m} {J:List Value->Shared->Prop} {body:Value->PUnit->Sem (ForInStep PUnit)} (h64:vs.length<64)
  (hb:∀ x ks e (s:Shared),ks.length<64->vs[ks.length]?=some x->s.heap.get? kS=some (yh "list" (zi ks) e)->s.heap.get? a=some oa->J ks s ->
   wpAny (model prog w) A (body x ⟨⟩) (λr s'=>r=.yield ⟨⟩/\∃ k c,s'.heap.get? kS=some (yh "list" (zi (ks++[k])) c)/\s'.heap.get? a=some oa/\J (ks++[k]) s') E s) :
  ∀ (r ks:T0m) (e:Nat) (s:Shared),vs=(vs.take ks.length)++r->ks.length+r.length=vs.length->s.heap.get? kS=some (yh "list" (zi ks) e)->s.heap.get? a=some oa->J ks s ->
   wpAny (model prog w) A (forIn r PUnit.unit body) (λ_ s'=>∃ ks e,s'.heap.get? kS=some (yh "list" (zi ks) e)/\s'.heap.get? a=some oa/\ks.length=vs.length/\J ks s') E s
 | [],ks,e,s,hv,hl,hk,ha,hJ=>by
  rw [List.forIn_nil];exact j3 ⟨ks,e,hk,ha,by simpa using hl,hJ⟩
 | x::r,ks,e,s,hv,hl,hk,ha,hJ=>by
  rw [qW] at hl;rw [vA];have hx:vs[ks.length]?=some x:=by
   rw [hv,jQ (by rw [ju];omega),ju];rw [show ks.length - min ks.length vs.length=0 by omega];rfl
  refine q8 (yi (hb x ks e s (by omega) hx hk ha hJ) (λq s' hq=>?_) λ_ _ x=>x);obtain ⟨rfl,k,c,hk',ha',h2⟩:=hq;show wpAny (model prog w) A (forIn r PUnit.unit body) _ E s';refine a5Z h64 hb r (ks++[k]) c s' ?_ (by rw [qY,jO];omega) hk' ha' h2;rw [qY,jO];have e1:vs.take (ks.length+1)=vs.take ks.length++[x]:=by rw [wF,hx];rfl
  rw [e1,qy];exact hv
structure KeyS (prog:Program) (w:World) (A:Around) (s:Shared) (ks:T0m) (kds:T0l):Prop where
 kind:0<ks.length->∀ (E:T0a) (Q:SortKind->Shared->Prop),Q (tuples' true) s->wpAny (model prog w) A (keyKind' ks.toArray) Q E s
 lt:∀ (i j:Nat) (E:T0a) (Q:Bool->Shared->Prop),i<ks.length->j<ks.length->Q (ltT (kds.getD i .none) (kds.getD j .none)) s->wpAny (model prog w) A (keyLt' (tuples' true) (ks.getD i .none) (ks.getD j .none)) Q E s
theorem KeyS.of {ks:T0m} {k:Bool} (rd:Rows s.heap ks kds) (hs:∀ d∈kds,cE (k::g) d=true):KeyS prog w A s ks kds:=by
 have ln:=rd.len;refine ⟨λhn E Q q=>a9x rd hs hn q,λi j E Q hi hj q=>?_⟩;obtain ⟨as,ri⟩:=rd.at i hi;obtain ⟨bs,rj⟩:=rd.at j hj;have mi:kds.getD i .none∈kds:=by rw [qG,qD (by omega)];exact jZ (by omega)
 have mj:kds.getD j .none∈kds:=by rw [qG,qD (by omega)];exact jZ (by omega)
 exact b7f ri rj (hs _ mi) (hs _ mj) q
def a5Y {kS:Addr} {f:Value} {e1:Nat} {k:Bool} {J:List Value->Shared->Prop} {P:PySem.Fin->Shared->Prop} (hka:kS≠a) (hk:s.heap.get? kS=some (yh "list" #[] 0)) (ha:s.heap.get? a=some (yh "list" #[] e1)) (h64:vs.length<64)
  (hs:∀ d∈kds,cE (k::g) d=true) (hlen:kds.length=vs.length) (hJ:J [] s)
  (mono:∀ ks s h',J ks s->(∀ b,b≠kS->h'.get? b=s.heap.get? b)->h'.objs.size=s.heap.objs.size->(∃ o,h'.get? kS=some o)->J ks { s with heap:=h' })
  (step:∀ ks s x,vs[ks.length]?=some x->J ks s->wpAny (model prog w) A (call f [x]) (λk s'=>J (ks++[k]) s'/\s'.heap.get? a=s.heap.get? a/\s'.heap.get? kS=s.heap.get? kS) (λ_ _=>False) s)
  (fin:∀ ks s,ks.length=vs.length->J ks s->KeyS prog w A s ks kds)
  (h:∀ (p:Array Nat) ks s' h',ST.Pm kds.length p->(p.toList.map λi=>kds.getD i .none)=a0Y kds->J ks s'->(∀ b,b≠kS->b≠a->h'.get? b=s'.heap.get? b)->h'.objs.size=s'.heap.objs.size ->
   (∃ c,h'.get? a=some (yh "list" (p.toList.map λi=>vs.getD i .none).toArray c))->P (.done (.ret .none)) { s' with heap:=h' }):
  wpAny (model prog w) A (ksk_rest a f false vs.toArray e1 (.ref kS)) P E s:=by
 unfold ksk_rest;refine q8 (yd ?_)
 first
  | rw [List.forIn_toArray]
  | (rw [<-vK];simp only [zy])
  | rw [<-vK]
 refine q8 (yi (a5Z (J:=J) (oa:=yh "list" #[] e1) (a:=a) (kS:=kS) h64 (λx ks e s' hz hx hk' ha' hj=>?_) vs [] 0 s (by simp) (by simp) hk ha hJ) (λ_ s' hd=>?_) λ_ _ x=>x)
 ·refine q8 (yu (yi (step ks s' x hx hj) (λkv s'' hq=>?_) λ_ _ hF=>hF.elim))
  obtain ⟨j2,a2,k2⟩:=hq;rw [hk'] at k2;rw [ha'] at a2;have s1:=kU s''.heap kS (kK (·.push kv));have ea:(zi ks).push kv=zi (ks++[kv]):=by simp
  obtain ⟨c2,hc2⟩:∃ c2,(s''.heap.update kS (kK (·.push kv))).get? kS=some (yh "list" (zi (ks++[kv])) c2):=⟨_,by rw [<-ea];exact get?_update_seq k2 (·.push kv)⟩
  try dsimp only
  refine q8 (uq k2 rfl ?_ (by rw [qP,yt];omega) (qk (Nat.le_of_eq (Array.size_push ..)) (by rw [qP,yt];omega)));exact j3 ⟨rfl,kv,c2,hc2,(s1.2 a hka.symm).trans a2,mono _ _ _ j2 (λb hb=>s1.2 b hb) s1.1 ⟨_,hc2⟩⟩
 ·obtain ⟨ks,e,hk',ha',hl,hj⟩:=hd
  try dsimp only
  refine q8 (uz hk' rfl ?_);have rd:=fin ks s' hl hj
  -- the end: the keys' list is emptied,the list is filled
  have tail:∀ (st:SortSt) (p:Array Nat),(arrOf st).map (·.2)=(p.toList.map λi=>vs.getD i .none).toArray->failedOf st=none->ST.Pm kds.length p->(p.toList.map λi=>kds.getD i .none)=a0Y kds ->
    wpAny (model prog w) A (ksk_tail a false e1 (.ref kS) st) P E s':=by
   intro st p hout hf hP hS;have s1:=kU s'.heap kS (kK λ_=>(#[]:Array Value));have na:(s'.heap.update kS (kK λ_=>(#[]:Array Value))).get? a=some (yh "list" #[] e1):=(s1.2 a hka.symm).trans ha';have s2:=kU (s'.heap.update kS (kK λ_=>(#[]:Array Value))) a (kK λ_=>(p.toList.map λi=>vs.getD i jf).toArray);unfold ksk_tail
   try dsimp only
   rw [hout];refine q8 (uq hk' rfl ?_ (by rw [qP,yt];omega) (qt _));refine q8 (uk ?_);refine q8 (seqEpoch_at na rfl ?_);refine q8 (uq na rfl ?_ (qt _) (by rw [if_neg (by decide),qP,qF,qS,hP.size,yt];omega));rw [hf];simp only [bne_self_eq_false,kE,if_false];refine j3 (h p ks s' _ hP hS hj (λb h1 h2=>(s2.2 b h2).trans (s1.2 b h1)) (s2.1.trans s1.1) ⟨_,get?_update_seq na λ_=>(p.toList.map λi=>vs.getD i jf).toArray⟩)
  unfold ksk_end
  try dsimp only
  simp only [kE,if_false];by_cases h2:vs.toArray.size<2
  ·rw [if_pos h2,if_pos h2]
   refine q8 (j3 ?_);rw [StateT.run_pure];refine q8 (j3 ?_);have hsz:vs.toArray.size=vs.length:=by simp
   have hpm:ST.Pm kds.length (qV vs.length).toArray:=by rw [hlen];exact ⟨by simp,Array.Perm.refl _⟩
   refine tail _ (qV vs.length).toArray ?_ rfl hpm (a1t hs hpm (λi j hij hj=>by rw [show i=j by omega];exact jd _));show (ks.toArray.zip vs.toArray).map (·.2)=_;apply Array.toList_inj.mp;have e:(qV vs.length).map (λi=>vs.getD i jf)=vs:=by
    refine wq (by simp) λi h1 h2=>?_;simp [qG,h2]
   simp only [zy,e,Array.toList_map,Array.toList_zip];rw [List.map_snd_zip (by omega)]
  ·rw [if_neg h2,if_neg h2]
   have hsz:vs.toArray.size=vs.length:=by simp
   refine q8 (rd.kind (by omega) _ _ ?_);have hq:=ST.h_sort (r:=rk kds) (n:=vs.length) (by omega)
   refine q8 (yi (kat_run (κ:=tuples' true) (ks:=ks) (vs:=vs) (s:=s') (G:=λp s2=>s2=s'/\ST.Pm vs.length p/\ST.Up (rk kds) p vs.length)
    (Q:=λst' s2=>∃ p:Array Nat,arrOf st'=p.map (kas_item (ks.toArray.zip vs.toArray))/\failedOf st'=none/\s2=s'/\ST.Pm vs.length p/\ST.Up (rk kds) p vs.length)
    hl (by omega) h64 (λp' st' s2 a1 a2 a3 a4=>⟨p',a2,a3,a4⟩)
    (ST.wp_run (n:=vs.length) (lt:=ST.ltr (rk kds)) (λi j C hi hj hC=>?_) _ hq.1 ⟨rfl,hq.2⟩)) ?_ λ_ _ e=>e)
   ·refine rd.lt i j _ _ (by omega) (by omega) ?_
    rw [b6s hs (by omega) (by omega)];exact hC
   ·rintro ⟨⟨⟩,st'⟩ s2 ⟨p,har,hf,rfl,hP,hU⟩
    dsimp only;rw [<-hlen] at hP hU;exact tail st' p (kat_snds hl har) hf hP (a1t hs hP hU)
def a1b {q:Addr} {o:Obj} (hT:T = "list" \/ T = "tuple") (ho:s.heap.get? l=some o) (hc:o.cls=.type T) (hd:o.data=.seq vs.toArray n) (h64:vs.length<64)
  (h:∀ (a kS:Addr) (e1:Nat) (h':Heap) (P:PySem.Fin->Shared->Prop) (E':T0a),(∀ s',Q (.ref a) s'->P (.done (.ret .none)) s')->s.heap.objs.size<=a->a<kS->(∀ b o,s.heap.get? b=some o->h'.get? b=some o) ->
   h'.get? kS=some (yh "list" #[] 0)->h'.get? a=some (yh "list" #[] e1)->wpAny (model prog w) A.in1.in1 (ksk_rest a (.ref q) false vs.toArray e1 (.ref kS)) P E' { s with heap:=h' }):
  wpAny (model prog w) A (call (.builtin "sorted") [.ref l] [(jB "key", .ref q)]) Q E s:=by
 refine call_function_entry_kw kind_sorted plain_sorted entry_sorted (ksk_s1 _ _) ?_;unfold Builtin.«sorted»;refine q8 (m:=checkCount "sorted" 1 1 _) (j3 ?_);refine q8 (a2F hT ho hc hd (by rw [yt];omega) λh1 kp up=>?_);refine q8 (wpAny_newList ?_ (by rw [yt];omega));have hoL:(h1.push (yh "list" vs.toArray 0)).get? h1.objs.size=some (yh "list" vs.toArray 0):=qJ _ rfl;have keep:∀ b o,s.heap.get? b=some o->b≠h1.objs.size/\(h1.push (yh "list" vs.toArray 0)).get? b=some o:=λb o q=>⟨qc (qN (kp _ _ q)),qC _ (kp _ _ q)⟩;show wpAny _ _ _ _ _ { s with heap:=h1.push (yh "list" vs.toArray 0) };refine q8 (wz (wpAny_call_entry_kw slot_list_sort ⟨_,hoL,rfl⟩ entry_list_sort ?body (ksk_l1 _ _)))
 case body=>
  show wpAny (model prog w) A.in1.in1 (Builtin.«list.sort» ⟨[.ref h1.objs.size],[(jB "key", .ref q)]⟩) _ _ _;rw [ksk_t1];unfold ksk_tree;obtain ⟨e1,ho1⟩:∃ e1,((h1.push (yh "list" vs.toArray 0)).update h1.objs.size (kK λ_=>(#[]:Array Value))).get? h1.objs.size=some (yh "list" #[] e1):=⟨_,get?_update_seq hoL λ_=>#[]⟩;refine q8 (uz hoL rfl ?_);refine q8 (uq hoL rfl ?_ (by rw [qP,yt];omega) (qt _));refine q8 (seqEpoch_at ho1 rfl ?_);refine q8 (wpAny_newTuple ?_ (by show vs.length<=_;rw [yt];omega));refine q8 (wpAny_newList ?_ (qt _));refine wz ?_;refine h h1.objs.size (((h1.push (yh "list" vs.toArray 0)).update h1.objs.size (kK λ_=>(#[]:Array Value))).push (yh "tuple" vs.toArray 0)).objs.size e1 ((((h1.push (yh "list" vs.toArray 0)).update h1.objs.size (kK λ_=>(#[]:Array Value))).push (yh "tuple" vs.toArray 0)).push (yh "list" #[] 0)) _ _ (λs' hq=>⟨_,rfl,j3 ⟨_,rfl,hq⟩⟩) up ?_ (λb o e=>?_) (qJ _ rfl) (qC _ (qC _ ho1))
  ·rw [size_push',Heap.size_update,size_push'];exact jl (kt _)
  ·obtain ⟨hb,hq⟩:=keep b o e
   refine qC _ (qC _ ?_);rw [Heap.get?_update_ne _ _ _ _ hb];exact hq
end L2.L3
namespace L2.L3
open PySem PySem.Spec PySem.Calls PyProof.Rows
def nY (fe:EF):List j0->Option (List j0)
 | []=>some []
 | d::r=>match fe [.val d] with
  | some (.ok k)=>(nY fe r).map (k::·)
  | _=>none
def keyOk (ks:T0l):Bool:=match ks with
 | []=>true
 | x::xs=>(match b4h x with
  | some (k::g)=>(x::xs).all (cE (k::g))
  | _=>false)
def ixK (k:j0) (ks:T0l):Nat:=ks.findIdx λk'=>!ltT k k'&&!ltT k' k
def a6X (ds ks:T0l):Option (List j0):=
 if (qV ks.length).all (λi=>ixK (ks.getD i .none) ks==i) then some ((a0Y ks).map λk=>ds.getD (ixK k ks) .none) else none
def a1d (fe:EF) (ds:T0l):Option j0:=match nY fe ds with
 | some ks=>if keyOk ks&&decide (ks.length<64) then (a6X ds ks).map .list else none
 | none=>none
def a4k (fa fe:EF):EF:=λρ=>match fa ρ with
 | some (.ok x)=>lft ((tW x).bind (a1d fe))
 | _=>none
theorem yK {fe:EF}:∀ {ds ks:T0l},nY fe ds=some ks->ks.length=ds.length
 | [],ks,h=>by cases h;rfl
 | d::r,ks,h=>by
  unfold nY at h;split at h
  ·obtain ⟨l,e1,rfl⟩:=qU.mp h
   simp [yK e1]
  ·cases h
theorem a1J {fe:EF}:∀ {ds ks:T0l} {i:Nat} {d:j0},nY fe ds=some ks->ds[i]?=some d->∃ k,ks[i]?=some k/\fe [.val d]=some (.ok k)
 | [],ks,i,d,h,e=>by simp at e
 | d'::r,ks,i,d,h,e=>by
  unfold nY at h;split at h
  ·rename_i k ek
   obtain ⟨l,e1,rfl⟩:=qU.mp h;cases i with
   | zero=>simp at e;subst e;exact ⟨k,rfl,ek⟩
   | succ i=>
    have e':r[i]?=some d:=by simpa using e
    exact a1J (ks:=l) e1 e'
  ·cases h
def a9Q (h:keyOk ks=true):∃ k g,∀ d∈ks,cE (k::g) d=true:=by
 unfold keyOk at h;split at h
 ·exact ⟨true,[],λd hd=>by cases hd⟩
 ·split at h
  ·rename_i k g _;exact ⟨k,g,λd hd=>qm.mp h d hd⟩
  ·cases h
def a2P {out:T0l} {p:T0t} (h:a6X ds ks=some out) (hp:∀ i∈p,i<ks.length) (e:(p.map λi=>ks.getD i .none)=a0Y ks):out=p.map λi=>ds.getD i .none:=by
 unfold a6X at h;split at h
 ·rename_i hc
  cases (qA h);rw [<-e,qT];refine zQ λi hi=>?_;have:=qm.mp hc i (qo.mpr (hp i hi));show ds.getD (ixK (ks.getD i .none) ks) .none=_;rw [beq_iff_eq.mp this]
 ·cases h
variable {s0:Shared} {c:Addr}
structure KJ (X:Cx) (pq:T0b) (σ:St) (G H:Hp) (N:Nat) (f c a kS:Addr) (qual:Str) (params:Arguments) (body:Expr) (scope:Scope) (pm ct:Value) (kds:T0l) (ks:T0m) (s:Shared):Prop where
 ex:∃ G' H' kvs,Inv X pq σ H' s/\Grow G H G' H'/\pG X.K G' H'/\RepAll X.K G' kvs (kds.take ks.length)/\aU kvs ks/\H' f=none/\H' a=none/\H' kS=none
 fo:s.heap.get? f=some (b9P qual params body scope pm c ct)
 oa:∃ o,s.heap.get? a=some o
 okk:∃ o,s.heap.get? kS=some o
def oW {N:Nat} (I0:Inv X pq σ H0 s0) (I:Inv X pq σ H s) (hch:∀ b∈ch,s0.heap.objs.size<=b/\H b=none) (same:∀ b,b∉ch->h'.get? b=s.heap.get? b):
  Inv X pq σ H { s with heap:=h' }:=by
 have nt:∀ b u,H b=some u->b∉ch:=λb u e z=>by rw [(hch b z).2] at e;cases e
 have lt:∀ b∈ch,∀ d,d<s0.heap.objs.size->d≠b:=λb hb d hd z=>absurd (hch b hb).1 (by rw [<-z];exact Nat.not_le_of_lt hd);refine I.step (ch:=ch) (g':=s.gens) (d':=s.drawn) (t':=s.toks) (h':=h') (λb hb=>⟨.inr (qk I0.sz (hch b hb).1),λz=>lt b hb _ I0.lt z.symm,λx c e=>lt b hb c (by obtain ⟨v,q⟩:=I0.cell x c e;exact q.lt),λp hp=>lt b hb p.1 (qN (I0.pin p hp).1)⟩)
  (λb o _ _ hc e n=>(same b hc).trans e) (λb o _ _ hc e n=>⟨o.slots,(same b hc).trans e⟩) (λb o _ _ n=>n) (λb o hc e=>⟨o,(same b hc).trans e⟩) (λ_ _ e=>e) (λ_ _ _ e=>e) (λb ps e=>⟨#[],by rw [e];simp⟩) (λm ⟨o,es,ep,e,r⟩=>⟨o,es,ep,(same _ λz=>lt _ z _ I0.lt rfl).trans e,r⟩)
  (λb u e=>(I.hok b u e).stay (λb' u' hb' e'=>(same b' ?_).trans e') (λ_ z=>z) λ_ _ z=>z) I.bare
 rcases hb' with rfl | z
 ·exact nt _ _ e
 ·exact nt _ _ z
def a3D (I0:Inv X pq σ H0 s0) (I:Inv X pq σ H s) (ha:s0.heap.objs.size<=a) (hn:H a=none) (new:cM X.prog X.w (upd H a o) s.heap a o):Inv X pq σ (upd H a o) s:=by
 have lt:∀ d,d<s0.heap.objs.size->d≠a:=λd hd z=>absurd ha (by rw [<-z];exact Nat.not_le_of_lt hd);have nt:∀ b u,H b=some u->b≠a:=λb u e z=>by rw [z,hn] at e;cases e
 refine I.step (ch:=[a]) (g':=s.gens) (d':=s.drawn) (t':=s.toks) (h':=s.heap) (λb hb=>?_) (λb o _ _ hc e n=>e) (λb o _ _ hc e n=>⟨o.slots,e⟩) (λb o hc e n=>by rw [aE (by simpa using hc)];exact n) (λb o hc e=>⟨o,e⟩)
  (λb xs e=>by rw [aE (nt b _ e)];exact e) (λb o u e=>by rw [aE (nt b _ e)];exact e) (λb ps e=>⟨#[],by rw [aE (nt b _ e),e];simp⟩) (λm h=>h) (λb u e=>?_) I.bare
 ·obtain rfl:=qH.mp hb
  exact ⟨.inr (qk I0.sz ha),λz=>lt _ I0.lt z.symm,λx c e=>lt c (by obtain ⟨v,q⟩:=I0.cell x c e;exact q.lt),λp hp=>lt p.1 (qN (I0.pin p hp).1)⟩
 ·by_cases z:b=a
  ·subst z;rw [aH] at e;cases e;exact new
  ·rw [aE z] at e
   exact (I.hok b u e).stay (λ_ _ _ e'=>e') (λb' e'=>by rw [aE (nt b' _ e')];exact e') λb' xs e'=>by rw [aE (nt b' _ e')];exact e'
def sO (I:Inv X pq σ H s) {b:Addr} (h:s.heap.objs.size<=b):b∉frs X.stack:=λz=>by
 rcases qI.mp (I.stkSub b z) with e | e
 ·exact absurd I.lt (by rw [<-e];exact zo h)
 ·exact I.nofs h e
def b3p {x y:Str} {c P:Addr} {body a:Expr} {lp:Pos} {fa:EF} (hx:x∈fC) (ht:jh X.K x=some (c,P)) (hcode:X.env.code=.ref c)
  (hq:X.env.qual ++ "<lambda>" = lamQ x) (C:kQ X.K c P=true) (M:BM X.mg X.base) (hr:Room (k+3) X.A) (hm:X.mg "sorted" = none) (ha:DE X a fa) (S:FnScope [y] [y] scope)
  (hbody:∀ (f c:Addr) (A:Around) (outer:List Env) (s:Shared) (H:Hp),Room k (A.deeper (um (lamQ x) scope s.heap.objs.size f (.ref c)))->DE (fcx X.prog X.w X.K X.mg X.base [y] (lamQ x) scope f (.ref c) A outer s H E0) body fe)
  (hbind:∀ (pm ct u:Value) (c:Addr),uo (vM "<lambda>" (lamQ x) params body scope [] pm (.ref c) ct) ⟨[u],[]⟩=pure [(y,u)]:=by intros;rfl)
  (hdef:defaultsOf params X.env=([],[]):=by rfl) (hcl:closureFor scope X.env=pure []:=by rfl)
  (he:j4 [a] X.env=(false,eval a X.env)::j4 [] X.env:=by rfl)
  (he':v8 pos (j4 [a] X.env)=(false,eval a X.env)::v8 pos (j4 [] X.env):=by rfl) (hpl:(v8 pos (j4 [a] X.env)).any (·.1)=false:=by rfl)
  (hk1:(yz pos (w8 [⟨some "key", .Lambda params body scope lp,kp⟩] X.env)).filterMap (·.1)=[jB "key"]:=by rfl) (hg:Gl X "sorted":=by rfl):
  DE X (.Call (.Name "sorted" p) [a] [⟨some "key", .Lambda params body scope lp,kp⟩] pos) (a4k fa fe):=⟨λpq s σ H Q I ⟨ρ,r,H0,Gz,G,ef,R,q⟩=>by
 unfold a4k at ef;refine k9 (iV I hg hm (by rfl:yc "sorted" = some (.builtin "sorted")) ?_ (by decide) (by decide));split at ef
 ·rename_i d e1
  obtain ⟨out0,e3,rfl⟩:=bW ef;obtain ⟨ds,e4,e5⟩:=Option.bind_eq_some_iff.mp e3;unfold a1d at e5;split at e5
  ·rename_i kds ek
   split at e5
   ·rename_i hok
    rw [qL] at hok;obtain ⟨out,e6,rfl⟩:=qU.mp e5;obtain ⟨kk,gg,hs⟩:=a9Q hok.1;have k64:=of_decide_eq_true hok.2;have kl:=yK ek;refine callWith_kw (thn ((gI (ha.pd e1) mR he).run H0 Gz G pos pq s σ H (λvs H'=>∃ G',Grow G H G' H'/\RepAll X.K G' vs [d]) I R λvs G' H' g r=>⟨G',g,r⟩) λus s1 ⟨vs,H1,I1,r1,G1,g1,w1⟩=>?_) he' hpl;show wpAny _ _ (evalAll ((do let v <-eval (.Lambda params body scope lp) X.env;Qg pos;pure v)::[])) _ _ s1;refine QM (q8 (a5W hx ht hcode hq C M hdef hcl I1 (R.more g1) λf c' ct pm H2 s2 I2 g2 fo Hf sf hc'=>q8 (ur (j3 (j3 ?_)))));rw [hk1];cases w1 with | cons wa wn=>
    cases wn;obtain ⟨u,rfl,ru⟩:=vals1 r1;obtain ⟨l,ivs,rfl,hsq,ri⟩:=oK g2.sub e4 wa;cases ru;obtain ⟨its,T,o,n,hT,ho,hc,hd,rv⟩:=xW I2 hsq;have l1:=ri.len;have l2:=rv.length;have tb2:pG X.K G1 H2:=((R.more g1).more g2).tab;have nf:f∉frs X.stack:=sO I1 sf;refine a1b hT ho hc hd (by omega) λa kS e1' h' Pn E' hP ga gk kp' hk0 ha0=>?_;have gk':s2.heap.objs.size<=kS:=qk ga (jN gk);have na:a∉frs X.stack:=sO I2 ga;have nk:kS∉frs X.stack:=sO I2 gk';refine a5Y (J:=KJ X pq σ G1 H2 0 f c' a kS (lamQ x) params body scope pm ct kds) (kds:=kds) (jS gk) hk0 ha0 (by omega) hs (by omega) ?start ?mono ?step ?fin ?done
    case start=>exact ⟨⟨G1,H2,[],I2.kept (t':=s2.toks) kp',.refl g2.sub,tb2,.nil,.nil,Hf,I2.hok.fresh ga,I2.hok.fresh gk'⟩,kp' _ _ fo,⟨_,ha0⟩,⟨_,hk0⟩⟩
    case mono=>
     intro ks s3 h3 ⟨⟨G3,H3,kvs,I3,g3,t3,w3,v3,f3,a3,k3⟩,fo3,oa3,ok3⟩ same sz ok;have fk:f≠kS:=λz=>absurd (qN fo) (by rw [z];exact zo gk');refine ⟨⟨G3,H3,kvs,oW (N:=0) (ch:=[kS]) I2 I3 (λb hb=>?_) (λb hb=>same b (by simpa using hb)),g3,t3,w3,v3,f3,a3,k3⟩,(same f fk).trans fo3,?_,ok⟩
     ·obtain rfl:=qH.mp hb
      exact ⟨gk',k3⟩
     ·obtain ⟨oo,e⟩:=oa3
      exact ⟨oo,(same a (qc gk)).trans e⟩
    case step=>
     intro ks s3 xv hxv ⟨⟨G3,H3,kvs,I3,g3,t3,w3,v3,f3,a3,k3⟩,fo3,oa3,ok3⟩;have hi:ks.length<its.length:=(qR.mp hxv).1;have hdi:ds[ks.length]?=some (ds[ks.length]'(by omega)):=qD (by omega);obtain ⟨kd,ekd,efe⟩:=a1J ek hdi;obtain ⟨iv,eiv,riv⟩:=ri.get hdi;obtain ⟨xv',exv,rxv⟩:=rv.get eiv;rw [hxv] at exv;cases exv;have cr:s3.heap.CodeRec (.ref c') (lamQ x):=(I3.hok c' _ (g3.hh.keep c' _ hc' (by unfold cdO;nofun))).1;have r3:Room (k+1) X.A.in1.in1:=hr.in1.in1;refine QL (yo (b2o r3 I3.env0.in1.in1 fo3 cr S (hbind pm ct xv c') (hbody f c' _ _ _ _ (r3.deeper _)) ⟨g3.sub,t3⟩ (riv.mono g3.gg) rxv efe) λr s4 h4=>?_);cases r with
     | error e=>exact jX h4
     | ok fl=>
      cases fl with
      | next=>exact jX h4
      | brk=>exact jX h4
      | cont=>exact jX h4
      | ret u4=>
       obtain ⟨v4,H4,os4,bare4,un4,hok4,rv4,G4,g4,w4⟩:=h4;obtain ⟨_,_,I4,_,rfl,rfl⟩:=I3.after (Q:=λv H=>v=v4/\H=H4) (u:=u4) (s':=s4) ⟨v4,H4,os4,bare4,un4,hok4,rv4,rfl,rfl⟩;obtain ⟨oo,eoa⟩:=oa3;obtain ⟨ok',eok⟩:=ok3;have keepA:=un4.keep a oo eoa a3 na (by simp);have keepK:=un4.keep kS ok' eok k3 nk (by simp);refine ⟨⟨⟨G4,_,kvs++[_],I4,g3.trans g4,t3.more g4,?_,Paired.snoc v3 rv4,un4.free f _ fo3 f3 (by simp),un4.free a _ eoa a3 (by simp),un4.free kS _ eok k3 (by simp)⟩,un4.keep f _ fo3 f3 nf (by simp),⟨oo,keepA⟩,⟨ok',keepK⟩⟩,keepA.trans eoa.symm,keepK.trans eok.symm⟩;rw [qY,jO,wF,ekd];exact (w3.mono g4.gg).append (.cons w4 .nil)
    case fin=>
     intro ks s3 hl ⟨⟨G3,H3,kvs,I3,g3,t3,w3,v3,f3,a3,k3⟩,fo3,oa3,ok3⟩;rw [jv (by omega)] at w3;exact KeyS.of (a4q I3 (w3.mono g3.sub) (a8f hs) v3) hs
    case done=>
     intro pp ks s3 h3 hPm hS ⟨⟨G3,H3,kvs,I3,g3,t3,w3,v3,f3,a3,k3⟩,fo3,oa3,ok3⟩ same sz ⟨cc,hca⟩;refine hP _ ?_;have pl:∀ i∈pp.toList,i<ivs.length:=λi hi=>by
      have:=(vD.mp hPm.perm).mem_iff.mp hi;simp at this;omega
     have I5:Inv X pq σ H3 { s3 with heap:=h3 }:=oW (N:=0) (ch:=[kS,a]) I2 I3 (λb hb=>by
      rcases qI.mp hb with rfl | hb
      ·exact ⟨gk',k3⟩
      ·obtain rfl:=qH.mp hb
       exact ⟨ga,a3⟩) (λb hb=>same b (λz=>hb (by simp [z])) λz=>hb (by simp [z]))
     refine ⟨.ref a,_,a3D (o:=.lst (pp.toList.map λi=>ivs.getD i .non)) I2 I5 ga a3 ⟨?_,pp.toList.map λi=>its.getD i jf,cc,aU.pick rv _ pl,hca⟩,rfl,?_⟩
     ·rw [qF,qS,hPm.size]
      exact jN (nU (by omega))
     ·refine q (.ref a) _ _ ((g1.trans g2).trans (g3.trans (.put g3.sub a3))) (.list (.of aH) ?_)
      rw [a2P (p:=pp.toList) e6 (λi hi=>by have:=pl i hi;omega) hS];exact (ri.pick _ pl).mono (g3.gg.trans (Grow.put g3.sub a3).gg)
   ·cases e5
  ·cases e5
 ·cases ef⟩
variable {fa T:Addr}
section
variable {K:qB} {x:Str}
def b5z (m n:Nat) (Fu:Fun K x x st fa fd) (S:FnScope N ps (aD st)) (hm:N.length=m) (hn:ps.length=n) (kb:K.In base) (nb:base.Ns j6 mg) (hmg:mg x=some (.ref fa)) (ht:jh K x=some (c,T))
  (body:∀ (A:Around) (outer:List Env) (s:Shared) (H:Hp) (E:XK),Room k (A.deeper (um x (aD st) s.heap.objs.size fa (.ref c)))->DB (fcx P w K mg base N x (aD st) fa (.ref c) A outer s H E) (bN st) f):
  FnOk P w K mg base CX0 (k+1) fa fd ps (spD K λds d=>bZ m n f ds=some (.ok d)):=by
 obtain ⟨oc,od,kV,doc,pm,an,cdv,ct,osl,rfl,lk,hcd⟩:=Fu.ex;have hc:cdv=.ref c:=PySem.W.law_code kb nb ht hmg (kb _ _ lk) rfl;subst hc;refine b6D lk hcd S (λvs H Q E ⟨G,ds,d,s,r,hF,_⟩=>?_) (λA outer s H vs Q E hr ⟨G,ds,d,sm,r,hF,q⟩=>?_)
 ·have hF:bZ m n f ds=some (.ok d):=hF
  unfold bZ at hF;split at hF
  ·rename_i hl;rw [r.length,hl,hn]
  ·cases hF
 ·have hF:bZ m n f ds=some (.ok d):=hF
  unfold bZ at hF;split at hF
  ·rw [<-hm,<-sG] at hF
   split at hF
   ·rename_i d' e
    cases (qA hF);exact ⟨_,(body A outer s H E hr).run.nox,gB N ds,_,H,G,G,e,fR sm r,λv G' H' _ g rv=>q v G' H' g rv⟩
   ·rename_i ρ' e
    cases (qA hF);exact ⟨_,(body A outer s H E hr).run.nox,gB N ds,_,H,G,G,e,fR sm r,λG' H' σ' _ R'=>q .non G' H' R'.grow .none⟩
   ·cases hF
  ·cases hF
def a0C (m n:Nat) (D:Def K mg x st) (S:FnScope N ps (aD st)) (hm:N.length=m) (hn:ps.length=n) (kb:K.In base) (nb:base.Ns j6 mg) (ht:jh K x=some (c,T))
  (hb:∀ (kV doc pm:Value) (an:T0k) (cdv ct:Value) (us:T0m),us.length=ps.length->uo (je x x (eJ st) (bN st) (aD st) .none kV doc pm an cdv ct) ⟨us,[]⟩=pure (ps.zip us))
  (body:∀ (fa:Addr) (A:Around) (outer:List Env) (s:Shared) (H:Hp) (E:XK),Room k (A.deeper (um x (aD st) s.heap.objs.size fa (.ref c)))->DB (fcx P w K mg base N x (aD st) fa (.ref c) A outer s H E) (bN st) f):
  bM P w K mg base x (k+1) ps (bZ m n f):=by
 obtain ⟨fa,fd,Fu,hmg⟩:=D.ex;exact ⟨fa,fd,hmg,Fu.kp,Fu.binds hb,b5z m n Fu S hm hn kb nb hmg ht λA outer s H E hr=>body fa A outer s H E hr⟩
end
theorem a5R {β:Type}:∀ {l:List (Addr×β)} {a:Addr} {b:β},l.lookup a=some b->(a,b)∈l
 | [],_,_,e=>by cases e
 | (c,y)::r,a,b,e=>by
  rw [kR] at e;cases hb:a==c with
  | true=>rw [hb] at e;cases e;rw [eq_of_beq hb];exact .head _
  | false=>rw [hb] at e;exact .tail _ (a5R e)
variable {ts:List (Addr×Str)}
def a9M {K:qB} {mb:T0d} {x:Str} {F:List j0->Mm j0} {s1z:Shared} 
  (KX:K.In s1z.heap) (hns:s1z.heap.Ns j6 mg) (hb:s1z.heap.Ns u5 mb) (hbb:∀ x:Str,x ≠ "__name__" -> mb x=yc x) (hlim:s1z.heap.NoLimit) (hg:s1z.gens=#[])
  (ha:s1z.heap.get? a=some { cls:=.type "list", data:=.seq vs.toArray }) (hi:ul vs ns) (hl:ns.length<=j5) (hr:Room k Qc) (hbm:BM mg s1z.heap)
  (htab:∀ T q,ts.lookup T=some q->s1z.heap.get? T=some (wD #[])/\isCodeTable s1z.heap T/\K.lookup T=none) (hts:∀ x∈fC,∀ c T,jh K x=some (c,T)->ts.lookup T=some (lamQ x))
  (Fn:∀ base:Heap,K.In base->base.Ns j6 mg->BM mg base->FnOk P w K mg base CX0 k fa fd [x] (spD K λds d=>F ds=some (.ok d))) (hbind:∀ (s:Shared) (u:Value),BindsTo s fd ⟨[u],[]⟩ [(x,u)]) (hF:F [.list (ns.map .int)]=some (.ok (.bool true))):
  ua (model P w) Qc (.call (.ref fa) ⟨[.ref a],[]⟩) (λr s'=>r=.ok (.ret (.bool true))/\OldK s1z.heap s'.heap/\s'.os=s1z.os/\QC s'.gens) s1z:=by
 have rv:=xR hi;have lenV:=hi.length;have core:∀ S:Hp,c1O S->SqL K S a (ns.map V.int)->HOk P w S s1z.heap->(∀ b,S b≠none->b=a)->(S a≠none->K.lookup a=none) ->
   ua (model P w) Qc (.call (.ref fa) ⟨[.ref a],[]⟩) (λr s'=>r=.ok (.ret (.bool true))/\OldK s1z.heap s'.heap/\s'.os=s1z.os/\QC s'.gens) s1z:=by
  intro S hO hS hok hA hK;generalize hH:(λb=>match ts.lookup b with | some q=>some (HO.tbl (q,#[])) | none=>S b:Hp)=H;have H1:∀ b q,ts.lookup b=some q->H b=some (.tbl (q,#[])):=λb q e=>by rw [<-hH];simp [e]
  have H2:∀ b,ts.lookup b=none->H b=S b:=λb e=>by rw [<-hH];simp [e]
  have ta:∀ b,S b≠none->ts.lookup b=none:=λb e=>by
   cases q:ts.lookup b with
   | none=>rfl
   | some q'=>
    have z:=hA b e;subst z;have:=(htab _ _ q).1;rw [ha] at this;cases this
  have SH:bJ S H:=λb o e=>by rw [H2 b (ta b (by rw [e];simp))];exact e
  have hokH:HOk P w H s1z.heap:=λb u e=>by
   cases q:ts.lookup b with
   | some q'=>
    rw [H1 b q' q] at e;cases e;exact (htab _ _ q).1
   | none=>
    rw [H2 b q] at e;exact (hok b u e).stay (λ_ _ _ z=>z) (λb' z=>SH b' _ z) λb' xs z=>SH b' _ z
  have free:∀ {b:Addr} {o:Obj},s1z.heap.get? b=some o->o≠wD #[]->o≠{ cls:=.type "list", data:=.seq vs.toArray }->H b=none:=λ{b o} e n1 n2=>by
   cases q:ts.lookup b with
   | some q'=>exact absurd (qA (e.symm.trans (htab _ _ q).1)) n1
   | none=>
    rw [H2 b q];cases z:S b with
    | none=>rfl
    | some u=>
     have y:=hA b (by rw [z];simp);subst y;exact absurd (qA (e.symm.trans ha)) n2
  have base_of:∀ {b:Addr} {o:Obj},s1z.heap.get? b=some o->H b=none->(a2C s1z.heap H).get? b=some o:=λe n=>b2D e n;have nsK:∀ {b:Addr} {m:T0d},s1z.heap.Ns b m->(a2C s1z.heap H).Ns b m:=λ{b m} ⟨o,es,ep,e,d,r⟩=>⟨o,es,ep,base_of e (free e (λz=>by rw [z] at d;cases d) λz=>by rw [z] at d;cases d),d,r⟩
  have hKb:K.In (a2C s1z.heap H):=λb o e=>base_of (KX b o e) (by
   cases q:ts.lookup b with
   | some q'=>rw [(htab _ _ q).2.2] at e;cases e
   | none=>
    rw [H2 b q];cases z:S b with
    | none=>rfl
    | some u=>
     have y:=hA b (by rw [z];simp);subst y
     rw [hK (by rw [z];simp)] at e;cases e)
  have hM:Mod K mg (a2C s1z.heap H):=⟨hKb,nsK hns,⟨mb,nsK hb,hbb⟩,let ⟨mc,h1,h2⟩:=hlim;⟨mc,nsK h1,h2⟩⟩;have hB:BM mg (a2C s1z.heap H):=by
   obtain ⟨bm,ob,b1,b2,b3,b4,b5,b6,b7⟩:=hbm.ex;exact ⟨bm,ob,b1,b2,b3,base_of b4 (free b4 (λz=>by rw [z] at b5;cases b5) λz=>by rw [z] at b5;injection b5 with b5;exact absurd b5 (by decide)),b5,b6,b7⟩
  have e0:Env0 P w K mg (a2C s1z.heap H) Qc [] s1z H:=⟨rfl,hM,λb o e=>b4Q e,Nat.le_of_eq (a9W _ _),trivial,λb hb=>absurd (show b∈([]:T0o) from hb) (by simp),hokH,.of_eq hg⟩
  have tabs:pG K S H:=⟨λx hx c T e=>⟨#[],H1 _ _ (hts x hx c T e),trivial,λpos cv e=>by cases e⟩,λb ps e=>by
   rcases hO b with z | ⟨o,xs,z⟩<;>rw [z] at e<;>cases e⟩
  refine yo ((Fn _ hKb (nsK hns) hB).run Qc [] s1z H ⟨[.ref a],[]⟩ [.ref a] [.ref a] (λv _=>v=.bl true) E0 hr e0 (hbind s1z (.ref a)) (.cons rfl .nil) ⟨S,[.list (ns.map .int)],.bool true,⟨SH,tabs⟩,.cons (.list hS (oR ns)) .nil,hF,λv G' H' _ r=>by cases r;rfl⟩) λr s' h=>?_;cases r with
  | error e=>exact jX h
  | ok fl=>
   cases fl with
   | next=>exact jX h
   | brk=>exact jX h
   | cont=>exact jX h
   | ret u=>
    obtain ⟨v,H',os,bare,un,hok',r',q⟩:=h;have q':v=.bl true:=q;subst q';obtain rfl:u=zt true:=r';refine ⟨rfl,⟨λb o e=>?_,λb o e=>un.there b o e (by simp)⟩,os,bare⟩;cases y:ts.lookup b with
    | some q2=>
     obtain ⟨t1,t2,t3⟩:=htab _ _ y;rw [e] at t1;cases t1;obtain ⟨more,em⟩:=un.tbls b _ (H1 b q2 y);exact .inr (.inl ⟨t2,rfl,#[],more,rfl,hok' b _ em⟩)
    | none=>
     cases q:S b with
     | none=>exact .inl (un.keep b o e (by rw [H2 b y];exact q) (by intro z;exact absurd (show b∈([]:T0o) from z) (by simp)) (by simp))
     | some u=>
      rcases hO b with z | ⟨ob,xs,z⟩
      ·rw [q] at z;cases z
      ·have z2:=un.frzs b ob _ (SH b _ z)
       obtain ⟨e1,_⟩:=hok b _ z;obtain ⟨e2,_⟩:=hok' b _ z2;rw [e] at e1;cases e1;exact .inl e2
 cases hk:K.lookup a with
 | some o=>
  have e:=KX a o hk;rw [ha] at e;cases e;refine core (λ_=>none) (λ_=>.inl rfl) (.inr ⟨_,vs.toArray,_,hk,rfl,rfl,rfl,by rw [qP,lenV];exact hl,by simpa using rv⟩) (λb u z=>by have z':(none:Option HO)=some u:=z;cases z') (λb z=>absurd rfl z) λz=>absurd rfl z
 | none=>
  refine core (λb=>if b=a then some (.frz { cls:=.type "list", data:=.seq vs.toArray } (.lst (ns.map V.int))) else none) (λb=>?_) (.inl (.inr ⟨{ cls:=.type "list", data:=.seq vs.toArray },if_pos rfl⟩)) (λb u z=>?_) (λb z=>?_) λ_=>hk
  ·by_cases hb:b=a
   ·exact .inr ⟨_,_,if_pos hb⟩
   ·exact .inl (if_neg hb)
  ·by_cases hb:b=a
   ·have z':=(if_pos hb).symm.trans z
    cases z';subst hb;exact ⟨ha,by rw [qF];exact hl,vs,_,rv,ha⟩
   ·have z':=(if_neg hb).symm.trans z
    cases z'
  ·by_cases hb:b=a
   ·exact hb
   ·exact absurd (if_neg hb) z
def walkL {l:PySem.W.OpenLaw} {q:Program} {loose:T0q} {XP:(Str->Option Value)->Heap->Prop} {YP:World->Heap->Prop} {d:DefRec} {K:Params->qB} {F:World->List j0->Mm j0} {x:Str} (ts:List (Addr×Str)) (hn:l.most=some 63) (hdf:d.params.defaults=[]) (hr:Room k Qc)
  (hY:∀ (w:World) (h:Heap),YP w h->(K w.params).In h) (hT:∀ (w:World) (h:Heap),YP w h->∀ p∈ts.map (·.1),h.get? p=some (wD #[])) (hcd:∀ w:World,∀ p∈ts,(∃ c,kQ (K w.params) c p.1=true)/\(K w.params).lookup p.1=none)
  (hts:∀ w:World,∀ x∈fC,∀ c T,jh (K w.params) x=some (c,T)->ts.lookup T=some (lamQ x))
  (Fn:∀ (w:World) (mg:T0d) (fa:Addr) (h:Heap),(K w.params).In h->h.Ns j6 mg->mg d.name=some (.ref fa) ->
   ∃ fd:yk,(∀ (s:Shared) (u:Value),BindsTo s fd ⟨[u],[]⟩ [(x,u)])/\∀ base:Heap,(K w.params).In base->base.Ns j6 mg->BM mg base->FnOk l.prog w (K w.params) mg base CX0 k fa fd [x] (spD (K w.params) λds d=>F w ds=some (.ok d)))
  (hF:∀ (w:World) (ns:T0s),ns.length<=63->F w [.list (ns.map .int)]=some (.ok (.bool true))):
  PySem.W.WalkO q loose XP YP l.row.toRowW d [] (λf vs=>PySem.call f vs):=by
 refine Att.attach_call hn hdf λw s₀ s1z mg mb fa o pm cd doc a vs ns G Y ho hd hcd' hmg hobj hints hlen hg=>?_;have KX:=hY w _ Y;obtain ⟨fd,hb,hFn⟩:=Fn w mg fa _ KX G.T.g hmg;have hbm:BM mg s1z.heap:=by
  obtain ⟨bm,ob,b1,b2,b3,b4,b5,b6⟩:=G.T.bmain;refine ⟨bm,ob,b1,b2,λz=>?_,b3,b4,b5,b6⟩;obtain ⟨o,es,ep,e,hd,_⟩:=G.T.g;rw [z,e] at b3;cases b3;rw [hd] at b6;cases b6
 refine a9M (ts:=ts) KX G.T.g G.T.b G.T.builtins G.T.nolimit hg hobj hints (qk hlen (by decide)) hr hbm (λT q e=>?_) (hts w) hFn hb (hF w ns hlen);have m:=a5R e;have e1:=hT w _ Y T (qi (f:=(·.1)) m);obtain ⟨⟨c,hc⟩,hn'⟩:=hcd w _ m;exact ⟨e1,((PySem.W.codeHd_of_K KX hc).tab e1).isCodeTable,hn'⟩
def b6z (K:qB) (ts:List (Addr×Str)) (x:Str):Bool:=match jh K x with
 | none=>true
 | some (_,T)=>ts.lookup T==some (lamQ x)
def lam_all {K:qB} (h:fC.all (b6z K ts)=true):∀ x∈fC,∀ c T,jh K x=some (c,T)->ts.lookup T=some (lamQ x):=λx hx c T e=>by
 have:=qm.mp h x hx;unfold b6z at this;rw [e] at this;exact eq_of_beq this
def all_cons {α:Type} {p:α->Prop} {a:α} {l:List α} (h:p a) (t:∀ x∈l,p x):∀ x∈a::l,p x:=List.forall_mem_cons.mpr ⟨h,t⟩
abbrev a9N (qual:Str) (scope:Scope) (L f:Addr) (cd:Value) (cl:T0f):Env:=newEnv scope L j6 cl (qual ++ ".<locals>.") (some f) cd none u5
section
variable {K:qB}
def cxL (P:Program) (w:World) (K:qB) (mg:T0d) (base:Heap) (N:T0q) (env:Env) (A:Around) (outer:List Env) (s:Shared) (H:Hp) (E:XK):Cx where
 prog:=P
 w:=w
 K:=K
 mg:=mg
 base:=base
 A:=A.deeper env
 N:=N
 s₀:=s
 H₀:=H
 env:=env
 outer:=outer
 stack:=env::outer
 ex:=[]
 calm:=true
 fn:=λ_=>false
 pn:=[]
 xe:=λe s'=>wpAny (model P w) (A.deeper env) (leaving env e) (λ_ s''=>CX1 P w outer H s E e s'') (λe' s''=>CX1 P w outer H s E e' s'') s'
structure Caps (cl:T0f) (scope:Scope) (N:T0q) (σ:St) (H:Hp) (h:Heap):Prop where
 inj:∀ x y c,cl.lookup x=some c->cl.lookup y=some c->x=y
 has:∀ x,scope.names.lookup x=some .free->∃ c,cl.lookup x=some c
 cell:∀ x c,cl.lookup x=some c->H c=none/\∃ v,h.IsCell c v
 val:∀ (i:Nat) (x:Str) (v:V),N[i]?=some x->σ[i]?=some (some v)->scope.names.lookup x=some .free/\∃ u c,RelV v u/\cl.lookup x=some c/\h.IsCell c (some u)
 len:σ.length=N.length
end
section
variable {K:qB} {x:Str} {F:Str->Mm j0}
end
variable {L:List Str}
section
variable {K:qB} {x:Str} {F:Str->Mm j0}
end
def b6b {cap:T0e} (B:Blk X scope N' cap) (I:Inv X pq σ H s):Caps (xB scope X.env) scope N' (fX cap σ) H s.heap:=by
 have cl:∀ x c,(xB scope X.env).lookup x=some c->X.env.cells.lookup x=some c:=λx c h=>a4Z h;refine ⟨λx y c h1 h2=>I.ok.inj x y c (cl x c h1) (cl y c h2),λx h=>?_,λx c h=>⟨I.freeC x c (cl x c h),I.cell x c (cl x c h)⟩,λi x v e1 e2=>?_,by unfold fX;rw [qF];exact B.len⟩
 ·have hm:=ql h
  obtain ⟨c,e⟩:=I.ok.has x (.inl (B.free _ hm rfl));exact ⟨c,xA hm e⟩
 ·unfold fX at e2
  rw [qQ] at e2;cases hc:cap[i]? with
  | none=>rw [hc] at e2;cases e2
  | some o=>
   rw [hc] at e2;cases o with
   | none=>cases e2
   | some j=>
    have e3:(σ[j]?).getD none=some v:=qA e2;have e4:σ[j]?=some (some v):=by
     cases q:σ[j]? with
     | none=>rw [q] at e3;cases e3
     | some w'=>rw [q] at e3;have:w'=some v:=e3;rw [this]
    obtain ⟨y,h1,h2,h3⟩:=B.caps i j hc;rw [e1] at h1;cases h1;have hcell:X.env.kindOf x=some .cell:=B.free _ (ql h3) rfl;obtain ⟨m,_,hl⟩:=I.loc;obtain ⟨u,r,l⟩:=hl j x v h2 e4 (.inr (.inl hcell));rcases l with ⟨k,_⟩ | ⟨_,c,e,z⟩
    ·rw [hcell] at k;cases k
    ·exact ⟨h3,u,c,r,xA (ql h3) e,z⟩
section
variable {K:qB}
end
section
variable {x:Str}
end
end L2.L3
namespace L2.SX
open PySem PyProof.Rows
section
variable {K:Type} [DecidableEq K] {knd:KeyKind prog w K}
end
section
variable {K:Type} [DecidableEq K] {knd:KeyKind prog w K}
end
end L2.SX
namespace L2
open PySem PySem.Spec PyProof.Rows
section
variable (P:Program) (w:World)
end
section
variable {h:Heap} {o:HO}
end
section
variable {h:Heap} {x e:Addr}
end
section
variable {fs fs' ex ex':T0o} {h h2:Heap} {x e:Addr} {o:HO}
end
section
variable {σ:List (Option V)}
end
section
variable {a:Expr}
variable {tA tB':TT} {rest:T0n}
end
section
variable {xs ys:List V}
end
section
variable {rest:List Stmt} {t u:TS}
end
variable {tc:TE}
section
variable {a:Expr}
end
section
variable {a:Expr}
end
variable {f:Addr}
section
variable {K:qB} {x:Addr} {v:Value}
end
section
variable {h:Heap} {fs fs':List (Str×V)}
end
section
variable {fs:List (Str×V)} {f:Str}
end
variable {o:Expr}
section
variable {f:Str}
end
section
variable {c:Value} {b:Bool}
end
variable {t:TA}
section
variable {dvs:List V} {ds:T0m} {E:XK} {x m:Str}
end
section
variable {ks:T0q} {E:XK} {x m:Str} {kpos:Pos} {kws:List Keyword} {tk:TA} {nm:Option Str}
variable {g:List Value->List Value->List Value} {gV:List V->List V->List V}
end
section
variable {x:Str} {id:String} {r:List V->Hp->VK->Prop}
end
section
variable {κ:Type} [DecidableEq κ]
def a6N (kvs:List (κ×V)) (k:κ):Option V:=(kvs.find? λkv=>decide (kv.1=k)).map (·.2)
def putK (kvs:List (κ×V)) (k:κ) (v:V):List (κ×V):=
 if (kvs.any λkv=>decide (kv.1=k))=true then kvs.map (λkv=>if kv.1=k then (kv.1,v) else kv) else kvs++[(k,v)]
def a5l {p:κ×V} {r:List (κ×V)} {k:κ} (e:p.1=k):a6N (p::r) k=some p.2:=by simp [a6N,vB,e]
def a5m {p:κ×V} {r:List (κ×V)} {k:κ} (e:¬p.1=k):a6N (p::r) k=a6N r k:=by simp [a6N,vB,e]
theorem a5n (k:κ):∀ kvs:List (κ×V),(kvs.any λkv=>decide (kv.1=k))=(a6N kvs k).isSome
 | []=>rfl
 | p::r=>by
  rw [jz];by_cases e:p.1=k
  ·simp only [a5l e,decide_eq_true e,Bool.true_or,Option.isSome_some]
  ·rw [a5m e,decide_eq_false e,Bool.false_or];exact a5n k r
def rK (kvs:List (κ×V)) (k:κ) (v:V):(putK kvs k v).length<=kvs.length+1:=by
 unfold putK;split
 ·rw [qF];omega
 ·rw [qY,qW,zz];omega
def a0k.isSome_eq {o:Option V} {u:Option Value} (r:a0k o u):o.isSome=u.isSome:=by
 cases o with
 | none=>cases u with
  | none=>rfl
  | some _=>exact (show False from r).elim
 | some _=>cases u with
  | none=>exact (show False from r).elim
  | some _=>rfl
theorem KV.any {kvs:List (κ×V)} {vs:List (κ×Value)} (r:KV kvs vs) (k:κ):(kvs.any λkv=>decide (kv.1=k))=vs.any λkv=>decide (kv.1=k):=by
 unfold KV at r
 induction r with
 | nil=>rfl
 | cons h t ih=>rw [jz,jz,ih,h.1]
def KV.repl {kvs:List (κ×V)} {vs:List (κ×Value)} (r:KV kvs vs) (k:κ) (ry:RelV y u):
  KV (kvs.map λkv=>if kv.1=k then (kv.1,y) else kv) (vs.map λkv=>if kv.1=k then (kv.1,u) else kv):=by
 unfold KV at r ⊢
 induction r with
 | nil=>exact .nil
 | @cons p q ps qs h t ih=>
  rw [qK,qK];refine .cons ?_ ih;obtain ⟨h1,h2⟩:=h;by_cases e:p.1=k
  ·rw [if_pos e,if_pos (h1.symm.trans e)];exact ⟨h1,ry⟩
  ·rw [if_neg e,if_neg (λz=>e (h1.trans z))];exact ⟨h1,h2⟩
theorem KV.put {kvs:List (κ×V)} {vs:List (κ×Value)} (r:KV kvs vs) (k:κ) (ry:RelV y u):KV (putK kvs k y) (stored vs k u):=by
 unfold putK stored;rw [r.any k];by_cases e:(vs.any λkv=>decide (kv.1=k))=true
 ·rw [if_pos e,if_pos e];exact r.repl k ry
 ·rw [if_neg e,if_neg e];exact Paired.snoc r ⟨rfl,ry⟩
theorem KV.length {kvs:List (κ×V)} {vs:List (κ×Value)} (r:KV kvs vs):kvs.length=vs.length:=wB r
end
def b6A {k:Key} (r:RelV (kV k) u):(bK P w).is k u=true:=by
 cases k with
 | inl i=>obtain ⟨t,e⟩:=(show ∃ t,u=wL i t from r);subst e;exact a0r P w i t
 | inr x=>obtain ⟨t,e⟩:=(show ∃ t,u=Value.str x t from r);subst e;exact a0q P w x t
theorem a3C {P:Program} {w:World}:∀ {ks:List Key} {us:T0m},aU (ks.map kV) us->ItemsAre (bK P w) ks us
 | [],_,r=>by rw [zj] at r;cases r;exact .nil
 | k::ks,_,r=>by
  rw [qK] at r;cases r with
  | cons h t=>exact .cons (b6A h) (a3C t)
abbrev KT (H:Hp):List (List Key×V)->List (List Key×Addr×Value)->Prop:=Paired λp q=>p.1=q.1/\H q.2.1=some (.tup (p.1.map kV))/\RelV p.2 q.2.2
variable {kvs:List (List Key×V)} {xs:List (List Key×Addr×Value)}
theorem KT.val (r:KT H kvs xs) (k:List Key):a0k (a6N kvs k) ((atKey xs k).map (·.2)):=by
 induction r with
 | nil=>exact vN
 | @cons p q ps qs h t ih=>
  obtain ⟨h1,_,h2⟩:=h;by_cases e:p.1=k
  ·have e':q.1=k:=h1.symm.trans e
   have b:atKey (q::qs) k=some q.2:=by simp [atKey,vB,e']
   rw [a5l e,b];exact h2
  ·have e':¬q.1=k:=λz=>e (h1.trans z)
   have b:atKey (q::qs) k=atKey qs k:=by simp [atKey,vB,e']
   rw [a5m e,b];exact ih
def KT.repl (r:KT H kvs xs) (k:List Key) (ry:RelV y u):
  KT H (kvs.map λkv=>if kv.1=k then (kv.1,y) else kv) (xs.map (putAt k u)):=by
 induction r with
 | nil=>exact .nil
 | @cons p q ps qs h t ih=>
  rw [qK,qK];refine .cons ?_ ih;obtain ⟨h1,h2,h3⟩:=h;unfold putAt;by_cases e:p.1=k
  ·rw [if_pos e,if_pos (h1.symm.trans e)];exact ⟨h1,h2,ry⟩
  ·rw [if_neg e,if_neg (λz=>e (h1.trans z))];exact ⟨h1,h2,h3⟩
theorem KT.put (r:KT H kvs xs) (k:List Key) {b:Addr} (hb:H b=some (.tup (k.map kV))) (ry:RelV y u):
  KT H (putK kvs k y) (storedH xs k b u):=by
 have e:(kvs.any λkv=>decide (kv.1=k))=(atKey xs k).isSome:=by
  rw [a5n,(r.val k).isSome_eq,Option.isSome_map]
 unfold putK storedH;rw [e];by_cases q:(atKey xs k).isSome=true
 ·rw [if_pos q,if_pos q];exact r.repl k ry
 ·rw [if_neg q,if_neg q];exact Paired.snoc r ⟨rfl,hb,ry⟩
def KT.keeps (r:KT H kvs xs) (ht:∀ b ys,H b=some (.tup ys)->H' b=some (.tup ys)):KT H' kvs xs:=
 Paired.mapP r λ_ _ z=>⟨z.1,ht _ _ z.2.1,z.2.2⟩
section
variable {h:Heap}
def b6t {u:HO} (ok:HOk P w H h) (e:Rd H a u):cM P w H h a u:=e.ok ok
def a8W {kvs:List (Key×V)} (ok:HOk P w H h) (e:Rd H a (.dK kvs)):kvs.length<=j5/\(a==yf)=false/\∃ vs,KV kvs vs/\h.DictOf (bK P w) a vs:=
 show cM P w H h a (.dK kvs) from b6t ok e
def b3j {kvs:List (Key×V)} (ok:HOk P w H h) (e:H a=some (.dK kvs)):kvs.length<=j5/\(a==yf)=false/\∃ vs,KV kvs vs/\h.DictOf (bK P w) a vs:=a8W ok (.inl e)
def b2q {ks:List Key} (ok:HOk P w H h) (e:H a=some (.tup (ks.map kV))):(Qh (bK P w)).is h ks a:=by
 obtain ⟨_,its,r,o,h1,h2,n,h3⟩:=(show cM P w H h a (.tup (ks.map kV)) from ok a _ e);exact ⟨o,its.toArray,n,h1,h2,h3,by simpa using a3C r⟩
def b6H (ok:HOk P w H h) (e:Rd H a (.dT kvs)):kvs.length<=j5/\(a==yf)=false /\
  ∃ xs,KT H kvs xs/\h.DictOfH (Qh (bK P w)) a xs:=by
 obtain ⟨z,y,xs,r,o,es,ep,h1,h2,h3,h4,h5⟩:=(show cM P w H h a (.dT kvs) from b6t ok e);refine ⟨z,y,xs,r,o,es,ep,h1,h2,h3,h4,λx hx=>?_,h5⟩;have all:∀ {l:List (List Key×V)} {m:List (List Key×Addr×Value)},KT H l m->∀ x∈m,(Qh (bK P w)).is h x.1 x.2.1:=by
  intro l m q
  induction q with
  | nil=>intro x hx;exact nomatch hx
  | @cons p q ps qs hq t ih=>
   intro x hx;rcases qI.mp hx with e | hx
   ·subst e
    exact b2q ok (by rw [<-hq.1];exact hq.2.1)
   ·exact ih x hx
 exact all r x hx
def c0g (ok:HOk P w H h) (e:H a=some (.dT kvs)):kvs.length<=j5/\(a==yf)=false /\
  ∃ xs,KT H kvs xs/\h.DictOfH (Qh (bK P w)) a xs:=b6H ok (.inl e)
end
def c0t (H:Hp) (a:Addr) (y v:V) (H':Hp):Prop:=
 (∃ kvs k,H a=some (.dK kvs)/\y=kV k/\kvs.length<j5/\H'=upd H a (.dK (putK kvs k v))) \/
 ∃ kvs k b,H a=some (.dT kvs)/\y=.ref b/\H b=some (.tup (k.map kV))/\kvs.length<j5/\H'=upd H a (.dT (putK kvs k v))
variable {r:Value}
section
variable {o:Option V}
theorem Inv.big (I:Inv X pq σ H s):yf<s.heap.objs.size:=by
 have h:j6<s.heap.objs.size:=(I.mod.glob.keeps I.bk).lt;exact vq (by decide) h
def a0P {ob:HO} (I:Inv X pq σ H s) (mu:Mut (H a)) (hs:kj a s.heap h') (he:∃ q,h'.get? a=some q) (new:cM X.prog X.w (upd H a ob) h' a ob):
  Inv X pq σ (upd H a ob) { s with heap:=h',toks:=t' }:=
 I.write (x:=a) (e:=a) mu (.inl rfl) (λb q hb z=>(hs.2 b hb).trans z) he new
def b3k {kvs:List (Key×V)} {vs:List (Key×Value)} (z:kvs.length<=j5) (hd:(a==yf)=false) (rel:KV kvs vs) (dd:h'.DictOf (bK P w) a vs):
  cM P w H' h' a (.dK kvs):=⟨z,hd,vs,rel,dd⟩
def b0j {Q:Unit->Shared->Prop} (hu:A.units+1<cLine) (I:Inv X pq σ H s) (g:c0t H a y v H') (ry:RelV y u) (rv:RelV v r) (h:∀ s',Inv X pq σ H' s'->Q () s'):
  wpAny (model X.prog X.w) A (setItem (.ref a) u r) Q E s:=by
 rcases g with ⟨kvs,k,e,ey,l,eH⟩ | ⟨kvs,k,b,e,ey,eb,l,eH⟩
 ·subst ey eH
  obtain ⟨z,hd,vs,rel,dd⟩:=b3j I.hok e;have hz:vs.length<=j5:=by rw [<-rel.length];exact z
  have hl:(putK kvs k v).length<=j5:=by have:=rK kvs k v;omega
  refine wpAny_setItem_pairs (hsz:=hz) (b6A ry) dd λh' dd' hs=>h _ ?_;have he:∃ q,h'.get? a=some q:=let ⟨q,_,_,hq,_⟩:=dd';⟨q,hq⟩
  exact a0P I (by rw [e];exact vN) hs he (b3k hl hd (rel.put k rv) dd')
 ·subst ey eH
  cases (show u=jU b from ry);obtain ⟨z,hd,xs,rel,dd⟩:=c0g I.hok e;have hz:xs.length<=j5:=by rw [<-wB rel];exact z
  have hl:(putK kvs k v).length<=j5:=by have:=rK kvs k v;omega
  refine wpAny_setItem_heap (hsz:=hz) (tupleKind_room_in1 hu) (b2q I.hok eb) dd λh' dd' hs=>h _ ?_;obtain ⟨q,es,ep,hq,h2,h3,h4,_,h5⟩:=dd';refine a0P I (by rw [e];exact vN) hs ⟨q,hq⟩ ⟨hl,hd,_,(rel.put k eb rv).keeps λc ys ec=>?_,q,es,ep,hq,h2,h3,h4,h5⟩;rw [aE (cO ec e (λz=>nomatch z))];exact ec
end
section
variable {kvs:List (Key×V)} {k:Key}
end
def b9j (td ty tv:TE):TS:=λD σ H=>tv σ H λv H1=>td σ H1 λx H2=>ty σ H2 λy H3=>∃ a H4,x=.ref a/\c0t H3 a y v H4/\D.nx σ H4
variable {ty:TE}
section
variable {i:Expr}
def b4s (hu:X.A.units+1<cLine) (ho:PE X o td) (hi:PE X i ty) (hv:PE X value tv) (hs:wy value (some (.Subscript o i pos')) pos.line X.env=pure false):
  PS X (.Assign [.Subscript o i pos'] value pos) (b9j td ty tv):=by
 intro pq s σ H D I h;refine wpAny_Assign_Subscript (thn (hv pq s σ H _ I h) λr s1 ⟨v,H1,I1,rv,q1⟩=>thn (ho pq s1 σ H1 _ I1 q1) λu s2 ⟨x,H2,I2,rx,q2⟩=>thn (hi pq s2 σ H2 _ I2 q2) λiv s3 ⟨y,H3,I3,ry,a,H4,ex,g,q3⟩=>?_) hs;subst ex;obtain rfl:u=jU a:=rx;exact b0j hu I3 g ry rv λs4 I4=>⟨σ,H4,I4,q3⟩
end
def b3l (h:Heap) (hb:yf<h.objs.size):cM P w H (h.push { cls:=.type "dict", data:=.dict #[] }) h.objs.size (.dK []):=
 ⟨qt _,beq_eq_false_iff_ne.mpr (jT (qc hb)),[],.nil,Heap.DictOf.new h⟩
def b6Y:TE:=λ_ H Q=>∀ p,H p=none->Q (.ref p) (upd H p (.dK []))
def b1J:PE X (.Dict [] [] pos) b6Y:=λpq s σ H Q I h=>
 wpAny_Dict_empty ⟨.ref s.heap.objs.size,_,I.laid (a:=s.heap.objs.size) (o:=.dK []) (t':=s.toks) (λ_ _ q=>qC _ q) (qM _) (b3l s.heap I.big),rfl,h _ (I.hok.fresh (qM _))⟩
def yH (kvs more:List (Key×V)):List (Key×V):=more.foldl (λacc kv=>putK acc kv.1 kv.2) kvs
def KV.merge:∀ {more:List (Key×V)} {rs:List (Key×Value)} {kvs:List (Key×V)} {vs:List (Key×Value)},KV more rs->KV kvs vs->KV (yH kvs more) (merged vs rs):=by
 intro more rs kvs vs r;unfold KV at r
 induction r generalizing kvs vs with
 | nil=>intro q;exact q
 | @cons p q ps qs h t ih=>
  intro r0;have e:KV (putK kvs p.1 p.2) (stored vs q.1 q.2):=by
   have:=r0.put p.1 h.2;rw [<-h.1];exact this
  exact ih e
theorem tM:∀ (more kvs:List (Key×V)),(yH kvs more).length<=kvs.length+more.length
 | [],kvs=>by show kvs.length<=kvs.length+0;omega
 | p::r,kvs=>by
  have h1:=tM r (putK kvs p.1 p.2);have h2:=rK kvs p.1 p.2;show (yH (putK kvs p.1 p.2) r).length<=_;rw [qW];omega
def IsD (H:Hp) (a:Addr):Prop:=(∃ kvs,Rd H a (.dK kvs))\/∃ kvs,Rd H a (.dT kvs)
def b8i (I:Inv X pq σ H s) (d:IsD H a):
  s.TypeIs (.ref a) "dict" /\ (∀ b,jU a=.ref b->∃ ob,s.heap.get? b=some ob/\ob.dict=none)/\(a==yf)=false:=by
 rcases d with ⟨kvs,e⟩ | ⟨kvs,e⟩
 ·obtain ⟨_,hd,vs,_,dd⟩:=a8W I.hok e
  refine ⟨dd.typeIs,λb q=>?_,hd⟩;cases q;obtain ⟨ob,_,_,h1,h2,_⟩:=dd;exact ⟨ob,h1,h2.2.1⟩
 ·obtain ⟨_,hd,xs,_,dd⟩:=b6H I.hok e
  refine ⟨dd.typeIs,λb q=>?_,hd⟩;cases q;obtain ⟨ob,_,_,h1,h2,_⟩:=dd;exact ⟨ob,h1,h2.2.1⟩
section
variable {d:V} {o:Option V}
end
section
variable {f:Expr} {tx:TE}
end
section
variable {kvs:List (Key×V)}
end
end L2
namespace Att
open PySem PySem.W PySem.Calls PyProof.Rows
section
variable {K:Frag}
end
end Att
namespace L2
open PySem PySem.Spec PyProof.Rows
section
variable {K:qB}
end
section
variable {κ:Type} [DecidableEq κ]
end
end L2
namespace L2.L3
open PySem PySem.Spec PyProof.Rows
section
variable {K:qB} {x:Str}
end
section
variable {a:Expr}
end
end L2.L3
namespace L2.SX
open PySem PyProof.Rows
section
variable {K:Type} [DecidableEq K] {knd:KeyKind prog w K}
def a0z:QG table "dict.update.loop" = some Builtin.«dict.update.loop»:=entryFor_of_tree (by kernel_rfl)
def mQ:plainId "dict.update.loop" = true:=by decide +kernel
def a4K:typeLookup (.type "list") "keys" = pure none:=am_miss_of_fast (by kernel_rfl)
def a9O {xs:Array Value} {Q:Option Value->Shared->Prop} (hx:s.heap.get? a=some { cls:=.type "list", dict:=none,data:=.seq xs n,slots:=sl }) (hA:A.handled=none)
  (h:∀ h' tk,(∀ b ob,s.heap.get? b=some ob->h'.get? b=some ob)->Q none { s with heap:=h',toks:=tk }):wpAny (model prog w) A (getAttr? (.ref a) "keys") Q E s:=by
 obtain ⟨hp,g,d,tk,os⟩:=s;have hT:∀ tk',(⟨hp,g,d,tk',os⟩:Shared).TypeIs (.ref a) "list" := λ_=>⟨_,hx,rfl⟩;have f1:=sub_AttributeError;have f3:=vw.lookup;have f4:=vw.bind (.ref a);have f5:=am_list_getattr_none;have hmiss:=a4K;have hname:(["__module__", "__name__", "__qualname__", "__doc__", "__annotations__"]:T0q).contains "keys" = false:=by decide +kernel
 have hsz:("keys" : Str).length+100<=j5:=by size_fits
 generalize ("keys" : Str)=name at hmiss hname hsz ⊢;unfold getAttr? getAttrBy? getAttrBy
 repeat (any_goals (first | assumption | exact hT _ | ((with_reducible show wpAny _ _ (call (Value.builtin "list.__getattribute__") _ _) _ _ _);refine call_meets vw (hT _) am_entry_list_getattribute (F.args_list_getattribute_2 _ _) (meets_getattribute_miss_list a xs n sl name _ hmiss hname hsz) ⟨hx,hA,λh' tk' e hx'=>?_⟩) | wp_step))
 obtain ⟨t',u',he⟩:=hx'.there;show wpAny _ _ (getattributeRaised _ _ _ _ _ _ _) _ _ _;unfold getattributeRaised
 repeat (any_goals (first | assumption | wp_step))
 exact h _ _ hx'.keeps
end
section
variable {K:Type} [DecidableEq K] {knd:KeyKind prog w K} {R:Result->Shared->Prop} {wr:T0o} {G:Array QY->Array QY->Prop} {P:Nat->Value->Prop} {St:Nat->Shared->Prop}
def b3i (W:WalksS prog w A.in1 I fp wr G n P St) (D:Addr) (hDf:D∉fp) {h₀:Heap} (hwr:∀ b∈wr,h₀.get? b=none) (hD:h₀.get? D=none) (prs:List (K×Value)) (hn:prs.length=n)
  (hval:∀ i v,P i v->∃ t o x kv,v=.ref t/\h₀.get? t=some o/\o.cls=.type "tuple" /\ (∃ m,o.data=.seq #[x,kv.2] m)/\knd.is kv.1 x=true/\prs[i]?=some kv) (hsz:n<=j5):
  ∀ (m i:Nat) (s:Shared),n - i=m->i<=n->St i s->(∀ b o,h₀.get? b=some o->s.heap.get? b=some o)->s.heap.DictOf knd D (merged [] (prs.take i)) ->
   (∀ s',Moved (D::wr) G s s'->(∀ b o,h₀.get? b=some o->s'.heap.get? b=some o)->s'.heap.DictOf knd D (merged [] prs)->R (.ok (.ret .none)) s') ->
   ua (model prog w) A (.builtin "dict.update.loop" ⟨[.ref D,.ref I,v7 (i:Int),.none],[]⟩) R s:=by
 have nw:D∉wr:=λz=>hDf (W.sub _ z);have up:∀ b∈wr,b∈D::wr:=λb hb=>qE _ hb;have keep:∀ {s s':Shared},Moved wr G s s'->(∀ b o,h₀.get? b=some o->s.heap.get? b=some o)->∀ b o,h₀.get? b=some o->s'.heap.get? b=some o:=λmv k b o e=>mv.heap b o (λz=>by rw [hwr b z] at e;cases e) (k b o e);intro m
 induction m with
 | zero=>
  intro i s hm hi st kp g hR;obtain rfl:i=n:=by omega
  refine wv a0z ?_;rw [jC mQ _];show wpAny _ A.in1 (yq (.ref I)>>=_) _ _ s;refine q8 (W.done s _ _ st λs' mv=>?_);show wpAny _ _ (Builtin.Dict.addKeywords D []>>=_) _ _ _;refine q8 (j3 (j3 (hR s' (mv.mono up) (keep mv kp) ?_)));rw [<-hn,List.take_length] at g;obtain ⟨o',es,ep,h1,h2⟩:=g;exact ⟨o',es,ep,mv.heap D o' nw h1,h2⟩
 | succ m ih=>
  intro i s hm hi st kp g hR;have lt:i<n:=by omega
  refine wv a0z ?_;rw [jC mQ _];show wpAny _ A.in1 (yq (.ref I)>>=_) _ _ s;refine q8 (W.item i s _ _ lt st λv s' pv st' mv=>?_);obtain ⟨t,o,x,kv,rfl,ho,hc,⟨mm,hd⟩,hk,hp⟩:=hval i v pv;have kp':=keep mv kp;have g':s'.heap.DictOf knd D (merged [] (prs.take i)):=by
   obtain ⟨o',es,ep,h1,h2⟩:=g;exact ⟨o',es,ep,mv.heap D o' nw h1,h2⟩
  have hT:s'.TypeIs (.ref t) "tuple" := ⟨o,kp' t o ho,hc⟩;refine q8 (wz (q8 (u3 ?_)));unfold Builtin.Dict.pairItems;refine q8 (y0 hT ?_);rw [if_pos (by decide)];refine q8 (wu (kp' t o ho) hd (j3 ?_));show wpAny _ _ (holding [x,kv.2] (dictSet D x kv.2)) _ _ _;have hlen:(merged [] (prs.take i)).length<=j5:=by
   have:=merged_length_le ([]:List (K×Value)) (prs.take i);rw [ju] at this;simp at this;omega
  refine wz (wpAny_dictSet_pairs hk g' (λh' g2 sb=>?_) hlen);rw [<-merged_take_succ _ _ _ _ hp] at g2;refine j3 ⟨ye mQ _,ih (i+1) _ (by omega) lt (W.frame _ s' _ _ st' (kF _) λc hc' o' e=>?_) (λb o' e=>?_) g2 λs'' mv'' kp'' g''=>?_⟩
  ·show h'.get? c=_
   rw [sb.2 c (λz:c=D=>hDf (z▸hc'))];exact e
  ·show h'.get? b=_
   rw [sb.2 b (λz:b=D=>by rw [z,hD] at e;cases e)];exact kp' b o' e
  ·refine hR s'' (Moved.trans W.gtrans ((mv.mono up).then_heap (kF _) λc o' hc' e=>?_) mv'') kp'' g''
   show h'.get? c=_;rw [sb.2 c (λz:c=D=>hc' (by rw [z];exact qf))];exact e
end
section
variable {K:Type} [DecidableEq K] {knd:KeyKind prog w K}
def dict_of {prs:List (K×Value)} (hh:A.handled=none) (hl:s.heap.get? l=some { cls:=.type "list", dict:=none,data:=.seq items n,slots:=sl })
  (hn:prs.length=items.size) (hval:∀ (i:Nat) (v:Value),items[i]?=some v->∃ (t:Addr) (o:Obj) (x:Value) (kv:K×Value),v=.ref t/\s.heap.get? t=some o/\o.cls=.type "tuple" /\ (∃ m,o.data=.seq #[x,kv.2] m)/\knd.is kv.1 x=true/\prs[i]?=some kv) (hsz:prs.length<=j5)
  (h:∀ (h':Heap) (tk:Nat),h'.DictOf knd s.heap.objs.size (merged [] prs)->(∀ b o,s.heap.get? b=some o->h'.get? b=some o)->Q (.ref s.heap.objs.size) { s with heap:=h',toks:=tk }):
  wpAny (model prog w) A (call (.type "dict") [.ref l]) Q E s:=by
 refine callType_codes (Q₁:=λobj s1z=>obj=.ref s.heap.objs.size/\s1z={ s with heap:=s.heap.push { cls:=.type "dict", data:=.dict #[] } }) F.kt_called_dict (F.kt_typeCall_dict_1 _) F.entry_dict_init (kt_code_dict_new _ ⟨rfl,rfl⟩) ?_;rintro obj s1z ⟨rfl,rfl⟩;have hnew:(s.heap.push { cls:=.type "dict", data:=.dict #[] }).DictOf knd s.heap.objs.size []:=Heap.DictOf.new s.heap;have hl1:(s.heap.push { cls:=.type "dict", data:=.dict #[] }).get? l=some { cls:=.type "list", dict:=none,data:=.seq items n,slots:=sl }:=qC _ hl;have hT:vL { s with heap:=s.heap.push { cls:=.type "dict", data:=.dict #[] } } (.ref l) "list" := ⟨_,hl1,rfl⟩;have lt:l<s.heap.objs.size:=qN hl;refine ⟨hnew.typeIs,F.args_dict_init_2 _ _,?_⟩;unfold Builtin.«dict.__init__»;refine q8 ?_;unfold Builtin.Dict.selfAndRest;refine q8 (wpAny_notOrdered_dict hnew.typeIs ?_);show wpAny _ _ (pure (s.heap.objs.size,[jU l])) _ _ _;refine j3 ?_;show wpAny _ _ (Builtin.Dict.updateFrom "dict.__init__" s.heap.objs.size (.ref l) [] .none) _ _ _;unfold Builtin.Dict.updateFrom;refine q8 (y0 hT ?_);rw [if_pos (by decide)];refine q8 (a9O (A:=A.in1.in1) hl1 hh λh1 tk1 k1=>?_);rw [if_pos (by rfl)];refine q8 (yd ?_);have L1:h1.IsList l items:=⟨_,k1 _ _ hl1,rfl,n,rfl⟩;refine q8 (ui L1 ?_);have ltD:s.heap.objs.size<h1.objs.size:=qN (k1 _ _ (qJ _ rfl));have nI:l≠h1.objs.size:=qc (vq lt ltD);have kp0:∀ b o,s.heap.get? b=some o->(h1.push { cls:=.type "list_iterator", data:=.fields #[.ref l,.int 0 0] }).get? b=some o:=λb o e=>qC _ (k1 b o (qC _ e));refine j3 ⟨ye mQ _,?_⟩;refine b3i (knd:=knd) (A:=A.in1) ((Walks.list (A:=A.in1.in1) hh h1.objs.size l nI items).toS) s.heap.objs.size ?_ (h₀:=s.heap) ?_ (vI (qM _)) prs hn hval (by omega) (items.size - 0) 0 _ (by omega) (qt _) ⟨⟨_,qJ _ rfl,rfl,rfl⟩,L1.push _⟩ kp0 ?_ ?_
 ·intro z
  rcases qI.mp z with z | z
  ·exact absurd z (qc ltD)
  ·rw [qH] at z
   exact absurd z (jS lt)
 ·intro b hb
  rw [qH] at hb;subst hb;exact vI (jN ltD)
 ·obtain ⟨o',es,ep,h2,h3⟩:=hnew
  exact ⟨o',es,ep,qC _ (k1 _ _ h2),h3⟩
 ·intro s' mv kp g'
  obtain ⟨h',gs',dr',tk',os'⟩:=s';obtain rfl:gs'=s.gens:=mv.gens;obtain rfl:dr'=s.drawn:=mv.drawn;obtain rfl:os'=s.os:=mv.os;exact ⟨rfl,h h' tk' g' kp⟩
end
end L2.SX
namespace L2.L3
open PySem PySem.Spec PyProof.Rows
def oC:j0->Option Key
 | .int i=>some (.inl i)
 | .str x=>some (.inr x)
 | _=>none
def fV (k:Key):oC (dX k)=some k:=by cases k<;>rfl
variable {k:Key}
def a0Q (h:oC d=some k):d=dX k:=by
 unfold oC at h;split at h
 ·cases h;rfl
 ·cases h;rfl
 ·cases h
def a3d:j0->Option (Key×j0)
 | .tuple [k,v]=>(oC k).map (·,v)
 | _=>none
def b1N {p:Key×j0} (h:a3d d=some p):d=.tuple [dX p.1,p.2]:=by
 unfold a3d at h;split at h
 ·obtain ⟨k,hk,rfl⟩:=qU.mp h
  rw [a0Q hk]
 ·cases h
def dD (kvs:List (Key×j0)):j0:=.dict (kvs.map λp=>(dX p.1,p.2))
def mV (ds:T0l):Option j0:=match ds with
 | [.list xs]=>match mF a3d xs with
  | some kvs=>if decide (kvs.map (·.1)).Nodup&&decide (kvs.length<=1000) then some (dD kvs) else none
  | none=>none
 | _=>none
def a5S (k:Key):List (j0×j0)->Option j0
 | []=>none
 | p::r=>if oC p.1=some k then some p.2 else a5S k r
def b2k {x:j0} (h:a5S k [(.none,x)]=some d):False:=by cases k<;>cases h
def uU (x k:j0):Option j0:=match x,oC k with
 | .dict D,some k=>a5S k D
 | _,_=>none
def a3q (k:Key):List (Key×V)->Option V
 | []=>none
 | p::r=>if p.1=k then some p.2 else a3q k r
section
variable {K:qB}
theorem a3r {k:Key} {d:j0}:∀ {kvs:List (Key×V)} {D:List (j0×j0)},D.map (·.1)=kvs.map (λp=>dX p.1)->RepAll K G (kvs.map (·.2)) (D.map (·.2))->a5S k D=some d->∃ v,a3q k kvs=some v/\Rep K G v d
 | [],[],_,_,h=>by cases h
 | [],_::_,e,_,_=>by simp at e
 | _::_,[],e,_,_=>by simp at e
 | q::kvs,p::D,e,.cons r t,h=>by
  rw [qK,qK,vC] at e;unfold a5S at h;unfold a3q;rw [e.1,fV] at h;by_cases c:q.1=k
  ·rw [if_pos (by rw [c])] at h
   rw [if_pos c];cases (qA h);exact ⟨_,rfl,r⟩
  ·rw [if_neg (λz=>c (qA z))] at h
   rw [if_neg c];exact a3r e.2 t h
theorem a3p {k:Key} {v:V}:∀ {kvs:List (Key×V)} {vs:List (Key×Value)},KV kvs vs->a3q k kvs=some v->∃ u,valueAt vs k=some u/\RelV v u
 | _,_,.nil,h=>by cases h
 | q::kvs,p::vs,.cons r t,h=>by
  unfold a3q at h;have e:valueAt (p::vs) k=if p.1=k then some p.2 else valueAt vs k:=by
   unfold valueAt;rw [vB];by_cases c:p.1=k
   ·rw [if_pos c];simp [c]
   ·rw [if_neg c];simp [c]
  rw [e];by_cases c:q.1=k
  ·rw [if_pos c] at h
   rw [if_pos (r.1▸c)];cases (qA h);exact ⟨_,rfl,r.2⟩
  ·rw [if_neg c] at h
   rw [if_neg (λz=>c (r.1.trans z))];exact a3p t h
def a4r (r:Rep K G v (dX k)):v=kV k:=by
 cases k<;>(cases r;rfl)
end
variable {a:Expr}
def b5s (I:Inv X pq σ H s):yf<s.heap.objs.size:=by
 have h:j6<s.heap.objs.size:=(I.mod.glob.keeps I.bk).lt;exact vq (by decide) h
def a8F (r:RelV (kV k) u):(bK P w).is k u=true:=by
 cases k with
 | inl i=>obtain ⟨t,rfl⟩:=r;exact a0r P w i t
 | inr x=>obtain ⟨t,rfl⟩:=r;exact a0q P w x t
def c1i:R2:=λx y H Q=>∃ p kvs k v,x=.ref p/\y=kV k/\Rd H p (.dK kvs)/\a3q k kvs=some v/\Q v H
def b5n:IxR X c1i:=by
 intro value slice pq s σ H x y v u Q I rx ry h hs;obtain ⟨p,kvs,k,z,rfl,rfl,hq,he,q⟩:=h;cases rx;obtain ⟨hz,hS,vs,kv,dd⟩:=(show cM X.prog X.w H s.heap p (.dK kvs) from hq.ok I.hok);obtain ⟨w,ew,rw'⟩:=a3p kv he;exact u0 (x:=w) dd.typeIs slot_dict_getitem.lookup
  (wpAny_getItem_of (Q:=λr s'=>r=w/\EP X pq σ Q r s') (a8F ry) dd.mapOf ew ⟨rfl,z,H,I.tok _,rw',q⟩) hs
def yZ (ha:DE X a fa) (hb:DE X b fb) (hs:a0R b:=by exact λ_ _=>rfl):DE X (.Subscript a b pos) (op2 uU fa fb):=
 ⟨λpq s σ H Q I ⟨ρ,r,H0,Gz,G,e,R,q⟩=>b1G b5n ha.run hb.run hs pq s σ H Q I (bE R e q.x λx v G1 H1 g1 R1 rv e1=>bE R1 e1 (q.more g1).x λy u G2 H2 g2 R2 ru e2=>by
  obtain ⟨d,ed,rfl⟩:=bW e2;unfold uU at ed;split at ed
  ·rename_i D k hk
   rw [a0Q hk] at ru;cases a4r ru;cases (rv.mono g2.gg) with
   | dict h e0 rr=>
    obtain ⟨w,ew,rw'⟩:=a3r e0 rr ed;exact ⟨_,_,k,w,rfl,rfl,a0L g2.sub h,ew,q w _ _ (g1.trans g2) rw'⟩
   | fil _ _=>exact (b2k ed).elim
  ·cases ed)⟩
theorem b1y {pq:T0b} {σ:St} {H:Hp} {s:Shared} (I:Inv X pq σ H s):∀ {ts:List V} {kvs:List (Key×V)} {its:T0m},Paired (λt (kv:Key×V)=>∃ a,t=V.ref a/\SqT X.K H a [kV kv.1,kv.2]) ts kvs->aU ts its ->
  ∃ prs:List (Key×Value),KV kvs prs/\∀ (i:Nat) (v:Value),its[i]?=some v->∃ (t:Addr) (o:Obj) (x:Value) (kv:Key×Value),v=.ref t/\s.heap.get? t=some o/\o.cls=.type "tuple" /\ (∃ m,o.data=.seq #[x,kv.2] m)/\(bK X.prog X.w).is kv.1 x=true/\prs[i]?=some kv
 | _,_,_,.nil,.nil=>⟨[],.nil,λi v e=>by simp at e⟩
 | _,_,_,.cons ⟨a,e,hq⟩ t,.cons r rs=>by
  obtain ⟨prs,h1,h2⟩:=b1y I t rs;subst e;cases r;obtain ⟨its,rv,⟨o,ho,hc,n,hd⟩,hz⟩:=I.tuple hq;obtain ⟨u,w,rfl,r1,r2⟩:=vals2 rv;rename_i kv _ _ _;refine ⟨(kv.1,w)::prs,.cons ⟨rfl,r2⟩ h1,λi v e=>?_⟩;cases i with
  | zero=>
   simp at e;exact ⟨a,o,u,(kv.1,w),e.symm,ho,hc,⟨n,hd⟩,a8F r1,rfl⟩
  | succ i=>exact h2 i v (by simpa using e)
def b7Y {kvs:List (Key×V)} {vs:List (Key×Value)} (h:KV kvs vs):kvs.length=vs.length:=by
 have:=congrArg vZ (a1H h).1;simpa using this
theorem a1s {α β:Type} {F:α->β->Prop}:∀ {l:List α} {m:List β},Paired F l m->l.length=m.length
 | _,_,.nil=>rfl
 | _,_,.cons _ t=>by simp [a1s t]
def a3R (hc:X.calm=true):lB X (.type "dict") (λxs H Q=>∃ (p:Addr) (ts:List V) (kvs:List (Key×V)),xs=[.ref p]/\SqL X.K H p ts/\Paired (λt (kv:Key×V)=>∃ a,t=V.ref a/\SqT X.K H a [kV kv.1,kv.2]) ts kvs/\(kvs.map (·.1)).Nodup/\kvs.length<=1000 /\
  ∀ l,H l=none->Q (.ref l) (upd H l (.dK kvs))):=by
 intro pq s σ H xs us Q I r ⟨p,ts,kvs,e,hq,hp,nd,hz,q⟩;subst e;obtain ⟨u,rfl,rx⟩:=vals1 r;cases rx;obtain ⟨its,rv,⟨o,n,ho,hcl,hdc,hda⟩,_⟩:=I.list hq;obtain ⟨prs,kv,hv⟩:=b1y I hp rv;obtain ⟨oc,od,odt,osl⟩:=o;dsimp only at hcl hdc hda;subst hcl hdc hda;have hd:=I.ok.hd hc;have l1:=b7Y kv;have l2:=a1s hp;have l3:=rv.length;have hline:kvs.length<=j5:=jN (nU (by omega));refine SX.dict_of (knd:=bK X.prog X.w) (prs:=prs) hd ho (by rw [qP];omega) (λi v e=>hv i v (by simpa using e)) (by omega) λh' tk dd kp=>?_;have nd':(prs.map (·.1)).Nodup:=by rw [<-(a1H kv).1];exact nd
 rw [merged_nil_of_nodup prs nd'] at dd;have big:=b5s I;have ne:(s.heap.objs.size==yf)=false:=beq_eq_false_iff_ne.mpr (jS big);exact ⟨.ref s.heap.objs.size,_,I.laid (t':=tk) (a:=s.heap.objs.size) (o:=.dK kvs) kp (qM _) ⟨hline,ne,prs,kv,dd⟩,rfl,q _ I.fresh⟩
theorem yE {K:qB} {G:Hp}:∀ {ts:List V} {xs:T0l} {ks:List (Key×j0)},RepAll K G ts xs->mF a3d xs=some ks->∃ kvs:List (Key×V),Paired (λt (kv:Key×V)=>∃ a,t=V.ref a/\SqT K G a [kV kv.1,kv.2]) ts kvs/\kvs.map (·.1)=ks.map (·.1)/\RepAll K G (kvs.map (·.2)) (ks.map (·.2))
 | _,_,_,.nil,h=>by cases (qA h);exact ⟨[],.nil,rfl,.nil⟩
 | _,d::ds,ks,.cons r t,h=>by
  unfold mF at h;split at h
  ·cases h
  ·rename_i q hq
   obtain ⟨ks',h1,rfl⟩:=qU.mp h;obtain ⟨kvs,p1,p2,p3⟩:=yE t h1;rw [b1N hq] at r;cases r with
   | tuple hs rr=>
    cases rr with | cons ra rr=>
    cases rr with | cons rb rr=>
    cases rr;cases a4r ra;exact ⟨(q.1,_)::kvs,.cons ⟨_,rfl,hs⟩ p1,by rw [qK,qK,p2],.cons rb p3⟩
def b5N (hc:X.calm=true) (ds:T0l) (d:j0) (h:mV ds=some d):CallD X (.type "dict") ds d:=by
 unfold mV at h;split at h
 ·split at h
  ·rename_i xs ks e
   split at h
   ·rename_i hh
    rw [qL,decide_eq_true_eq,decide_eq_true_eq] at hh;cases (qA h)
    exact ⟨_,a3R hc,λvs G H Q s r q=>by
     cases r with | cons r rr=>cases rr;cases r with | list hq r=>
      obtain ⟨kvs,p1,p2,p3⟩:=yE r e;have hl:kvs.length=ks.length:=by have:=congrArg vZ p2;simpa using this
      refine ⟨_,_,kvs,rfl,s.seq hq,Paired.mapP p1 (λa b ⟨t,e1,e2⟩=>⟨t,e1,lI s e2⟩),by rw [p2];exact hh.1,by omega,λl hl=>?_⟩;refine q _ _ _ (.put s hl) (.dict (.inl aH) ?_ ?_)
      ·rw [qT]
       have:ks.map ((λx=>x.1)∘λp:Key×j0=>(dX p.1,p.2))=(ks.map (·.1)).map dX:=by rw [qT];rfl
       rw [this,<-p2,qT];rfl
      ·rw [qT]
       exact p3.mono (bF (s.free hl))⟩
   ·cases h
  ·cases h
 ·cases h
def boot_dict:yc "dict" = some (.type "dict"):=by kernel_rfl
def a2U (i:Nat) (f:EF):SF:=λρ=>match f (frzAll ρ) with
 | some (.ok (.list ds))=>if ds.all a1q then some (.nx (ρ.set i (.val (.list ds)))) else none
 | _=>none
theorem RepAll.plain {K:qB} {G G':Hp}:∀ {vs:List V} {ds:T0l},ds.all a1q=true->RepAll K G vs ds->RepAll K G' vs ds
 | _,_,_,.nil=>.nil
 | _,_,h,.cons r t=>by
  rw [jG,qL] at h;exact .cons (r.plain h.1) (RepAll.plain h.2 t)
variable {t:Tg}
section
variable {cap:T0e}
def b3b (i:Nat) {x:Str} (hN:X.N.Nodup) (hc:X.calm=true) (B:Blk X scope N' cap) (hi:DI X tg iter fi) (hf:a4h cap t=true) (hg:∀ C s3z H3z fp,DG (bY X scope N' C s3z H3z fp) tg t) (ht:∀ C s3z H3z fp,DTs (bY X scope N' C s3z H3z fp) ifs ft)
  (he:∀ C s3z H3z fp,DE (bY X scope N' C s3z H3z fp) elt fe)
  (hxi:X.N[i]?=some x:=by rfl) (hx:X.env.scope.names.lookup x=some .local:=by rfl)
  (hsw:wy (.ListComp elt [⟨tg,iter,ifs,0⟩] scope pos) (some (.Name x p)) spos.line X.env=pure true:=by rfl)
  (hs:∀ x,w5 iter X.env x=pure x:=by intro _;rfl):DS X (.Assign [.Name x p] (.ListComp elt [⟨tg,iter,ifs,0⟩] scope pos) spos) (a2U i (eD t cap fi ft fe)):=⟨λpq s σ H D I ⟨ρ,o,H0,Gz,G,e,R,q⟩=>by
 unfold a2U at e;split at e
 ·rename_i ds0 e1
  split at e
  ·rename_i hpl
   cases (qA e);obtain ⟨G',s',R'⟩:=R.frzAll;rcases fE e1 with ⟨ds,e3,e4⟩ | ⟨c,_,e4⟩
   ·split at e4
    ·rename_i hz
     obtain ⟨d',ed,z⟩:=bW e4;cases z;obtain ⟨es,e5,z2⟩:=qU.mp ed;cases z2;obtain ⟨k1,rfl⟩:=rH e5;refine a4t (g:=gU X.K ds (λd=>d) (cU cap (frzAll ρ)) (cX t (cU cap (frzAll ρ)))) (tc:=tU X.K ds (cX t (cU cap (frzAll ρ))) (cT t (cU cap (frzAll ρ)) ft)) (te:=eU X.K ds (cX t (cU cap (frzAll ρ))) (cT t (cU cap (frzAll ρ)) ft) (cV t (cU cap (frzAll ρ)) fe)) hN hxi hx hc B (hi.pid e3).run
      (λC s3z H3z fp pq s σ H v u Q I r ⟨x,hx,q⟩=>((hg C s3z H3z fp).run _ _ _ (k1 x hx).1).run pq s σ H v u Q I r q)
      (λC s3z H3z fp pq s σ H Q I ⟨x,hx,q⟩=>((ht C s3z H3z fp).run _ _ (k1 x hx).2.1).run pq s σ H Q I q)
      (λC s3z H3z fp pq s σ H Q I ⟨x,hx,hcx,H0,Gz,G,R,q⟩=>((he C s3z H3z fp).pd ((k1 x hx).2.2 hcx)).run H0 Gz G pq s σ H Q I R q) hsw hs pq s σ H D I ?_
     refine ⟨H0,Gz,G',R',λJ G1 H1 g wk=>a2I (φ:=λd=>d) (R'.more g) (by simpa using wk) (.refl _) (λx hx=>a4d hf (k1 x hx).1) (iZ hz) λDd ys G2 H2 g2 hD hn ra=>?_⟩;have gt:=g.trans g2;have hH:H Dd=none:=by
      cases hq:H Dd with
      | none=>rfl
      | some o=>obtain ⟨o',e'⟩:=g.hh.ne hq;rw [e'] at hn;cases hn
     have hG:G Dd=none:=by
      cases hq:G Dd with
      | none=>rfl
      | some o=>rw [R.sub _ _ hq] at hH;cases hH
     have gr:Grow G H (upd G Dd (.lst ys)) H2:=⟨bF hG,gt.hh,λb o q=>by
      by_cases hb:b=Dd
      ·subst hb;rw [aH] at q;cases q;exact gt.sub _ _ hD
      ·rw [aE hb] at q;exact gt.sub _ _ (gt.gg _ _ (s' _ _ q)),λb e n=>by
      rw [aE (λz=>n (by rw [z];exact hH))];exact e,λn=>n.upd (by nofun)⟩
     exact q _ H2 _ gr.gg ((R.more gr).set (.list (.of aH) (RepAll.plain hpl ra)))
    ·cases e4
   ·cases e4
  ·cases e
 ·cases e⟩
end
def noD (i:Nat) (ρ:List Ent):Bool:=(qV ρ.length).all λj=>j==i || (match ρ[j]? with | some (.dct _)=>false | _=>true)
def b7L (h:noD i ρ=true):∀ (j:Nat) (ks:List (Key×j0)),ρ[j]?=some (.dct ks)->j=i:=λj ks hj=>by
 have:=qm.mp h j (qo.mpr (qR.mp hj).1);rw [hj] at this;simpa using this
def b4X (i:Nat):SF:=λρ=>if noD i ρ then some (.nx (ρ.set i (.dct []))) else none
def a0p (kvs:List (Key×j0)) (k:Key) (d:j0):List (Key×j0):=
 if (kvs.any λkv=>decide (kv.1=k))=true then kvs.map (λkv=>if kv.1=k then (kv.1,d) else kv) else kvs++[(k,d)]
def a3a (i:Nat) (fk fv:EF):SF:=λρ=>match ρ[i]? with
 | some (.dct kvs)=>bns (fv ρ) ρ λd=>bns (fk ρ) ρ λk=>(match oC k with
  | some k=>if dU kvs.length then some (.nx (ρ.set i (.dct (a0p kvs k d)))) else none
  | none=>none)
 | _=>none
theorem a6x {β γ:Type} {k:Key}:∀ {vs:List (Key×β)} {kvs:List (Key×γ)},vs.map (·.1)=kvs.map (·.1)->(vs.any λkv=>decide (kv.1=k))=kvs.any λkv=>decide (kv.1=k)
 | [],[],_=>rfl
 | [],_::_,h=>by simp at h
 | _::_,[],h=>by simp at h
 | a::vs,b::kvs,h=>by
  rw [qK,qK,vC] at h;rw [jz,jz,a6x h.2,h.1]
theorem eT.repl {K:qB} {G:Hp} {k:Key} {v:V} {d:j0} (r:Rep K G v d):∀ {vs:List (Key×V)} {kvs:List (Key×j0)},eT K G vs kvs->eT K G (vs.map λkv=>if kv.1=k then (kv.1,v) else kv) (kvs.map λkv=>if kv.1=k then (kv.1,d) else kv)
 | [],[],h=>h
 | [],_::_,h=>by have:=h.1;simp at this
 | _::_,[],h=>by have:=h.1;simp at this
 | a::vs,b::kvs,⟨h1,h2⟩=>by
  rw [qK,qK,vC] at h1;rw [qK,qK] at h2;cases h2 with
  | cons ra rr=>
   obtain ⟨i1,i2⟩:=eT.repl (k:=k) r (vs:=vs) (kvs:=kvs) ⟨h1.2,rr⟩;by_cases c:b.1=k
   ·have c':a.1=k:=h1.1.trans c
    refine ⟨?_,?_⟩
    ·simp only [qK,if_pos c,if_pos c',i1,h1.1]
    ·simp only [qK,if_pos c,if_pos c']
     exact .cons r i2
   ·have c':¬a.1=k:=λz=>c (h1.1.symm.trans z)
    refine ⟨?_,?_⟩
    ·simp only [qK,if_neg c,if_neg c',i1,h1.1]
    ·simp only [qK,if_neg c,if_neg c']
     exact .cons ra i2
variable {vs:List (Key×V)}
theorem eT.put {K:qB} (h:eT K G vs kvs) (r:Rep K G v d):eT K G (putK vs k v) (a0p kvs k d):=by
 unfold putK a0p;rw [a6x h.1];split
 ·exact eT.repl r h
 ·refine ⟨by rw [qZ,qZ,h.1];rfl,?_⟩
  rw [qZ,qZ];exact h.2.append (.cons r .nil)
theorem eT.len {K:qB} (h:eT K G vs kvs):vs.length=kvs.length:=by
 have:=congrArg vZ h.1;simpa using this
variable {o:Expr} {fd:EF}
section
variable {f:Expr}
def a8U (i:Nat) {x:Str} (hN:X.N.Nodup) (hi:X.N[i]?=some x:=by rfl) (hx:Loc X.env.scope x:=by first | exact kC rfl | exact jY rfl)
  (hs:wy (.Dict [] [] p2) (some (.Name x p)) pos.line X.env=pure false:=by rfl) (hf:X.fn x=true\/X.env.scope.names.lookup x=some .local:=by first | exact .inl rfl | exact .inr rfl):
  DS X (.Assign [.Name x p] (.Dict [] [] p2) pos) (b4X i):=⟨λpq s σ H D I ⟨ρ,o,H0,Gz,G,e,R,q⟩=>yB hN hi hx b1J hs hf pq s σ H D I (by
 unfold b4X at e;split at e
 ·rename_i hz
  cases (qA e);exact λa ha=>q G _ _ (.refl _) (R.freshD ha (b7L hz) ⟨rfl,.nil⟩)
 ·cases e)⟩
def b5J (i:Nat) {x:Str} (hu:X.A.units+64<cLine) (hv:DE X e fv) (hk:DE X kx fk) (hN:X.N[i]?=some x:=by rfl)
  (hvi:Vis X.env.scope x:=by first | exact kC rfl | exact jY (kC rfl) | exact jY (jY rfl)) (hd:(x==("__debug__" : Str))=false:=by decide) (hcd:(x==("__classdict__" : Str))=false:=by decide)
  (hs:wy e (some (.Subscript (.Name x xp) kx kp)) pos.line X.env=pure false:=by rfl):
  DS X (.Assign [.Subscript (.Name x xp) kx kp] e pos) (a3a i fk fv):=⟨λpq s σ H D I ⟨ρ,o,H0,Gz,G,ef,R,q⟩=>
 b4s (by omega) (dI hN hvi hd hcd) hk.run hv.run hs pq s σ H D I (by
  unfold a3a at ef;split at ef
  ·rename_i kvs hi
   obtain ⟨a,vs,e1,_⟩:=R.ownD hi;refine sE R ef q λd v G1 H1 g1 R1 rv e2 q1=>⟨.ref a,e1,sE R1 e2 q1 λk u G2 H2 g2 R2 ru e3 q2=>?_⟩;split at e3
   ·rename_i key hk'
    split at e3
    ·rename_i hz
     cases (qA e3);obtain ⟨a',vs',e1',h1,h2,h3,r⟩:=R2.ownD hi;rw [e1] at e1';cases e1';rw [a0Q hk'] at ru;cases a4r ru;exact ⟨a,_,rfl,.inl ⟨vs',key,h1,rfl,by rw [r.len];exact a7Y hz,rfl⟩,q2 G2 _ σ (.refl _) (R2.wroteD hi e1 (r.put (rv.mono g2.gg)))⟩
    ·cases e3
   ·cases e3
  ·cases ef)⟩
end
section
variable {f:Expr}
end
def b8M {α β:Type} {m:Mm α} {a:α} {k:α->Mm β} (h:m=some (.ok a)):bnd m k=k a:=by rw [h];rfl
def aT {α:Type} {m:Mm α} {a:α} {k:α->Option So} (h:m=some (.ok a)):bns m ρ k=k a:=by rw [h];rfl
theorem a3o {α:Type} {t:Tg} {ρb:List Ent} {ft:TF} {fe:EF} (φ:α->j0) (ρx:α->List Ent) (c:α->Bool) (v:α->j0):∀ (xs:List α),(∀ x∈xs,tgD t ρb (φ x)=some (ρx x))->(∀ x∈xs,ft (ρx x)=some (.ok (c x)))->(∀ x∈xs,c x=true->fe (ρx x)=some (.ok (v x))) ->
  a1F t ρb ft fe (xs.map φ)=some ((xs.filter c).map v)
 | [],_,_,_=>rfl
 | x::xs,h1,h2,h3=>by
  have ih:=a3o φ ρx c v xs (λy hy=>h1 y (qE _ hy)) (λy hy=>h2 y (qE _ hy)) (λy hy=>h3 y (qE _ hy));have e1:=h1 x qf;have e2:=h2 x qf;rw [qK,a1F,e1];dsimp only;rw [e2];cases hc:c x with
  | true=>
   have e3:=h3 x qf hc;dsimp only;rw [e3];dsimp only;rw [ih,qr hc];rfl
  | false=>
   dsimp only;rw [ih,jF (by rw [hc];decide)]
def eX {α:Type} {cap:T0e} (φ:α->j0) (ρx:α->List Ent) (c:α->Bool) (v:α->j0) (xs:List α) (hi:fi ρ=some (.ok (xs.map φ))) (hz:xs.length<=100000)
  (h1:∀ x∈xs,tgD t (cU cap ρ) (φ x)=some (ρx x)) (h2:∀ x∈xs,ft (ρx x)=some (.ok (c x))) (h3:∀ x∈xs,c x=true->fe (ρx x)=some (.ok (v x))):
  eD t cap fi ft fe ρ=some (.ok (.list ((xs.filter c).map v))):=by
 unfold eD;rw [b8M hi,qF,if_pos (by unfold dU;exact decide_eq_true hz),a3o φ ρx c v xs h1 h2 h3];rfl
def filter_all {α:Type} {c:α->Bool} {xs:List α} (h:∀ x∈xs,c x=true):xs.filter c=xs:=List.filter_eq_self.mpr h
def cN {α:Type} {cap:T0e} (φ:α->j0) (ρx:α->List Ent) (v:α->j0) (xs:List α) (hi:fi ρ=some (.ok (xs.map φ))) (hz:xs.length<=100000)
  (h1:∀ x∈xs,tgD t (cU cap ρ) (φ x)=some (ρx x)) (h3:∀ x∈xs,fe (ρx x)=some (.ok (v x))):
  eD t cap fi ttT fe ρ=some (.ok (.list (xs.map v))):=by
 rw [eX φ ρx (λ_=>true) v xs hi hz h1 (λ_ _=>rfl) (λx hx _=>h3 x hx),filter_all (λ_ _=>rfl)]
variable {g:SF}
section
variable {α β:Type} {e:j0} {i j k:Int}
@[simp] theorem mE (a:α) (k:α->Mm β):bnd (some (.ok a)) k=k a:=rfl
@[simp] theorem c2i (c:Str) (k:α->Mm β):bnd (some (.ex c)) k=some (.ex c):=rfl
@[simp] theorem a6w (a:α) (k:α->Option So):bns (some (.ok a)) ρ k=k a:=rfl
@[simp] theorem c2h (c:Str) (k:α->Option So):bns (some (.ex c)) ρ k=some (.xc c ρ):=rfl
@[simp] theorem b6y (a:α):lft (some a)=some (.ok a):=rfl
@[simp] theorem c0i:cst d ρ=some (.ok d):=rfl
@[simp] theorem b6m (d:j0) (r:List Ent):var 0 (.val d::r)=some (.ok d):=rfl
@[simp] theorem b6l (n:Nat) (x:Ent) (r:List Ent):var (n+1) (x::r)=var n r:=rfl
@[simp] theorem b1Q (g:j0->j0->Option j0):op2 g fa fb ρ=bnd (fa ρ) λx=>bnd (fb ρ) λy=>lft (g x y):=rfl
@[simp] theorem b9I (g:j0->Option j0):op1 g fa ρ=bnd (fa ρ) λx=>lft (g x):=rfl
@[simp] theorem b3R:aK ρ=some (.ok []):=rfl
@[simp] theorem mX:aC fa aa ρ=bnd (fa ρ) λx=>bnd (aa ρ) λxs=>some (.ok (x::xs)):=rfl
@[simp] theorem a0T:mI aa ρ=bnd (aa ρ) λxs=>lft (a3h xs):=rfl
@[simp] theorem b7X:pR aa ρ=bnd (aa ρ) λxs=>lft (a3i xs):=rfl
@[simp] theorem c0W (n:Nat):dU n=decide (n<=100000):=rfl
@[simp] theorem b5d (ds:T0l):a3h ds=if ds.length<=100000 then some (.tuple ds) else none:=by unfold a3h dU;by_cases h:ds.length<=100000<;>simp [h]
@[simp] theorem c0u (ds:T0l):a3i ds=if ds.length<=100000 then some (.list ds) else none:=by unfold a3i dU;by_cases h:ds.length<=100000<;>simp [h]
@[simp] theorem b3y (g:j0->j0->Option Bool):a4Y g fa fb ρ=bnd (fa ρ) λx=>bnd (fb ρ) λy=>lft ((g x y).map .bool):=rfl
@[simp] theorem b3x (g:j0->j0->Option Bool):iC g fa fb ρ=bnd (fa ρ) λx=>bnd (fb ρ) λy=>lft (g x y):=rfl
theorem sV (t u:Bool):(if t=true then (some (Re.ok u):Mm Bool) else some (.ok false))=some (.ok (t&&u)):=by cases t<;>rfl
@[simp] theorem c1H (g g':j0->j0->Option Bool):c1I g g' fa fb fc ρ=bnd (fa ρ) λx=>bnd (fb ρ) λy=>bnd (lft (g x y)) λt=>if t then bnd (fc ρ) λz=>lft ((g' y z).map .bool) else some (.ok (.bool false)):=rfl
@[simp] theorem c1G (g g':j0->j0->Option Bool):b3A g g' fa fb fc ρ=bnd (fa ρ) λx=>bnd (fb ρ) λy=>bnd (lft (g x y)) λt=>if t then bnd (fc ρ) λz=>lft (g' y z) else some (.ok false):=rfl
@[simp] theorem tT:tV fa ρ=bnd (fa ρ) λx=>lft (a2v x):=rfl
@[simp] theorem c0E (b:Bool):a2v (.bool b)=some b:=rfl
@[simp] theorem c0C (ds:T0l):a2v (.list ds)=some (!ds.isEmpty):=rfl
@[simp] theorem c0A (ds:T0l):a2v (.tuple ds)=some (!ds.isEmpty):=rfl
@[simp] theorem c0D (i:Int):a2v (.int i)=some (i != 0):=rfl
@[simp] theorem c0B:a2v .none=some false:=rfl
@[simp] theorem b7I:b4S ft ρ=bnd (ft ρ) λt=>some (.ok (!t)):=rfl
@[simp] theorem c1k:c1l fa ρ=bnd (fa ρ) λx=>lft ((tR x).map λt=>.bool (!t)):=rfl
@[simp] theorem c0x (b:Bool):tR (.bool b)=some b:=rfl
@[simp] theorem c1z (i:Int):intD (.int i)=some i:=rfl
@[simp] theorem c0Z (i:Str):b0W (.str i)=some i:=rfl
@[simp] theorem a5i:a6z ft fu ρ=bnd (ft ρ) λt=>if t then fu ρ else some (.ok false):=rfl
@[simp] theorem b9D:orT ft fu ρ=bnd (ft ρ) λt=>if t then some (.ok true) else fu ρ:=rfl
@[simp] theorem c1K:c1L fa fb ρ=bnd (fa ρ) λx=>bnd (lft (tR x)) λt=>if t then fb ρ else some (.ok (.bool false)):=rfl
@[simp] theorem c1U:orE fa fb ρ=bnd (fa ρ) λx=>bnd (lft (tR x)) λt=>if t then some (.ok (.bool true)) else fb ρ:=rfl
@[simp] theorem b9X:ifE ft fa fb ρ=bnd (ft ρ) λt=>if t then fa ρ else fb ρ:=rfl
@[simp] theorem b3K (g:List j0->Option j0):cJ g aa ρ=bnd (aa ρ) λxs=>lft (g xs):=rfl
@[simp] theorem b6c (F:List j0->Mm j0):aX F aa ρ=bnd (aa ρ) λds=>(match F ds with | some (.ok d)=>some (.ok d) | _=>none):=rfl
@[simp] theorem a0j:cR (.int i) (.int j)=some (.int (i+j)):=rfl
@[simp] theorem c0X:c0Y (.int i) (.int j)=some (.int (i - j)):=rfl
@[simp] theorem b9J:b4Y (.int i)=some (.int (-i)):=rfl
@[simp] theorem b3P (a b:T0l):cR (.tuple a) (.tuple b)=if a.length+b.length<=100000 then some (.tuple (a++b)) else none:=by
 show (if dU (a.length+b.length)=true then _ else _)=_;by_cases h:a.length+b.length<=100000<;>simp [h]
@[simp] theorem b3Q (a b:T0l):cR (.list a) (.list b)=if a.length+b.length<=100000 then some (.list (a++b)) else none:=by
 show (if dU (a.length+b.length)=true then _ else _)=_;by_cases h:a.length+b.length<=100000<;>simp [h]
@[simp] theorem b9L:ltD (.int i) (.int j)=some (decide (i<j)):=rfl
@[simp] theorem b9O:leD (.int i) (.int j)=some (decide (i<=j)):=rfl
@[simp] theorem c2d:gtD (.int i) (.int j)=some (decide (j<i)):=rfl
@[simp] theorem c2e:geD (.int i) (.int j)=some (decide (j<=i)):=rfl
@[simp] theorem b6E:eqD (.int i) (.int j)=some (decide (i=j)):=rfl
@[simp] theorem c1W:neD (.int i) (.int j)=some (!decide (i=j)):=rfl
@[simp] theorem c2f (a b:Str):eqD (.str a) (.str b)=some (decide (a=b)):=rfl
@[simp] theorem c1V (a b:Str):neD (.str a) (.str b)=some (!decide (a=b)):=rfl
@[simp] theorem c2g (a b:Bool):eqD (.bool a) (.bool b)=some (decide (a=b)):=rfl
@[simp] theorem c1X (a b:Bool):neD (.bool a) (.bool b)=some (!decide (a=b)):=rfl
@[simp] theorem b7T:a7o (.int i) (.int j)=if 0<j then some (.int (i % j)) else none:=rfl
@[simp] theorem c1E:b5E (.int i) (.int j)=if 0<j/\j<1073741824 then some (.int (i / j)) else none:=rfl
theorem a4y (h1:-(2 ^ 64)<j) (h2:j<2 ^ 64):nW (.int i) (.int j)=some (.int (i*j)):=by
 show (if (nB i || nB j)=true then _ else _)=_;rw [if_pos];simp [nB];right;omega
def a4z (h1:-(2 ^ 64)<i) (h2:i<2 ^ 64):nW (.int i) (.int j)=some (.int (i*j)):=by
 show (if (nB i || nB j)=true then _ else _)=_;rw [if_pos];simp [nB];left;omega
@[simp] theorem b2n (xs:T0l):iQ [.list xs]=some (.int xs.length):=rfl
@[simp] theorem b2m (xs:T0l):iQ [.tuple xs]=some (.int xs.length):=rfl
@[simp] theorem b7V:a7r [.int i,.int j]=some (.int (max i j)):=rfl
@[simp] theorem c1n:b2c [.int i,.int j]=some (.int (min i j)):=rfl
@[simp] theorem b8X (xs:T0l):a4f [.list xs]=some (.tuple xs):=rfl
@[simp] theorem c1S (xs:T0l):a4f [.tuple xs]=some (.tuple xs):=rfl
@[simp] theorem c1Z (xs:T0l):b9M [.list xs]=some (.list xs):=rfl
@[simp] theorem c1Y (xs:T0l):b9M [.tuple xs]=some (.list xs):=rfl
@[simp] theorem c2c (b:Bool):c1A [.bool b]=some (.int (if b then 1 else 0)):=rfl
@[simp] theorem b1g:gC fa ρ=bnd (fa ρ) λx=>lft (tW x):=rfl
@[simp] theorem c1c (ds:T0l):tW (.list ds)=some ds:=rfl
@[simp] theorem c1b (ds:T0l):tW (.tuple ds)=some ds:=rfl
@[simp] theorem c2a (ds:T0l):ixD (.tuple ds) (.int i)=atI ds i:=rfl
@[simp] theorem c2b (ds:T0l):ixD (.list ds) (.int i)=atI ds i:=rfl
theorem b8Q {xs:List α} (n:Nat):atI xs (n:Int)=xs[n]?:=by
 unfold atI ixN;rw [if_pos (by omega)];by_cases h:n<xs.length
 ·rw [if_pos (by omega)];simp
 ·rw [if_neg (by omega)];rw [qd (by omega)];rfl
@[simp] theorem c1J (a:α) (r:List α):atI (a::r) 0=some a:=by
 unfold atI ixN;rw [if_pos (by decide),if_pos (by simp<;>omega)];rfl
@[simp] theorem c2n (a b:α) (r:List α):atI (a::b::r) 1=some b:=by
 unfold atI ixN;rw [if_pos (by decide),if_pos (by simp<;>omega)];rfl
@[simp] theorem c2m (a b c:α) (r:List α):atI (a::b::c::r) 2=some c:=by
 unfold atI ixN;rw [if_pos (by decide),if_pos (by simp<;>omega)];rfl
@[simp] theorem c2l (a b c d:α) (r:List α):atI (a::b::c::d::r) 3=some d:=by
 unfold atI ixN;rw [if_pos (by decide),if_pos (by simp<;>omega)];rfl
@[simp] theorem c1m:iU ρ=some (.nx ρ):=rfl
@[simp] theorem eG:retS fa ρ=bns (fa ρ) ρ λd=>some (.rt d):=rfl
@[simp] theorem c0v:c0d fa ρ=bns (fa ρ) ρ λ_=>some (.nx ρ):=rfl
@[simp] theorem fN (i:Nat):eZ i fa ρ=bns (fa ρ) ρ λd=>some (.nx (ρ.set i (.val d))):=rfl
@[simp] theorem c0y (t:Tg):c0z t fa ρ=bns (fa ρ) ρ λd=>(tgD t ρ d).map So.nx:=rfl
@[simp] theorem lR (f g:SF):ifS ft f g ρ=bns (ft ρ) ρ λt=>if t then f ρ else g ρ:=rfl
@[simp] theorem iX (t:Tg) (fb:SF):nZ t aa fb ρ=bns (aa ρ) ρ λds=>bG t fb ds ρ:=rfl
@[simp] theorem b7P (i:Nat):a2y i aa ρ=bns (aa ρ) ρ λds=>if ds.length<=100000 then some (.nx (ρ.set i (.lst ds))) else none:=by
 unfold a2y dU;cases aa ρ with
 | none=>rfl
 | some r=>cases r with
  | ok ds=>by_cases h:ds.length<=100000<;>simp [bns,h]
  | ex c=>rfl
def aJ (h:f ρ=some (.nx ρ')):aQ f g ρ=g ρ':=by unfold aQ;rw [h]
def fF (h:f ρ=some (.rt d)):aQ f g ρ=some (.rt d):=by unfold aQ;rw [h]
@[simp] theorem c1T (i:Nat):tgD (.nm i) ρ d=some (ρ.set i (.val d)):=rfl
@[simp] theorem c0I (i j:Nat) (a b:j0):tgD (.tp [i,j]) ρ (.tuple [a,b])=some ((ρ.set i (.val a)).set j (.val b)):=rfl
@[simp] theorem c0H (i j k:Nat) (a b c:j0):tgD (.tp [i,j,k]) ρ (.tuple [a,b,c])=some (((ρ.set i (.val a)).set j (.val b)).set k (.val c)):=rfl
@[simp] theorem c0G (i j k l:Nat) (a b c d:j0):tgD (.tp [i,j,k,l]) ρ (.tuple [a,b,c,d])=some ((((ρ.set i (.val a)).set j (.val b)).set k (.val c)).set l (.val d)):=rfl
end
theorem a3n {α:Type} {t:Tg} {fb:SF} (φ:α->j0) (P:Nat->List Ent->Prop):∀ (xs:List α) (i:Nat) (ρ:List Ent),P i ρ ->
  (∀ (j:Nat) (x:α) (ρ:List Ent),xs[j]?=some x->P (i+j) ρ->∃ ρ1 ρ2,tgD t ρ (φ x)=some ρ1/\(fb ρ1=some (.nx ρ2)\/fb ρ1=some (.ct ρ2))/\P (i+j+1) ρ2) ->
  ∃ ρ',bG t fb (xs.map φ) ρ=some (.nx ρ')/\P (i+xs.length) ρ'
 | [],i,ρ,h,_=>⟨ρ,rfl,by simpa using h⟩
 | x::xs,i,ρ,h,turn=>by
  obtain ⟨ρ1,ρ2,e1,e2,h2⟩:=turn 0 x ρ rfl (by simpa using h)
  obtain ⟨ρ',e3,h3⟩:=a3n φ P xs (i+1) ρ2 (by simpa using h2) (λj y ρ hy hp=>by
   have e:i+1+j=i+(j+1):=by omega
   rw [e] at hp ⊢
   exact turn (j+1) y ρ (by simpa using hy) hp)
  refine ⟨ρ',?_,by rw [qW,show i+(xs.length+1)=i+1+xs.length by omega];exact h3⟩;rw [qK,bG,e1];dsimp only;rcases e2 with e2 | e2<;>(rw [e2];exact e3)
def sZ (h:ρ[i]?=some (.lst ds)) (ha:fa ρ=some (.ok d)) (hz:ds.length<=100000):uH i fa ρ=some (.nx (ρ.set i (.lst (ds++[d])))):=by
 unfold uH;rw [h];dsimp only;rw [aT ha,if_pos (by unfold dU;exact decide_eq_true hz)]
def uN {n:Int} (h:fa ρ=some (.ok (.int n))) (h1:-1000000000<=n) (h2:n<=1000000000):a1n fa ρ=some (.ok (pY 0 n.toNat)):=by
 unfold a1n;rw [h];dsimp only;rw [if_pos];simp [a8J];omega
end L2.L3
namespace L2.L3
open PySem PySem.W PyProof.Rows
section
variable {x:Str}
def dfE (g:j0->j0->Option j0) (fa fb:EF):EF:=λρ=>match fa ρ,fb ρ with
 | some (.ok x),some (.ok y)=>lft (g x y)
 | _,_=>none
def b3u {a:Expr} (hc:X.calm=true) (hm:X.mg "max" = none) (ha:DE X a fa) (hb:DE X b fb) (he:j4 [a] X.env=(false,eval a X.env)::j4 [] X.env:=by rfl)
  (he':v8 pos (j4 [a] X.env)=(false,eval a X.env)::v8 pos (j4 [] X.env):=by rfl) (hpl:(v8 pos (j4 [a] X.env)).any (·.1)=false:=by rfl)
  (hk1:(yz pos (w8 [⟨some "default", b,kp⟩] X.env)).filterMap (·.1)=[jB "default"]:=by rfl) (hg:Gl X "max":=by rfl):
  DE X (.Call (.Name "max" p) [a] [⟨some "default", b,kp⟩] pos) (dfE a5K fa fb):=a3O λρ r e=>by
 unfold dfE at e;split at e
 ·rename_i x y ea eb
  obtain ⟨d,ed,rfl⟩:=bW e;refine ⟨d,rfl,?_⟩;unfold a5K at ed;split at ed
  ·rename_i xs
   split at ed
   ·rename_i ei
    have hx:=iN (g:=jg) (λd a q=>sX q) ei;subst hx;have key:=a8o (p:=p) (ns:=[]) hc hm (ha.pd ea) (hb.pd eb) he he' hpl hk1 hg;cases (qA ed);exact key
   ·rename_i n ns ei
    have hx:=iN (g:=jg) (λd a q=>sX q) ei;subst hx;have key:=a8o (p:=p) (ns:=n::ns) hc hm (ha.pd ea) (hb.pd eb) he he' hpl hk1 hg;cases (qA ed);rw [if_neg (by simp)] at key;exact key
   ·cases ed
  ·cases ed
 ·cases e
def b2S (i:Nat) (fa:EF):SF:=λρ=>match ρ[i]? with
 | some (.lst ds)=>bns (fa ρ) ρ λd=>(match tW d with
  | some es=>if dU (ds.length+es.length) then some (.nx (ρ.set i (.lst (ds++es)))) else none
  | none=>none)
 | _=>none
def b9o (K:qB):V->List V->Hp->VK->Prop:=λx vs H Q=>∃ l b xs zs,x=.ref l/\vs=[.ref b]/\H l=some (.lst xs)/\(SqL K H b zs\/SqT K H b zs)/\xs.length+zs.length<=j5/\Q .non (upd H l (.lst (xs++zs)))
def b5b:MtM X "list.extend" (b9o X.K):=by
 intro pq s σ H x vs v us Q I rx rv h;obtain ⟨l,b,xs,zs,rfl,rfl,hH,hB,hz,q⟩:=h;cases rx;obtain ⟨u,rfl,ru⟩:=rv.one;cases ru;obtain ⟨z,its,n,r,hl,e⟩:=I.lstM hH;obtain ⟨its2,T,o,n2,hT,ho,hc,hd,r2⟩:=xW I hB;have hl2:=r2.length;have hl1:=r.length;have hsz:its.toArray.size+its2.toArray.size<=j5:=by rw [qP,qP];omega
 have hlong:¬(!its.toArray.isEmpty&&vy (its.toArray.size+its2.toArray.size))=true:=by
  rw [b1R hsz,Bool.and_false];exact qe
 refine j7 F.slot_list_extend ⟨_,e,rfl⟩ F.entry_list_extend ?_ (F.args_list_extend_2 _ _);show wpAny _ _ (jw (.ref l) (.ref b) .none) _ _ s;unfold jw;refine q8 (y0 (T:=T) ⟨o,ho,hc⟩ ?_);rw [if_pos (by rcases hT with rfl | rfl<;>simp)];refine q8 (uz ho hd ?_);refine q8 (uz e rfl ?_);rw [if_neg hlong];refine q8 (uq e rfl ?_ (by rw [qP];omega) (by rw [Array.size_append];omega));refine j3 ⟨_,rfl,.non,_,I.lset (its':=its++its2) (t':=s.toks) hH e (by simp) (r.append r2) ?_,rfl,q⟩;rw [qY];omega
def b5M (i:Nat) (h:DE X e fa) (hN:X.N[i]?=some x:=by rfl)
  (hv:Vis X.env.scope x:=by first | exact kC rfl | exact jY (kC rfl) | exact jY (jY rfl)) (hd:(x==("__debug__" : Str))=false:=by decide) (hcd:(x==("__classdict__" : Str))=false:=by decide)
  (hbase:ya (.Name x p) "extend" X.env (eval (.Name x p) X.env)=eval (.Name x p) X.env:=by rfl)
  (hfew:((v8 cp (j4 (e::[]) X.env)).all (λx=>!x.1)&&(yz cp (w8 [] X.env)).all (λx=>x.1.isSome)&&decide ((e::[]).length+([]:List Keyword).length+(if ([]:List Keyword).isEmpty then 0 else 1)<30))=true:=by rfl)
  (hline:(ap.endLine==cp.line)=true:=by rfl) (hst:j4 (e::[]) X.env=(false,eval e X.env)::j4 [] X.env:=by rfl) (hplain:(v8 cp (j4 [] X.env)).any (·.1)=false:=by rfl)
  (hsw:wy (.Call (.Attribute (.Name x p) "extend" ap) [e] [] cp) none pos.line X.env=pure false:=by rfl):
  DS X (.Expr (.Call (.Attribute (.Name x p) "extend" ap) [e] [] cp) pos) (b2S i fa):=⟨λpq s σ H D I ⟨ρ,o,H0,Gz,G,ef,R,q⟩=>
 uP (a5A ko PySem.F.slot_list_extend PySem.F.type_list_extend b5b (dI hN hv hd hcd) (mS h.run oS hst) hbase hfew hline hst hplain) hsw pq s σ H D I (by
  unfold b2S at ef;split at ef
  ·rename_i ds hi
   obtain ⟨a,xs,e1,h1,h2,h3,r⟩:=R.own hi;refine ⟨.ref a,e1,.inl ⟨rfl,xs,.of h1⟩,sE R ef q λd v G1 H1 g1 R1 rv e2 q1=>?_⟩;split at e2
   ·rename_i es he
    split at e2
    ·rename_i hz
     cases (qA e2);obtain ⟨b,zs,rfl,hq,r'⟩:=oK g1.sub he rv;exact ⟨a,_,xs,_,rfl,rfl,g1.hh.lst h1,hq,by rw [r.length,r'.length];exact iZ hz,q1 G1 _ σ (.refl _) (R1.wrote hi e1 ((r.mono g1.gg).append r'))⟩
    ·cases e2
   ·cases e2
  ·cases ef)⟩
end
def b6I {g:j0->j0->Option j0} {x y:j0} (ha:fa ρ=some (.ok x)) (hb:fb ρ=some (.ok y)) (h:g x y=some d):dfE g fa fb ρ=some (.ok d):=by
 unfold dfE;rw [ha,hb];dsimp only;rw [h];rfl
end L2.L3
namespace L2.L3
open PySem PySem.Spec PyProof.Rows
variable {o:Expr}
section
variable {fo:EF}
end
section
variable {a f:Expr} {fd:EF}
end
def b9S {k:Key} (h:(bK P w).is k u=true):RelV (kV k) u:=by
 rw [a7p] at h;rcases cB h with ⟨i,t,rfl,rfl⟩ | ⟨x,t,rfl,rfl⟩
 ·exact ⟨t,rfl⟩
 ·exact ⟨t,rfl⟩
theorem a3s {P:Program} {w:World}:∀ (l:List (Key×V)) (vs:List (Key×Value)) (us:T0m),KV l vs->us.length=vs.length ->
  (∀ (j:Nat) (v:Value),us[j]?=some v->∃ k x,vs[j]?=some (k,x)/\(bK P w).is k v=true)->aU (l.map λp=>kV p.1) us
 | [],_,us,r,hl,_=>by
  cases r;cases us with
  | nil=>exact .nil
  | cons _ _=>simp at hl
 | p::l,_,us,r,hl,h=>by
  cases r with
  | @cons _ q _ qs h1 t=>
  cases us with
  | nil=>simp at hl
  | cons u us=>
   refine .cons ?_ (a3s (P:=P) (w:=w) l qs us t (by simpa using hl) λj v e=>?_)
   ·obtain ⟨k,x,e,g⟩:=h 0 u rfl
    cases e;show RelV (kV p.1) u;rw [h1.1];exact b9S g
   ·obtain ⟨k,x,e,g⟩:=h (j+1) v (by simpa using e)
    exact ⟨k,x,by simpa using e,g⟩
def a7N (hc:X.calm=true):lB X (.type "list") (λxs H Q=>∃ a kvs,xs=[V.ref a]/\Rd H a (.dK kvs)/\∀ l,H l=none->Q (.ref l) (upd H l (.lst (kvs.map λp=>kV p.1)))):=by
 intro pq s σ H xs us Q I r h;obtain ⟨a,kvs,rfl,ha,q⟩:=h;obtain ⟨u,rfl,rx⟩:=vals1 r;cases rx;obtain ⟨z,lo,vs,rel,dd⟩:=a8W I.hok ha;obtain ⟨ep,dat⟩:=dd.dictAt;refine PySem.W.kdl_call (PySem.W.kdl_dict (knd:=bK X.prog X.w) (kvs:=vs) (ep:=ep) lo) (I.ok.hd hc) dat (by rw [<-rel.length];exact z) λh' tk acc c' kp e hi=>?_;refine ⟨.ref s.heap.objs.size,_,I.laid (t':=tk) kp (qM _) (show cM X.prog X.w _ h' _ (.lst (kvs.map λp=>kV p.1)) from ⟨by rw [qF];exact z,acc.toList,c',a3s kvs vs acc.toList rel (by rw [qS];exact hi.1) (λj v e=>hi.2 j v (by rw [<-jo];exact e)),?_⟩),rfl,q _ (I.hok.fresh (qM _))⟩;rw [e]
def lstK (ds:T0l):Option j0:=match ds with
 | [.dict D]=>if D.all λp=>(oC p.1).isSome then some (.list (D.map (·.1))) else none
 | _=>none
theorem a1o {K:qB} {G:Hp}:∀ (l:List (Key×V)),RepAll K G (l.map λp=>kV p.1) (l.map λp=>dX p.1)
 | []=>.nil
 | (.inl i,_)::l=>.cons (.int i) (a1o l)
 | (.inr x,_)::l=>.cons (.str x) (a1o l)
def b5g (hc:X.calm=true) (ds:T0l) (d:j0) (h:lstK ds=some d):CallD X (.type "list") ds d:=by
 unfold lstK at h;split at h
 ·rename_i D
  split at h
  ·rename_i hk
   cases (qA h)
   exact ⟨_,a7N hc,λvs G H Q s r q=>by
    cases r with
    | cons r rr=>
     cases rr;cases r with
     | dict hq e0 rr=>
      rename_i a kvs;refine ⟨a,kvs,rfl,a0L s hq,λl hl=>q _ _ _ (.put s hl) (.list (.of aH) ?_)⟩;have:D.map (·.1)=kvs.map λp=>dX p.1:=e0;rw [this];exact a1o kvs
     | fil _ _=>exact absurd hk (by simp [oC])⟩
  ·cases h
 ·cases h
end L2.L3
namespace L2.L3
open PySem PySem.Spec PyProof.Rows PySem.Calls
section
variable {e1 e2:Expr} {p1 q1 q2:Pos}
end
end L2.L3
namespace L2.L3
open PySem PySem.Spec PyProof.Rows
variable {t:Tg}
section
variable {cap:T0e}
end
def a1I:List (j0×j0)->Option (List (Key×j0))
 | []=>some []
 | p::r=>match oC p.1,a1I r with
  | some k,some l=>some ((k,p.2)::l)
  | _,_=>none
theorem Inv.as (I:Inv X pq σ H s) (e:H a=some o) (h1:∀ xs,o≠.tup xs) (h2:∀ ob u,X.H₀ a≠some (.frz ob u)) (h3:∀ p,o≠.tbl p) (h4:∀ x,o≠.own x)
  (new:cM X.prog X.w (upd H a o') s.heap a o'):Inv X pq σ (upd H a o') s:=by
 have ne:∀ b,H b=none->b≠a:=λb hb z=>by rw [z,e] at hb;cases hb
 have nu:∀ b,H b=none->upd H a o' b=none:=λb hb=>by rw [aE (ne b hb)];exact hb
 refine ⟨I.ok,I.os,I.bare,⟨I.base.keep,I.base.slot,λb ob q n hx=>nu b (I.base.free b ob q n hx),I.base.there,λb xs q=>?_,λb ob u q=>?_,λb ps q=>?_⟩,I.loc,I.cell,nu _ I.free,λx c q=>nu _ (I.freeC x c q),λp hp=>?_,λb u q=>?_,I.len⟩
 ·have z:=I.base.tups b xs q
  rw [aE (λy=>by rw [y,e] at z;exact h1 _ (qA z))];exact z
 ·rw [aE (λy=>h2 ob u (by rw [<-y];exact q))];exact I.base.frzs b ob u q
 ·obtain ⟨m,z⟩:=I.base.tbls b ps q
  exact ⟨m,by rw [aE (λy=>by rw [y,e] at z;exact h3 _ (qA z))];exact z⟩
 ·obtain ⟨e1,n,r⟩:=I.pin p hp
  exact ⟨e1,nu _ n,r⟩
 ·by_cases hb:b=a
  ·subst hb;rw [aH] at q;cases q;exact new
  ·rw [aE hb] at q
   refine (I.hok b u q).stay (λ_ _ _ z=>z) (λc z=>?_) λc xs z=>?_
   ·rw [aE (λy=>by rw [y,e] at z;exact h4 _ (qA z))];exact z
   ·rw [aE (λy=>by rw [y,e] at z;exact h1 _ (qA z))];exact z
structure M0 (X:Cx) (o:Expr) (m:Str) (apos:Pos) (cpos:Pos):Prop where
 base:ya o m X.env (eval o X.env)=eval o X.env
 few:((v8 cpos (j4 [] X.env)).all (λx=>!x.1)&&(yz cpos (w8 [] X.env)).all (λx=>x.1.isSome)
  && decide (([]:T0n).length+([]:List Keyword).length+(if ([]:List Keyword).isEmpty then 0 else 1)<30))=true
 line:(apos.endLine==cpos.line)=true
 trees:v8 cpos (j4 [] X.env)=[]
section
variable {o:Expr}
end
section
variable {cap:T0e}
theorem Tab.as {P:Addr} (e:H a=some o) (h3:∀ p,o≠.tbl p) (hcd:∀ n,o≠cdO a n) (h:Tab P q H):Tab P q (upd H a o'):=by
 obtain ⟨ps,g1,g2,g3⟩:=h;refine ⟨ps,by rw [aE (λz=>by rw [z,e] at g1;exact h3 _ (qA g1))];exact g1,g2,λp cv q1=>?_⟩;obtain ⟨d,e1,e2⟩:=g3 p cv q1;exact ⟨d,e1,by rw [aE (λz=>by subst z;rw [e] at e2;exact hcd _ (qA e2))];exact e2⟩
end
def b2p:∀ {D:List (j0×j0)} {kvs:List (Key×j0)},a1I D=some kvs->D=kvs.map λp=>(dX p.1,p.2):=by
 intro D
 induction D with
 | nil=>intro kvs h;cases (qA h);rfl
 | cons p r ih=>
  intro kvs h;unfold a1I at h;split at h
  ·rename_i k l hk hl
   cases (qA h);rw [qK,<-ih hl,<-a0Q hk]
  ·cases h
def b2s {k l:Key} (h:dX k=dX l):k=l:=by
 have:=congrArg oC h;rw [fV,fV] at this;exact qA this
def b2f:∀ {a b:List Key},a.map dX=b.map dX->a=b:=by
 intro a
 induction a with
 | nil=>intro b h;cases b with | nil=>rfl | cons _ _=>cases h
 | cons x a ih=>
  intro b h;cases b with
  | nil=>cases h
  | cons y b=>
   rw [qK,qK,vC] at h;rw [b2s h.1,ih h.2]
end L2.L3
namespace L2.L3
open PySem PySem.Spec PySem.Calls PyProof.Rows
structure FCls (K:qB):Prop where
 cl:Cls K (pB K)
 n1:mG K (pB K) "filled"
 n2:mG K (pB K) "taken"
 n3:mG K (pB K) "waiting"
 n4:mG K (pB K) "left"
abbrev fD (ds:T0l):j0:=.dict [(.none,.tuple ds)]
def cS (j:Nat):j0->Option j0
 | .dict [(.none,.tuple ds)]=>ds[j]?
 | _=>none
def b7J {x:j0} {kvs:List (Key×V)} (h:([((.none:j0),x)]:List (j0×j0)).map (·.1)=kvs.map λp=>dX p.1):False:=by
 cases kvs with
 | nil=>cases h
 | cons p r=>
  obtain ⟨k,v⟩:=p;cases k<;>cases h
def a8O {K:qB} (r:Rep K G v (fD ds)):∃ a dx v1 v2 v3 v4,v=.ref a/\G a=some (.ins (pB K) dx (fFs v1 v2 v3 v4))/\RepAll K G [v1,v2,v3,v4] ds:=by
 cases r with
 | dict h e0 rr=>exact (b7J e0).elim
 | fil h rr=>exact ⟨_,_,_,_,_,_,rfl,h,rr⟩
section
variable {a o:Expr} {fa:EF} {fA:AF} {f m:Str} {F:List j0->Mm j0}
def bR (j:Nat) (C:FCls X.K) (hn:mG X.K (pB X.K) f) (ha:DE X a fa) (hj:∀ v1 v2 v3 v4,(fFs v1 v2 v3 v4).lookup f=[v1,v2,v3,v4][j]?:=by intros;rfl)
  (hb:ya a f X.env (eval a X.env)=eval a X.env:=by rfl):DE X (.Attribute a f pos) (op1 (cS j) fa):=⟨λpq s σ H Q I ⟨ρ,r,H0,Gz,G,e,R,q⟩=>b7s ha.run hb pq s σ H Q I (bE R e q.x λx v G1 H1 g1 R1 rv e1=>by
 obtain ⟨d,ed,rfl⟩:=bW e1;unfold cS at ed;split at ed
 ·obtain ⟨b,dx,v1,v2,v3,v4,rfl,h,rr⟩:=a8O rv
  obtain ⟨u,eu,ru⟩:=rr.get ed;exact ⟨b,_,dx,_,u,rfl,g1.sub _ _ h,C.cl,hn,by rw [hj];exact eu,q _ _ _ g1 ru⟩
 ·cases ed)⟩
structure MethF (P:Program) (w:World) (K:qB) (mg:T0d) (base:Heap) (m:Str) (k:Nat) (F:List j0->Mm j0):Prop where
 ex:∃ f fd,Meth K (pB K) m f/\Binds K fd ["self"] []/\FnOk P w K mg base CX0 k f fd ["self"] (spD K λds d=>F ds=some (.ok d))
def iP (F:List j0->Mm j0) (fa:EF):EF:=λρ=>bnd (fa ρ) λx=>match x with
 | .dict [(.none,.tuple ds)]=>(match F [fD ds] with
  | some (.ok d)=>some (.ok d)
  | _=>none)
 | _=>none
def mC {pl:Sem Bool} (C:FCls X.K) (M:MethF X.prog X.w X.K X.mg X.base m k F) (hr:Room k X.A) (ha:DE X o fa) (hl:∀ v1 v2 v3 v4,(fFs v1 v2 v3 v4).lookup m=none:=by intros;rfl)
  (ht:eval (.Call (.Attribute o m ap) [] [] pos) X.env=(do
   let ov <-eval o X.env
   Qg ap.atName
   let (f,first) <-holding [ov] (getMethod ov m pl)
   callWith pos f first (v8 pos (j4 [] X.env)) (yz pos (w8 [] X.env))):=by rfl):
  DE X (.Call (.Attribute o m ap) [] [] pos) (iP F fa):=⟨λpq s σ H Q I ⟨ρ,r,H0,Gz,G,e,R,q⟩=>by
 obtain ⟨f,fd,hm,hb,Fk⟩:=M.ex;refine b1F (pl:=pl) ha.run C.cl hm Fk hr hb .nil (a8p (X:=X)) ht pq s σ H Q I (bE R e q.x λx v G1 H1 g1 R1 rv e1=>?_);split at e1
 ·split at e1
  ·rename_i ds d ed
   cases (qA e1);obtain ⟨b,dx,v1,v2,v3,v4,rfl,h,rr⟩:=a8O rv;exact ⟨b,dx,_,rfl,g1.sub _ _ h,hl _ _ _ _,G1,_,d,⟨g1.sub,R1.tab⟩,.cons rv .nil,ed,λv G2 H2 g2 r2=>q v G2 H2 (g1.trans g2) r2⟩
  ·cases e1
 ·cases e1⟩
def spF (K:qB):Sp:=λvs H Q _=>∃ x dx v1 v2 v3 v4,vs=[.ref x,v1,v2,v3,v4]/\H x=some (.ins (pB K) dx [])/\Q .non (upd H x (.ins (pB K) dx (fFs v1 v2 v3 v4)))
abbrev fPs:List Str:=["self", "filled", "taken", "waiting", "left"]
structure FMk (P:Program) (w:World) (K:qB) (mg:T0d) (base:Heap) (k:Nat):Prop where
 ex:∃ f fd,mg "Filling" = some (.ref (pB K))/\Mk K (pB K) f/\Binds K fd fPs []/\FnOk P w K mg base CX0 k f fd fPs (spF K)
def mkF (fA:AF):EF:=λρ=>bnd (fA ρ) λds=>if ds.length=4 then some (.ok (fD ds)) else none
def a4X (M:FMk X.prog X.w X.K X.mg X.base k) (hr:Room (k+1) X.A) (ha:DA X (e::es) fA) (hg:Gl X "Filling":=by rfl)
  (he:j4 (e::es) X.env=(false,eval e X.env)::j4 es X.env:=by rfl) (hpl:(v8 pos (j4 es X.env)).any (·.1)=false:=by rfl):DE X (.Call (.Name "Filling" p) (e::es) [] pos) (mkF fA):=⟨λpq s σ H Q I ⟨ρ,r,H0,Gz,G,e',R,q⟩=>by
 obtain ⟨f,fd,hm,mk,bd,Fk⟩:=M.ex;refine b4B mk Fk hr hg hm bd .nil (a8p (X:=X)) ha.run (by decide) he hpl pq s σ H Q I (bA R e' q.x λds vs G1 H1 g1 R1 rv e1=>?_);split at e1
 ·rename_i hl
  cases (qA e1);intro x dx hx hdx hne;have hl':vs.length=4:=by rw [rv.length];exact hl
  match vs,hl',rv with
  | [v1,v2,v3,v4],_,rv=>
   have hx':upd H1 dx (.own x) x=none:=by rw [aE (jT hne)];exact hx
   have g2:Grow G1 H1 (upd G1 dx (.own x)) (upd H1 dx (.own x)):=Grow.put g1.sub hdx;have g3:=Grow.put (o:=.ins (pB X.K) dx (fFs v1 v2 v3 v4)) g2.sub hx';refine ⟨x,dx,v1,v2,v3,v4,rfl,aH,rfl,?_⟩;rw [a0K];exact q _ _ _ (g1.trans (g2.trans g3)) (.fil aH (rv.mono (g2.trans g3).gg))
 ·cases e1⟩
end
variable {fa:Addr} {a1 a2 a3 a4 b1 b2 b3 b4 c1 c2 c3 c4 d1 d2 d3 d4:Pos}
section
variable {K:qB} {x m:Str}
def fF1 (v1:V):List (Str×V):=[("filled", v1)]
def fF2 (v1 v2:V):List (Str×V):=[("filled", v1),("taken", v2)]
def fF3 (v1 v2 v3:V):List (Str×V):=[("filled", v1),("taken", v2),("waiting", v3)]
def b9x (v:V):lN "filled" v []=fF1 v:=rfl
def b9w (v1 v:V):lN "taken" v (fF1 v1)=fF2 v1 v:=by
 unfold fF1 fF2;simp only [lN];rw [if_neg (by decide)]
def b9v (v1 v2 v:V):lN "waiting" v (fF2 v1 v2)=fF3 v1 v2 v:=by
 unfold fF2 fF3;simp only [lN];rw [if_neg (by decide),if_neg (by decide)]
def b9u (v1 v2 v3 v:V):lN "left" v (fF3 v1 v2 v3)=fFs v1 v2 v3 v:=by
 unfold fFs fF3;simp only [lN];rw [if_neg (by decide),if_neg (by decide),if_neg (by decide)]
def a9U (B:FCls K) (Fu:Fun K "__init__" "Filling.__init__" st fa fd) (S:FnScope fPs fPs (aD st))
  (hv:∀ y∈fPs,(aD st).names.lookup y=some .local)
  (hB:bN st=[.Assign [.Attribute (.Name "self" a1) "filled" a2] (.Name "filled" a3) a4,.Assign [.Attribute (.Name "self" b1) "taken" b2] (.Name "taken" b3) b4,.Assign [.Attribute (.Name "self" c1) "waiting" c2] (.Name "waiting" c3) c4,.Assign [.Attribute (.Name "self" d1) "left" d2] (.Name "left" d3) d4]):
  FnOk P w K mg base CX0 (k+1) fa fd fPs (spF K):=by
 refine Fu.ok S (λvs H Q E ⟨x,dx,v1,v2,v3,v4,e,_⟩=>by rw [e];rfl) (λcdv A outer s H vs Q E hr ⟨x,dx,v1,v2,v3,v4,e,hx,q⟩=>?_);subst e;rw [hB];have vis:∀ y∈fPs,Vis (a6n CX0 P w K mg base fPs "Filling.__init__" (aD st) fa cdv A outer s H E).nox.env.scope y:=λy hy=>.inl (hv y hy)
 refine ⟨_,a1p (a4u (dI (i:=0) rfl (vis _ (by decide))) (dI (i:=1) rfl (vis _ (by decide))) rfl) (a1p (a4u (dI (i:=0) rfl (vis _ (by decide))) (dI (i:=2) rfl (vis _ (by decide))) rfl)
  (a1p (a4u (dI (i:=0) rfl (vis _ (by decide))) (dI (i:=3) rfl (vis _ (by decide))) rfl) (a4s (a4u (dI (i:=0) rfl (vis _ (by decide))) (dI (i:=4) rfl (vis _ (by decide))) rfl)))),?_⟩
 refine ⟨v1,rfl,.ref x,rfl,x,_,dx,[],rfl,hx,B.cl,B.n1,by decide,?_⟩;rw [b9x];refine ⟨v2,rfl,.ref x,rfl,x,_,dx,_,rfl,aH,B.cl,B.n2,by show 1<1000;decide,?_⟩;rw [b9w,a0K];refine ⟨v3,rfl,.ref x,rfl,x,_,dx,_,rfl,aH,B.cl,B.n3,by show 2<1000;decide,?_⟩;rw [b9v,a0K];refine ⟨v4,rfl,.ref x,rfl,x,_,dx,_,rfl,aH,B.cl,B.n4,by show 3<1000;decide,?_⟩;rw [b9u,a0K];exact q
def b5y (m n:Nat) (Fu:Fun K x qual st fa fd) (S:FnScope N ps (aD st)) (hm:N.length=m) (hn:ps.length=n)
  (body:∀ (cdv:Value) (A:Around) (outer:List Env) (s:Shared) (H:Hp) (E:XK),Room k (A.deeper (um qual (aD st) s.heap.objs.size fa cdv))->DB (fcx P w K mg base N qual (aD st) fa cdv A outer s H E) (bN st) f):
  FnOk P w K mg base CX0 (k+1) fa fd ps (spD K λds d=>bZ m n f ds=some (.ok d)):=by
 refine Fu.ok S (λvs H Q E ⟨G,ds,d,s,r,hF,_⟩=>?_) (λcdv A outer s H vs Q E hr ⟨G,ds,d,sm,r,hF,q⟩=>?_)
 ·have hF:bZ m n f ds=some (.ok d):=hF
  unfold bZ at hF;split at hF
  ·rename_i hl;rw [r.length,hl,hn]
  ·cases hF
 ·have hF:bZ m n f ds=some (.ok d):=hF
  unfold bZ at hF;split at hF
  ·rw [<-hm,<-sG] at hF
   split at hF
   ·rename_i d' e
    cases (qA hF);exact ⟨_,(body cdv A outer s H E hr).run,gB N ds,_,H,G,G,e,fR sm r,λv G' H' _ g rv=>q v G' H' g rv⟩
   ·rename_i ρ' e
    cases (qA hF);exact ⟨_,(body cdv A outer s H E hr).run,gB N ds,_,H,G,G,e,fR sm r,λG' H' σ' _ R'=>q .non G' H' R'.grow .none⟩
   ·cases hF
  ·cases hF
structure FDef (K:qB) (m:Str) (st:Stmt):Prop where
 ex:∃ f fd,Fun K m ("Filling." ++ m) st f fd/\Meth K (pB K) m f
def sQ (mm:Nat) (D:FDef K m st) (S:FnScope N ["self"] (aD st)) (hm:N.length=mm)
  (hb:∀ (kV doc pm:Value) (an:T0k) (cdv ct:Value) (us:T0m),us.length=["self"].length->uo (je m ("Filling." ++ m) (eJ st) (bN st) (aD st) .none kV doc pm an cdv ct) ⟨us,[]⟩=pure ((["self"]:T0q).zip us))
  (body:∀ (fa:Addr) (cdv:Value) (A:Around) (outer:List Env) (s:Shared) (H:Hp) (E:XK),Room k (A.deeper (um ("Filling." ++ m) (aD st) s.heap.objs.size fa cdv))->DB (fcx P w K mg base N ("Filling." ++ m) (aD st) fa cdv A outer s H E) (bN st) f):
  MethF P w K mg base m (k+1) (bZ mm 1 f):=by
 obtain ⟨fa,fd,Fu,M⟩:=D.ex;exact ⟨fa,fd,M,Fu.binds hb,b5y mm 1 Fu S hm rfl λcdv A outer s H E hr=>body fa cdv A outer s H E hr⟩
end
section
variable {K:qB} {m:Str} {f:Addr} {kV:Value}
def a6r:Stmt->Nat->Stmt
 | .ClassDef _ _ _ b _ _ _ _ _ _ _,j=>b.getD j (.Pass ⟨0,0,0,0⟩)
 | s,_=>s
def a4Q (a0:jD K j6 "Filling" = some (some (.ref C))):pB K=C:=by unfold pB;rw [a0]
def fdef_mk (a0:jD K j6 "Filling" = some (some (.ref C))) (a:jL K (.ref C) m=some (some (.ref f))) (i:vo K (.ref f)=true)
  (l:K.lookup f=some ⟨oc,od,.func (je m ("Filling." ++ m) (eJ st) (bN st) (aD st) .none kV doc pm an cdv ct),sl⟩) (c:zN K cdv ("Filling." ++ m)=true) (k:jp K (.ref f)=true):FDef K m st:=
 ⟨f,_,a4O l c k,by rw [a4Q a0];exact ⟨a,i,k⟩⟩
def fcls_mk (a0:jD K j6 "Filling" = some (some (.ref C))) (c1:zn K C Str.empty=true) (c2:vO K C=true) (c3:wR K C=true) (c4:jL K (.ref C) "__setattr__" = some (some (.builtin "object.__setattr__")))
  (n1:jL K (.ref C) "filled" = some none) (n2:jL K (.ref C) "taken" = some none) (n3:jL K (.ref C) "waiting" = some none) (n4:jL K (.ref C) "left" = some none):FCls K:=by
 have e:=a4Q a0;refine ⟨?_,?_,?_,?_,?_⟩<;>rw [e]
 ·exact ⟨c1,c2,c3,c4⟩
 ·exact n1
 ·exact n2
 ·exact n3
 ·exact n4
structure FIn (K:qB) (st:Stmt):Prop where
 ex:∃ f fd,jD K j6 "Filling" = some (some (.ref (pB K)))/\Mk K (pB K) f/\Fun K "__init__" "Filling.__init__" st f fd
def fin_mk (a0:jD K j6 "Filling" = some (some (.ref C))) (k1:PySem.W.makesIn K C=true) (k2:jL K (.ref C) "__init__" = some (some (.ref f))) (k3:vo K (.ref f)=true) (k4:jp K (.ref C)=true)
  (l:K.lookup f=some ⟨oc,od,.func (je "__init__" "Filling.__init__" (eJ st) (bN st) (aD st) .none kV doc pm an cdv ct),sl⟩) (c:zN K cdv "Filling.__init__" = true) (k:jp K (.ref f)=true):FIn K st:=by
 have e:=a4Q a0;exact ⟨f,_,by rw [e];exact a0,by rw [e];exact ⟨k1,k2,k3,k4⟩,a4O l c k⟩
def b5A {h:Heap} (X:K.In h) (G:h.Ns j6 mg) (B:FCls K) (I:FIn K st) (S:FnScope fPs fPs (aD st)) (hv:∀ y∈fPs,(aD st).names.lookup y=some .local)
  (hB:bN st=[.Assign [.Attribute (.Name "self" a1) "filled" a2] (.Name "filled" a3) a4,.Assign [.Attribute (.Name "self" b1) "taken" b2] (.Name "taken" b3) b4,.Assign [.Attribute (.Name "self" c1) "waiting" c2] (.Name "waiting" c3) c4,.Assign [.Attribute (.Name "self" d1) "left" d2] (.Name "left" d3) d4])
  (hb:∀ (kV doc pm:Value) (an:T0k) (cdv ct:Value) (us:T0m),us.length=fPs.length->uo (je "__init__" "Filling.__init__" (eJ st) (bN st) (aD st) .none kV doc pm an cdv ct) ⟨us,[]⟩=pure (fPs.zip us)):FMk P w K mg base 1:=by
 obtain ⟨f,fd,a0,M,Fu⟩:=I.ex;exact ⟨f,fd,PySem.W.mg_of X G a0,M,Fu.binds hb,a9U (k:=0) B Fu S hv hB⟩
end
end L2.L3
namespace L2.L3
open PySem PySem.Spec PySem.Calls PyProof.Rows HS
variable {xs:List (j0×Addr×Value)}
section
variable {K:qB} {ks':T0l}
theorem RepS.sn (R:RepS K H0 Gz G H σ ρ) (h:ρ[i]?=some (.seen w ks)):∃ a xs,σ[i]?=some (some (.ref a))/\H a=some (seenO w a xs)/\G a=none/\H0 a=none/\xs.map (·.1)=ks/\ks.Nodup/\∀ x∈xs,hsh 4 x.1=true/\Rep K G (.ref x.2.1) x.1:=by
 obtain ⟨o,e,a,xs,rfl,r⟩:=R.at h;exact ⟨a,xs,e,r⟩
def alone (i:Nat) (ρ:List Ent):Bool:=(qV ρ.length).all λj=>j==i || (match ρ[j]? with | some (.seen _ _)=>false | some (.exc _)=>false | _=>true)
def b3O (h:alone i ρ=true):(∀ (j:Nat) (w':World) (l:T0l),ρ[j]?=some (.seen w' l)->j=i)/\∀ (j:Nat) (c:Str),ρ[j]?=some (.exc c)->j=i:=by
 refine ⟨λj w' l hj=>?_,λj c hj=>?_⟩<;>(have:=qm.mp h j (qo.mpr (qR.mp hj).1);rw [hj] at this;simpa using this)
theorem Tab.wrX {P:Addr} {φ:Heap->Prop} (t:Tab P q H) (h:H a=some (.ext φ)) (hc:∀ c q,H c=some (cdO c q)->c≠a):Tab P q (upd H a o):=by
 obtain ⟨ps,h1,h2,h3⟩:=t;refine ⟨ps,by rw [aE (cO h1 h (by nofun))];exact h1,h2,λpos cv e=>?_⟩;obtain ⟨c,e1,e2⟩:=h3 pos cv e;exact ⟨c,e1,by rw [aE (hc c q e2)];exact e2⟩
def RepS.wroteS (R:RepS K H0 Gz G H σ ρ) (h:ρ[i]?=some (.seen w ks)) (al:alone i ρ=true) (e:σ[i]?=some (some (.ref a))) (hc:∀ c q,H c=some (cdO c q)->c≠a)
  (r:xs.map (·.1)=ks'/\ks'.Nodup/\∀ x∈xs,hsh 4 x.1=true/\Rep K G (.ref x.2.1) x.1):RepS K H0 Gz G (upd H a (seenO w a xs)) σ (ρ.set i (.seen w ks')):=by
 obtain ⟨a',xs',e',h1,h2,h3,_⟩:=R.sn h;obtain ⟨al1,al2⟩:=b3O al;rw [e] at e';cases e';refine ⟨⟨R.grow.gg,⟨λb u e n=>by rw [aE (aO e h3)];exact R.grow.hh.keep b u e n,λb ps e=>by rw [aE (aO e h3)];exact R.grow.hh.tbl b ps e,λP q t=>(R.grow.hh.tab P q t).wrX h1 hc⟩,λb o q=>?_,λb q n=>R.grow.new b q n,R.grow.nt⟩,by simp [R.len],λj o e' q1 q2=>?_,?_,⟨λx hx c P e=>(R.tab.1 x hx c P e).wrX h1 hc,R.tab.2⟩⟩
 ·rw [aE (aO q h2)];exact R.sub b o q
 ·rcases aF q2 with ⟨rfl,rfl,_⟩ | ⟨nj,q2⟩
  ·rw [e] at q1;cases q1
   exact ⟨a,xs,rfl,aH,h2,h3,r⟩
  ·have E:=R.ent j o e' q1 q2
   cases e' with
   | no=>trivial
   | val d=>exact E
   | lst es=>
    obtain ⟨b,ys,z,g1,g2,g3,rv⟩:=E;exact ⟨b,ys,z,by rw [aE (cO g1 h1 (by unfold seenO;nofun))];exact g1,g2,g3,rv⟩
   | exc c=>exact absurd (al2 j c q2) nj
   | nst dss=>
    obtain ⟨b,bs,z,g1,g2,g3,g4,g5,rv⟩:=E;exact ⟨b,bs,z,by rw [aE (cO g1 h1 (by unfold seenO;nofun))];exact g1,g2,g3,g4,g5,eN rv λc dd hc ⟨xs',x1,x2,x3,x4⟩=>⟨xs',by rw [aE (cO x1 h1 (by unfold seenO;nofun))];exact x1,x2,x3,x4⟩⟩
   | dct kvs=>
    obtain ⟨b,vs,z,g1,g2,g3,rv⟩:=E;exact ⟨b,vs,z,by rw [aE (cO g1 h1 (by unfold seenO;nofun))];exact g1,g2,g3,rv⟩
   | seen w' l=>exact absurd (al1 j w' l q2) nj
 ·have I1:Inj H σ (ρ.set i (.seen w ks')):=by
   have old:∀ (j:Nat) (e:Ent),(ρ.set i (.seen w ks'))[j]?=some e->(∀ w' l,e≠.seen w' l)->ρ[j]?=some e:=λj e q n=>by
    rcases aF q with ⟨_,z,_⟩ | ⟨_,q⟩
    ·exact absurd z (n _ _)
    ·exact q
   exact ⟨λj k b es fs hjk q1 q2 q3 q4=>R.inj.two j k b es fs hjk q1 (old j _ q2 (by nofun)) q3 (old k _ q4 (by nofun)),λj k b a' es dss q1 q2 q3 q4=>R.inj.mix j k b a' es dss q1 (old j _ q2 (by nofun)) q3 (old k _ q4 (by nofun)),λj k dss ess q1 q2=>R.inj.one j k dss ess (old j _ q1 (by nofun)) (old k _ q2 (by nofun)),λj k ks ls q1 q2=>R.inj.oneD j k ks ls (old j _ q1 (by nofun)) (old k _ q2 (by nofun))⟩
  refine I1.other λj a' dss q1 q2 vs z=>?_;by_cases n:a'=a
  ·subst n;rw [aH] at z;unfold seenO at z;cases z
  ·rw [aE n] at z;exact z
def RepS.freshS {p:Addr} (R:RepS K H0 Gz G H σ ρ) (h:H p=none):RepS K H0 Gz G (upd H p (seenO w p [])) (σ.set i (some (.ref p))) (ρ.set i (.seen w [])):=by
 have R':=R.more (Grow.side (o:=seenO w p []) R.sub h);refine ⟨R'.grow,by simp [R.len],λj o e h1 h2=>?_,?_,R'.tab⟩
 ·rcases aF h1 with ⟨rfl,rfl,_⟩ | ⟨n,h1⟩
  ·rcases aF h2 with ⟨_,rfl,_⟩ | ⟨n,_⟩
   ·exact ⟨p,[],rfl,aH,R.sub.free h,R.grow.hh.free h,rfl,.nil,λx hx=>nomatch hx⟩
   ·exact absurd rfl n
  ·rcases aF h2 with ⟨z,_⟩ | ⟨_,h2⟩
   ·exact absurd z n
   ·exact R'.ent j o e h1 h2
 ·have old:∀ (j:Nat) (e:Ent),(ρ.set i (.seen w []))[j]?=some e->(∀ w' l,e≠.seen w' l)->ρ[j]?=some e/\(σ.set i (some (.ref p)))[j]?=σ[j]?:=λj e q n=>by
   rcases aF q with ⟨_,z,_⟩ | ⟨nj,q⟩
   ·exact absurd z (n _ _)
   ·exact ⟨q,qj (jT nj)⟩
  refine ⟨λj k b es fs hjk q1 q2 q3 q4=>?_,λj k b a' es dss q1 q2 q3 q4=>?_,λj k dss ess q1 q2=>R'.inj.one j k dss ess (old j _ q1 (by nofun)).1 (old k _ q2 (by nofun)).1,λj k ks ls q1 q2=>R'.inj.oneD j k ks ls (old j _ q1 (by nofun)).1 (old k _ q2 (by nofun)).1⟩
  ·obtain ⟨x1,x2⟩:=old j _ q2 (by nofun)
   obtain ⟨y1,y2⟩:=old k _ q4 (by nofun);rw [x2] at q1;rw [y2] at q3;exact R'.inj.two j k b es fs hjk q1 x1 q3 y1
  ·obtain ⟨x1,x2⟩:=old j _ q2 (by nofun)
   obtain ⟨y1,y2⟩:=old k _ q4 (by nofun);rw [x2] at q1;rw [y2] at q3;exact R'.inj.mix j k b a' es dss q1 x1 q3 y1
end
def b6w (w:World) (i:Nat):SF:=λρ=>some (.nx (ρ.set i (.seen w [])))
def a9j:j0->Bool
 | .tuple _=>true
 | _=>false
open Classical in
noncomputable def a5E (w:World) (i:Nat) (fk:EF):TF:=λρ=>bnd (fk ρ) λk=>match ρ[i]? with
 | some (.seen w' ks)=>if w'=w/\(hsh 4 k&&a9j k)=true then some (.ok (!decide (k∈ks))) else none
 | _=>none
open Classical in
noncomputable def a2Z (w:World) (i:Nat) (fk fv:EF):SF:=λρ=>match ρ[i]? with
 | some (.seen w' ks)=>if w'=w then bns (fv ρ) ρ λ_=>bns (fk ρ) ρ λk=>if (hsh 4 k&&a9j k&&alone i ρ&&dU ks.length)=true/\k∉ks then some (.nx (ρ.set i (.seen w (ks++[k])))) else none else none
 | _=>none
variable {k:j0}
section
variable {x:Str}
def b4A:PE X (.Dict [] [] pos) (λ_ H Q=>∀ p,H p=none->Q (.ref p) (upd H p (seenO X.w p []))):=λpq s σ H Q I h=>
 wpAny_Dict_empty ⟨.ref s.heap.objs.size,_,I.laid (a:=s.heap.objs.size) (o:=seenO X.w s.heap.objs.size []) (t':=s.toks) (λ_ _ q=>qC _ q) (qM _)
  ⟨⟨beq_eq_false_iff_ne.mpr (jT (qc I.big)),_,#[],_,qJ _ rfl,⟨rfl,rfl,rfl⟩,rfl,rfl⟩,⟨_,qJ _ rfl⟩,λh1 h2 ⟨z,o,es,ep,g,r⟩ k=>⟨z,o,es,ep,k o g,r⟩⟩,rfl,h _ (I.hok.fresh (qM _))⟩
def b3e (i:Nat) (hN:X.N.Nodup) (hi:X.N[i]?=some x:=by rfl) (hx:Loc X.env.scope x:=by first | exact kC rfl | exact jY rfl)
  (hs:wy (.Dict [] [] pos) (some (.Name x p)) pos.line X.env=pure false:=by rfl) (hf:X.fn x=true\/X.env.scope.names.lookup x=some .local:=by first | exact .inl rfl | exact .inr rfl) {q:Pos} (hs':wy (.Dict [] [] pos) (some (.Name x p)) q.line X.env=pure false:=by rfl):
  DS X (.Assign [.Name x p] (.Dict [] [] pos) q) (b6w X.w i):=⟨λpq s σ H D I ⟨ρ,o,H0,Gz,G,ef,R,qq⟩=>yB hN hi hx b4A hs' hf pq s σ H D I (by
 cases (qA ef)
 exact λl hl=>qq G _ _ (.refl _) (R.freshS hl))⟩
def a4m (I:Inv X pq σ H s) (R:RepS X.K H0 Gz G H σ ρ) (h:ρ[i]?=some (.seen X.w ks)):
  ∃ a xs,σ[i]?=some (some (.ref a))/\H a=some (seenO X.w a xs)/\(a==yf)=false/\xs.map (·.1)=ks/\ks.Nodup/\(∀ x∈xs,hsh 4 x.1=true/\Rep X.K G (.ref x.2.1) x.1)/\s.heap.DictOfH (nest X.prog X.w) a xs:=by
 obtain ⟨a,xs,e,h1,h2,h3,r1,r2,r3⟩:=R.sn h;obtain ⟨⟨z,o,es,ep,g1,g2,g3,g4⟩,_⟩:=I.hok a _ h1;refine ⟨a,xs,e,h1,z,r1,r2,r3,o,es,ep,g1,g2,g3,g4,λx hx=>?_,by rw [r1];exact r2⟩;obtain ⟨q1,q2⟩:=r3 x hx;obtain ⟨as,ra⟩:=(q2.mono R.sub).reads I (uS _ (oX 4 _ q1)) (u:=.ref x.2.1) rfl;exact ⟨q1,as,ra⟩
def b6q:(atKey xs k).isSome=true↔k∈xs.map (·.1):=by
 unfold atKey;rw [Option.isSome_map,List.find?_isSome];constructor
 ·rintro ⟨x,hx,e⟩
  exact qO.mpr ⟨x,hx,of_decide_eq_true e⟩
 ·intro h
  obtain ⟨x,hx,e⟩:=qO.mp h;exact ⟨x,hx,decide_eq_true e⟩
def a8i {K:qB} (h:a9j k=true) (r:Rep K G v k):∃ b,v=.ref b:=by
 cases r<;>first | exact ⟨_,rfl⟩ | cases h
def b1L (i:Nat) (hu:X.A.units+64<cLine) (hk:DE X e fk) (hN:X.N[i]?=some x:=by rfl)
  (hv:Vis X.env.scope x:=by first | exact kC rfl | exact jY (kC rfl) | exact jY (jY rfl)) (hd:(x==("__debug__" : Str))=false:=by decide) (hcd:(x==("__classdict__" : Str))=false:=by decide)
  (hm:yj .NotIn (.Name x p)=false:=by rfl):DT X (.Compare e [.NotIn] [.Name x p] pos) (a5E X.w i fk):=⟨λpq s σ H Q I ⟨ρ,r,H0,Gz,G,ef,R,q⟩=>by
 refine b7k (t:=λσ H Q=>rE X fk σ H λv H1=>∃ b k ρ G H0 Gz ks,v=.ref b/\RepS X.K H0 Gz G H1 σ ρ/\Rep X.K G v k/\ρ[i]?=some (.seen X.w ks)/\hsh 4 k=true/\Q (.bl (!decide (k∈ks))) H1) (λpq s σ H Q I h=>?_) hm pq s σ H Q I ?_
 ·refine thn (hk.run pq s σ H _ I h) λiv s1 ⟨v,H1,I1,rv,b,k,ρ,G,H0,Gz,ks,ev,R,rk,hi,hh,q⟩=>?_
  obtain ⟨a,xs,e1,h1,z,r1,r2,r3,dd⟩:=a4m I1 R hi;refine thn (dI hN hv hd hcd pq s1 σ H1 (λv H2=>v=.ref a/\H2=H1) I1 ⟨.ref a,e1,rfl,rfl⟩) λu s2 ⟨v2,H2,I2,r2',e2,e3⟩=>?_;subst e2 e3 ev;cases r2';cases rv;obtain ⟨a',xs',e1',h1',z',r1',r2'',r3',dd'⟩:=a4m I2 R hi;rw [e1] at e1';cases e1';obtain ⟨as,ra⟩:=(rk.mono R.sub).reads I2 (uS _ (oX 4 _ hh)) (u:=.ref b) rfl;refine wpAny_notIn_heap (knd:=nest X.prog X.w) (show X.A.in1.units+8<cLine by show X.A.units+1+8<cLine;omega) ⟨hh,as,ra⟩ z' dd' ⟨.bl _,H2,I2.tok _,rfl,?_⟩;have:(atKey xs' k).isSome=decide (k∈ks):=by
   rw [zV,b6q,r1',decide_eq_true_iff]
  rw [this];exact q
 ·unfold a5E at ef
  refine bE R ef q.x λk v G1 H1 g1 R1 rv e1=>?_;split at e1
  ·rename_i w' ks hi
   split at e1
   ·rename_i hz
    obtain ⟨rfl,hz⟩:=hz;rw [qL] at hz;cases (qA e1);obtain ⟨b,rfl⟩:=a8i hz.2 rv;exact ⟨b,k,ρ,G1,H0,Gz,ks,rfl,R1,rv,hi,hz.1,_,rfl,q _ _ g1⟩
   ·cases e1
  ·cases e1⟩
def b3c (i:Nat) (hu:X.A.units+64<cLine) (hv:DE X e fv) (hk:DE X kx fk) (hN:X.N[i]?=some x:=by rfl)
  (hvi:Vis X.env.scope x:=by first | exact kC rfl | exact jY (kC rfl) | exact jY (jY rfl)) (hd:(x==("__debug__" : Str))=false:=by decide) (hcd:(x==("__classdict__" : Str))=false:=by decide)
  (hs:wy e (some (.Subscript (.Name x xp) kx kp)) pos.line X.env=pure false:=by rfl):
  DS X (.Assign [.Subscript (.Name x xp) kx kp] e pos) (a2Z X.w i fk fv):=⟨λpq s σ H D I ⟨ρ,o,H0,Gz,G,ef,R,q⟩=>by
 have hrun:rE X fv σ H λv H1=>∃ ρ G H0 Gz ks a,RepS X.K H0 Gz G H1 σ ρ/\ρ[i]?=some (.seen X.w ks)/\σ[i]?=some (some (.ref a))/\rE X fk σ H1 λy H2=>∃ b k G,y=.ref b/\RepS X.K H0 Gz G H2 σ ρ/\Rep X.K G y k/\hsh 4 k=true/\alone i ρ=true/\dU ks.length=true/\k∉ks /\
   ∀ H',RepS X.K H0 Gz G H' σ (ρ.set i (.seen X.w (ks++[k])))->D.nx σ H':=by
  unfold a2Z at ef;split at ef
  ·rename_i w' ks hw
   split at ef
   ·rename_i ew
    subst ew;refine sE R ef q λd v G1 H1 g1 R1 rv e2 q1=>?_;obtain ⟨a,xs,ea,_⟩:=R1.sn hw;refine ⟨ρ,G1,H0,Gz,ks,a,R1,hw,ea,sE R1 e2 q1 λk u G2 H2 g2 R2 ru e3 q2=>?_⟩;split at e3
    ·rename_i hz
     obtain ⟨hz,hn⟩:=hz;simp only [qL] at hz;cases (qA e3);obtain ⟨b,rfl⟩:=a8i hz.1.1.2 ru;exact ⟨b,k,G2,rfl,R2,ru,hz.1.1.1,hz.1.2,hz.2,hn,λH' R'=>q2 G2 H' σ (.refl _) R'⟩
    ·cases e3
   ·cases ef
  ·cases ef
 refine wpAny_Assign_Subscript (thn (hv.run pq s σ H _ I hrun) λr s1 ⟨v,H1,I1,rv,ρ,G,H0,Gz,ks,a,R,hi,ea,h2⟩=>thn (dI hN hvi hd hcd pq s1 σ H1 (λv H2=>v=.ref a/\H2=H1) I1 ⟨.ref a,ea,rfl,rfl⟩) λu s2 ⟨v2,H2,I2,r2,e2,e3⟩=>?_) hs;subst e2 e3;cases r2;refine thn (hk.run pq s2 σ H2 _ I2 h2) λiv s3 ⟨y,H3,I3,ry,b,k,G3,ey,R3,rk,hh,al,sz,hn,fin⟩=>?_;subst ey;cases ry;obtain ⟨a',xs,e1',h1,z,r1,r2,r3,dd⟩:=a4m I3 R3 hi;rw [ea] at e1';cases e1';obtain ⟨as,ra⟩:=(rk.mono R3.sub).reads I3 (uS _ (oX 4 _ hh)) (u:=.ref b) rfl;have hlen:xs.length=ks.length:=by rw [<-r1,qF]
 refine wpAny_setItem_heap (knd:=nest X.prog X.w) (show X.A.in1.units+8<cLine by show X.A.units+1+8<cLine;omega) ⟨hh,as,ra⟩ dd (λh' dd' hs'=>?_) (hsz:=by rw [hlen];exact iZ sz);have hat:atKey xs k=none:=by
  cases c:atKey xs k with
  | none=>rfl
  | some p=>exact absurd (by rw [<-r1];exact b6q.mp (by rw [c];rfl)) hn
 rw [storedH_new hat] at dd';obtain ⟨o',es,ep,g1,g2,g3,g4,g5,g6⟩:=dd';have hc:∀ c q,H3 c=some (cdO c q)->c≠a:=λc q ec w=>by
  subst w;rw [h1] at ec;obtain ⟨⟨_,o1,es1,ep1,x1,_,x3,_⟩,_⟩:=I3.hok c _ h1;obtain ⟨⟨c',o2,vs,t,y1,y2,y3,_⟩,_⟩:=(show cM X.prog X.w H3 s3.heap c (cdO c q) from I3.hok c _ (by rw [h1];exact ec));cases y1;rw [x1] at y2;cases y2;rw [x3] at y3;cases y3
 refine ⟨σ,_,a0P I3 (by rw [h1];exact vN) hs' ⟨o',g1⟩ (show cM X.prog X.w _ h' a (seenO X.w a (xs++[(k,b,r)])) from ⟨⟨z,o',es,ep,g1,g2,g3,g4⟩,⟨o',g1⟩,λh1 h2 ⟨z,o,es,ep,g,r⟩ k=>⟨z,o,es,ep,k o g,r⟩⟩),fin _ (R3.wroteS hi al ea hc ⟨by rw [qZ,r1];rfl,?_,λx hx=>?_⟩)⟩
 ·rw [kO]
  exact ⟨r2,by simp,λx hx y hy=>by rw [qH] at hy;subst hy;exact λz=>hn (z▸hx)⟩
 ·rcases qg.mp hx with hx | hx
  ·exact r3 x hx
  ·rw [qH] at hx;subst hx;exact ⟨hh,rk⟩⟩
end
end L2.L3
namespace L2.L3
open PySem PySem.Spec PySem.Calls PyProof.Rows
def a8j (i j:Nat):SF:=λρ=>match ρ[i]? with
 | some (.lst ds)=>(match ds[ds.length - 1]? with
  | some d=>if i≠j then some (.nx ((ρ.set i (.lst ds.dropLast)).set j (.val d))) else none
  | none=>none)
 | _=>none
def b2L {K:qB} (r:RepAll K G xs ds) (h:ds[ds.length - 1]?=some d):(∃ v,xs[xs.length - 1]?=some v/\Rep K G v d)/\RepAll K G xs.dropLast ds.dropLast:=by
 refine ⟨by rw [r.length];exact r.get h,?_⟩;rw [List.dropLast_eq_take,List.dropLast_eq_take,r.length];exact r.take _
section
variable {x y:Str} {yp:Pos}
def b5K (i j:Nat) (hNd:X.N.Nodup) (hN:X.N[i]?=some x:=by rfl)
  (hv:Vis X.env.scope x:=by first | exact kC rfl | exact jY (kC rfl) | exact jY (jY rfl)) (hd:(x==("__debug__" : Str))=false:=by decide) (hcd:(x==("__classdict__" : Str))=false:=by decide)
  (hbase:ya (.Name x p) "pop" X.env (eval (.Name x p) X.env)=eval (.Name x p) X.env:=by rfl) (hline:(ap.endLine==cp.line)=true:=by rfl)
  (hj:X.N[j]?=some y:=by rfl) (hx:Loc X.env.scope y:=by first | exact kC rfl | exact jY rfl)
  (hs:wy (.Call (.Attribute (.Name x p) "pop" ap) [] [] cp) (some (.Name y yp)) pos.line X.env=pure false:=by rfl) (hf:X.fn y=true\/X.env.scope.names.lookup y=some .local:=by first | exact .inl rfl | exact .inr rfl):
  DS X (.Assign [.Name y yp] (.Call (.Attribute (.Name x p) "pop" ap) [] [] cp) pos) (a8j i j):=⟨λpq s σ H D I ⟨ρ,o,H0,Gz,G,ef,R,q⟩=>
 yB hNd hj hx (b7t ko PySem.F.slot_list_pop PySem.F.type_list_pop b7S (dI hN hv hd hcd) hbase hline) hs hf pq s σ H D I (by
  unfold a8j at ef;split at ef
  ·rename_i ds hi
   split at ef
   ·rename_i d hd'
    split at ef
    ·rename_i hij
     cases (qA ef);obtain ⟨a,xs,ea,h1,h2,h3,r⟩:=R.own hi;obtain ⟨⟨v,ev,rv⟩,rl⟩:=b2L r hd';exact ⟨.ref a,ea,.inl ⟨rfl,xs,.of h1⟩,_,xs,v,rfl,rfl,h1,ev,q G _ _ (.refl _) ((R.wrote hi ea rl).set rv)⟩
    ·cases ef
   ·cases ef
  ·cases ef)⟩
end
def c1e:V->List V->Hp->VK->Prop:=λx vs H Q=>∃ d o kvs more,x=.ref d/\vs=[.ref o]/\H d=some (.dK kvs)/\Rd H o (.dK more)/\d≠o/\kvs.length+more.length<=j5/\Q .non (upd H d (.dK (yH kvs more)))
def a9J:MtM X "dict.update" c1e:=by
 intro pq s σ H x vs v us Q I rx rv h;obtain ⟨d,o,kvs,more,rfl,rfl,hd,ho,ne,hz,q⟩:=h;cases rx;obtain ⟨u,rfl,ru⟩:=rv.one;cases ru;obtain ⟨z,lo,ws,rel,dd⟩:=b3j I.hok hd;obtain ⟨z2,lo2,ws2,rel2,dd2⟩:=a8W I.hok ho;refine call_meetsIn F.slot_dict_update dd.typeIs F.entry_dict_update (F.args_dict_update_2 _ _) (meets_dict_update (bK X.prog X.w) d o ne lo2) ⟨ws,ws2,dd,dd2,by rw [<-rel.length,<-rel2.length];exact hz,λh' dd' _ hs=>⟨.non,_,?_,rfl,q⟩⟩;have hl:(yH kvs more).length<=j5:=qk (tM more kvs) hz;exact a0P I (by rw [hd];exact vN) hs (let ⟨q,_,_,hq,_⟩:=dd';⟨q,hq⟩) (b3k hl lo (rel2.merge rel) dd')
def a1y (kvs more:List (Key×j0)):List (Key×j0):=more.foldl (λacc kv=>a0p acc kv.1 kv.2) kvs
def a5o (i:Nat) (fa:EF):SF:=λρ=>match ρ[i]? with
 | some (.dct kvs)=>bns (fa ρ) ρ λd=>(match d with
  | .dict D=>(match a1I D with
   | some more=>if dU (kvs.length+more.length) then some (.nx (ρ.set i (.dct (a1y kvs more)))) else none
   | none=>none)
  | _=>none)
 | _=>none
theorem eT.merge {K:qB} {G:Hp}:∀ {more:List (Key×V)} {mD:List (Key×j0)} {vs:List (Key×V)} {kvs:List (Key×j0)},eT K G more mD->eT K G vs kvs->eT K G (yH vs more) (a1y kvs mD)
 | [],[],_,_,_,h=>h
 | [],_::_,_,_,h,_=>by have:=h.1;simp at this
 | _::_,[],_,_,h,_=>by have:=h.1;simp at this
 | (k,v)::more,(k',d)::mD,vs,kvs,⟨h1,h2⟩,h=>by
  rw [qK,qK,vC] at h1;rw [qK,qK] at h2;obtain rfl:k=k':=h1.1;cases h2 with
  | cons r rr=>exact eT.merge (more:=more) (mD:=mD) ⟨h1.2,rr⟩ (h.put r)
section
variable {x:Str}
def b8A (i:Nat) (ha:DE X e fa) (hN:X.N[i]?=some x:=by rfl)
  (hv:Vis X.env.scope x:=by first | exact kC rfl | exact jY (kC rfl) | exact jY (jY rfl)) (hd:(x==("__debug__" : Str))=false:=by decide) (hcd:(x==("__classdict__" : Str))=false:=by decide)
  (hbase:ya (.Name x p) "update" X.env (eval (.Name x p) X.env)=eval (.Name x p) X.env:=by rfl)
  (hfew:((v8 cp (j4 [e] X.env)).all (λx=>!x.1)&&(yz cp (w8 [] X.env)).all (λx=>x.1.isSome)
   && decide (([e]:T0n).length+([]:List Keyword).length+(if ([]:List Keyword).isEmpty then 0 else 1)<30))=true:=by rfl)
  (hline:(ap.endLine==cp.line)=true:=by rfl) (hst:j4 [e] X.env=(false,eval e X.env)::j4 [] X.env:=by rfl) (hplain:(v8 cp (j4 [] X.env)).any (·.1)=false:=by rfl)
  (hs:wy (.Call (.Attribute (.Name x p) "update" ap) [e] [] cp) none pos.line X.env=pure false:=by rfl):
  DS X (.Expr (.Call (.Attribute (.Name x p) "update" ap) [e] [] cp) pos) (a5o i fa):=⟨λpq s σ H D I ⟨ρ,o,H0,Gz,G,ef,R,q⟩=>
 uP (a5A PySem.F.plainAttrs_dict PySem.F.slot_dict_update PySem.F.type_dict_update a9J (dI hN hv hd hcd) (mS ha.run oS hst) hbase hfew hline hst hplain) hs pq s σ H D I (by
  unfold a5o at ef;split at ef
  ·rename_i kvs hi
   obtain ⟨a,vs,ea,h1,_⟩:=R.ownD hi;refine ⟨.ref a,ea,.inr (.inr (.inl ⟨rfl,.inl ⟨vs,h1⟩⟩)),sE R ef q λd v G1 H1 g1 R1 rv e1 q1=>?_⟩;split at e1
   ·rename_i D0
    split at e1
    ·rename_i more hk
     split at e1
     ·rename_i hz
      cases (qA e1);cases rv with
      | fil _ _=>simp [a1I,oC] at hk
      | @dict b ws _ hb e0 rr=>
       obtain ⟨a',vs',ea',h1',h2',h3',r'⟩:=R1.ownD hi;rw [ea] at ea';cases ea';have hm:eT X.K G1 ws more:=by
        have e2:=b2p hk;refine ⟨?_,?_⟩
        ·rw [e2,qT] at e0
         refine (b2f (a:=more.map (·.1)) (b:=ws.map (·.1)) ?_).symm;rw [qT,qT];exact e0
        ·rw [e2,qT] at rr;exact rr
       have ne:a≠b:=λz=>by
        subst z;rcases hb with hb | ⟨o',hb⟩<;>(rw [h2'] at hb;cases hb)
       refine ⟨a,b,vs',ws,rfl,rfl,h1',a0L g1.sub hb,ne,?_,q1 G1 _ σ (.refl _) (R1.wroteD hi ea (hm.merge r'))⟩;rw [r'.len,hm.len];exact iZ hz
     ·cases e1
    ·cases e1
   ·cases e1
  ·cases ef)⟩
end
end L2.L3
namespace L2.RW
open PySem PyProof.Rows
def a8v:mroOf (.type "reversed")=pure [.type "reversed", .type "object"]:=by rw [mroOf_type];kernel_rfl
def b2h:Bind.madeBy (.type "reversed")=pure (some "reversed.__new__"):=madeBy_type a8v (by rw [ug,yg];kernel_rfl) (by decide +kernel)
def b4b:isSubtype (.type "reversed") (.type "reversed")=pure true:=by rw [uj];kernel_rfl
def b7b:isSubtype (.type "list_reverseiterator") (.type "reversed")=pure false:=by rw [uj];kernel_rfl
def a9k (a:Value):checkTypeCall "reversed" ⟨[a],[]⟩=pure ():=by kernel_rfl
def a9G (a:Value):checkBuiltinCall "reversed.__new__" ⟨[.type "reversed", a],[]⟩=pure ():=by kernel_rfl
def b0d:QG table "reversed.__new__" = some Builtin.«reversed.__new__»:=entryFor_of_tree (by kernel_rfl)
def slot_next:Slot "list_reverseiterator" "__next__" "list_reverseiterator.__next__" :=
 .of (owner := "list_reverseiterator") (n := "__next__") (by rw [ug,yg];kernel_rfl) (by decide +kernel) (by decide +kernel) (by decide +kernel) (by first | exact .inl (by decide +kernel) | exact .inr (by decide +kernel)) (by rw [uj];kernel_rfl)
def entry_next:QG table "list_reverseiterator.__next__" = some Builtin.«list_reverseiterator.__next__»:=entryFor_of_fast (by kernel_rfl)
def args_next (v:Value):QW "list_reverseiterator.__next__" ⟨[v],[]⟩:=by unfold QW;kernel_rfl
abbrev rvO (l:Addr) (i:Int):Obj:={ cls:=.type "list_reverseiterator", data:=.fields #[.ref l,v7 i] }
def a9y (l:Addr) (items:Array Value) (n:Nat) (dct:T0k) (sl:Array (Option Value)):
  Meets (Builtin.«list.__reversed__» ⟨[.ref l],[]⟩) (λ_ R s=>s.heap.get? l=some { cls:=.type "list", dict:=dct,data:=.seq items n,slots:=sl }/\R (.ok (.ret (jU s.heap.objs.size))) { s with heap:=s.heap.push (rvO l ((items.size:Int) - 1)) }):=
 .of_wp λprog w A R s h=>by
  obtain ⟨hp,g,d,tk,os⟩:=s;obtain ⟨hl,h⟩:=h
  wp_walk using AutoSeq1.wpAny_loadPart' hl
  exact ⟨_,rfl,h⟩
variable {dct:Option Addr}
def b4W (hl:s.heap.get? l=some { cls:=.type "list", dict:=dct,data:=.seq items n,slots:=sl })
  (h:Q (.ref s.heap.objs.size) { s with heap:=s.heap.push (rvO l ((items.size:Int) - 1)) }):ua (model prog w) A (.call (.builtin "reversed.__new__") ⟨[.type "reversed", .ref l],[]⟩) (wants Q E) s:=by
 refine u8 (by decide +kernel) b0d (ux (a9G _) ?_);have hT:s.TypeIs (.ref l) "list" := ⟨_,hl,rfl⟩;have hsub:=b4b;have hlk:=vJ.lookup;have hbd:=vJ.bind (.ref l);unfold Builtin.«reversed.__new__»
 repeat (any_goals (first | assumption | wp_step))
 refine yo (u8 (R:=wants (λv s'=>v=.ref s.heap.objs.size/\s'={ s with heap:=s.heap.push (rvO l ((items.size:Int) - 1)) }) (λe s'=>wants Q E (Except.error e) s')) vJ.plain F.entry_list_reversed (vJ.check _ _ _ _ _ _ _ _ hT (F.args_list_reversed_1 _) (a9y l items n dct sl prog w A.in1 _ s ⟨hl,rfl,rfl⟩))) λr s' hr=>?_;cases r with
 | error e=>exact hr
 | ok fl=>
  cases fl with
  | ret v=>
   obtain ⟨rfl,rfl⟩:=hr;exact j3 h
  | _=>exact hr.elim
def b3B (hl:s.heap.get? l=some { cls:=.type "list", dict:=dct,data:=.seq items n,slots:=sl })
  (h:Q (.ref s.heap.objs.size) { s with heap:=s.heap.push (rvO l ((items.size:Int) - 1)) }):wpAny (model prog w) A (call (.type "reversed") [.ref l]) Q E s:=by
 have hmro:=a8v;have hmade:=b2h;refine QL (codeAny_of_tree ?_);show wpAny _ _ (callAny (.type "reversed") _) _ _ _;refine j3 ⟨Code.quiet_builtin _ (by decide +kernel),wv F.entry_type_call ?_⟩;rw [Around.under_plain (weight_type_call_type "reversed" [.ref l] []) (units_type_call_type "reversed" [.ref l] [])];have h1:(zH "reversed" == zH "type")=false:=by decide +kernel
 have h2:((Manifest.find? "reversed").bind (·.mro.findSome? λt=>(Manifest.find? t).bind λb=>if b.noNew then some true else if b.attrs.any (·.1 == "__new__") then some false else none)).getD false=false:=by decide +kernel
 have h3:=a9k (.ref l)
 repeat (any_goals (first | assumption | wp_step))
 refine yo (b4W (E:=E) (Q:=λv s'=>v=.ref s.heap.objs.size/\s'={ s with heap:=s.heap.push (rvO l ((items.size:Int) - 1)) }) hl ⟨rfl,rfl⟩) λr s1z hr=>?_;cases r with
 | error e=>exact hr
 | ok fl=>
  cases fl with
  | ret v=>
   obtain ⟨rfl,rfl⟩:=hr;have hT:vL { s with heap:=s.heap.push (rvO l ((items.size:Int) - 1)) } (.ref s.heap.objs.size) "list_reverseiterator" := ⟨_,qJ _ rfl,rfl⟩;have hs:=b7b
   repeat (any_goals (first | assumption | wp_step))
  | _=>exact hr.elim
def b1m {i:Nat} {x:Value} {Q:Option Value->Shared->Prop} (hI:s.heap.get? I=some (rvO l (i:Int))) (hl:s.heap.IsList l items) (hx:items[i]?=some x)
  (hQ:∀ h',h'.get? I=some (rvO l ((i:Int) - 1))->kj I s.heap h'->Q (some x) { s with heap:=h' }):wpAny (model prog w) A (yq (.ref I)) Q E s:=by
 have hT:s.TypeIs (.ref I) "list_reverseiterator" := ⟨_,hI,rfl⟩;obtain ⟨o,ho,hc,n,hd⟩:=hl;unfold yq;refine q8 (yu (j9 (name:=jB "__next__") hT slot_next (j7 slot_next hT entry_next ?_ (args_next _))));unfold Builtin.«list_reverseiterator.__next__»;generalize hSF:setField=SF;generalize hSI:uh=SI
 wp_walk
 subst hSF hSI;show wpAny _ A.in1 (uh (.ref l)) _ _ s;refine wu ho hd ?_;dsimp only;rw [qz,hx];dsimp only;refine q8 (v0 hI (by simp) λh1 g1 s1=>?_);refine j3 ⟨x,rfl,j3 (hQ h1 ?_ s1)⟩;rw [g1];simp [rvO,v7]
def b4l {Q:Option Value->Shared->Prop} (hh:A.handled=none) (hI:s.heap.get? I=some (rvO l (-1)))
  (hQ:∀ h',Heap.ExtBut I s.heap h'->Q none { s with heap:=h' }):wpAny (model prog w) A (yq (.ref I)) Q E s:=by
 have hT:s.TypeIs (.ref I) "list_reverseiterator" := ⟨_,hI,rfl⟩;unfold yq;refine q8 (yu (j9 (name:=jB "__next__") hT slot_next (j7 slot_next hT entry_next ?_ (args_next _))));unfold Builtin.«list_reverseiterator.__next__» Builtin.SmallTypes.stopIteration;generalize hNE:newExc=NE;generalize hRN:@QS=RN
 wp_walk
 subst hNE hRN;dsimp only [newExc,newTuple];refine q8 (j8 ?_ (by size_fits));refine q8 (m:=yw _ _) (ux (a:=jf) (by first | rfl | (simp only [yw];rfl)) ?_);refine j8 ?_ (by size_fits);dsimp only [QS];refine q8 (QO ?_);rw [show A.in1.handled=none from hh];refine q8 (j3 (wpAny_throw ?_));refine q8 (yv (T := "StopIteration") (b:=true) ⟨_,qJ _ rfl,rfl⟩ QI ?_);exact j3 (hQ _ (((Heap.SameBut.refl I s.heap).extBut.push _).push _))
def slot_self:Slot "list_reverseiterator" "__iter__" "list_reverseiterator.__iter__" :=
 .of (owner := "list_reverseiterator") (n := "__iter__") (by rw [ug,yg];kernel_rfl) (by decide +kernel) (by decide +kernel) (by decide +kernel) (by first | exact .inl (by decide +kernel) | exact .inr (by decide +kernel)) (by rw [uj];kernel_rfl)
def entry_self:QG table "list_reverseiterator.__iter__" = some Builtin.«dict_keyiterator.__iter__»:=QH (id' := "dict_keyiterator.__iter__") (by kernel_rfl) rfl (by decide +kernel) (by kernel_rfl)
def args_self (v:Value):QW "list_reverseiterator.__iter__" ⟨[v],[]⟩:=by unfold QW;kernel_rfl
def lG (hty:s.TypeIs (.ref I) "list_reverseiterator") (h:Q (.ref I) s):wpAny (model prog w) A (pyIter (.ref I)) Q E s:=by
 refine u2 hty slot_self (j7 slot_self hty entry_self ?_ (args_self _));show wpAny _ _ (ret (.ref I)) _ _ s;exact j3 ⟨_,rfl, "list_reverseiterator", _,hty,slot_next.lookup,h⟩
end L2.RW
namespace L2.L3
open PySem PySem.Spec PySem.Calls PyProof.Rows RW
def ItR (K:qB) (l:Addr) (n:Nat):It:=
 ⟨λk H=>∃ xs x,SqL K H l xs/\xs.length=n/\k<n/\xs[n - 1 - k]?=some x,λk H v H'=>H'=H/\∀ xs,SqL K H l xs->xs[n - 1 - k]?=some v,λk _=>n<=k⟩
def b0R {K:qB} (l it:Addr) (n:Nat):Turn P w K tg (ItR K l n) [it] it (λk h=>k<=n/\h.get? it=some (rvO l ((n:Int) - 1 - k))) where
 mem:=by simp
 obj:=λi h st b hb=>by
  have e:b=it:=by simpa using hb
  subst e;exact ⟨_,st.2,λv z=>by cases z⟩
 keep:=λi h h' st k=>⟨st.1,k it (by simp) _ st.2⟩
 item:=by
  intro X hP hw hK hc i pq s σ H E I hf st hg;subst hP hw hK;obtain ⟨xs,x,hq,hn,hi,hx⟩:=hg;obtain ⟨its,rv,p,hz⟩:=I.list hq;obtain ⟨u,hu,ru⟩:=rv.get hx;obtain ⟨f0,f1,f2,f3,f4,f5⟩:=hf it (by simp);have e1:(n:Int) - 1 - i=((n - 1 - i:Nat):Int):=by omega
  have g:=st.2;rw [e1] at g;refine b1m g p.isList (x:=u) (by simpa using hu) λh' g' sb=>?_;have I1:Inv X pq σ H { s with heap:=h' }:=I.turned (t':=s.toks) (λb o hb e=>(sb.2 b hb).trans e) f0 f1 f3 f4 f5;refine ⟨u,rfl,a8L (s:={ s with heap:=h' }) g' rfl rfl (by decide) ⟨x,H,I1,ru,⟨rfl,λys hy=>by rw [I.list_inj hy hq];exact hx⟩,⟨hi,?_⟩,λb hb=>(hf b hb).1⟩⟩;rw [g'];have e2:((n - 1 - i:Nat):Int) - 1=(n:Int) - 1 - ((i+1:Nat):Int):=by omega
  rw [e2]
 done:=by
  intro X hP hw hK hc i pq s σ H E I hf st hg;subst hP hw hK;obtain ⟨f0,f1,f2,f3,f4,f5⟩:=hf it (by simp);have hg:n<=i:=hg;have hle:=st.1;have g:=st.2;rw [show (n:Int) - 1 - i=-1 by omega] at g;exact b4l (I.ok.hd hc) g λh' eb=>⟨rfl,I.turned (t':=s.toks) (λb o hb e=>eb b o hb e) f0 f1 f3 f4 f5⟩
 self:=λ_ _ _ _ _ st h=>lG ⟨_,st.2,rfl⟩ h
def b0M {K:qB} (hq:SqL K G a xs) (r:RepAll K G xs ds):Walk K (ItR K a xs.length) G ds.reverse:=by
 intro i G' H' s1 s2;have hl:=r.length;refine ⟨λd e=>?_,λh=>by rw [wI] at h;show xs.length<=i;omega⟩;have hi:i<ds.length:=by have:=(qR.mp e).1;simpa using this
 rw [List.getElem?_reverse hi] at e;obtain ⟨v,ev,rv⟩:=r.get e;rw [<-hl] at ev;refine ⟨⟨xs,v,(s1.trans s2).seq hq,rfl,by omega,ev⟩,λx H2 ⟨e2,y⟩=>?_⟩;subst e2;have z:=y xs ((s1.trans s2).seq hq);rw [ev] at z;cases z;exact ⟨G',.refl s2,rv.mono s1⟩
def b1n (fa:EF):AF:=λρ=>match fa ρ with
 | some (.ok (.list ds))=>some (.ok ds.reverse)
 | _=>none
section
variable {a:Expr}
def boot_reversed:yc "reversed" = some (.type "reversed"):=by rfl
def b8F (hm:X.mg "reversed" = none) (ha:DE X a fa) (hs:j4 [a] X.env=(false,eval a X.env)::j4 [] X.env:=by rfl)
  (hpl:(v8 pos (j4 [] X.env)).any (·.1)=false:=by rfl) (hg:Gl X "reversed":=by rfl):DI X tg (.Call (.Name "reversed" p) [a] [] pos) (b1n fa):=a3N λρ r e=>by
 unfold b1n at e;split at e
 ·rename_i as e1
  refine ⟨_,(qA e).symm,⟨?_⟩⟩;intro pq s σ H R I ⟨H0,Gz,G,S,q⟩;have pa:=gI (ha.pd e1) mR hs;refine k9 (iV I hg hm boot_reversed ?_ (by decide) (by decide));refine jq (thn (pa.run H0 Gz G pos pq s σ H (λvs H'=>∃ G',Grow G H G' H'/\RepAll X.K G' vs [.list as]) I S λvs G' H' g r=>⟨G',g,r⟩) λus s1 ⟨vs,H1,I1,r1,G1,g1,w1⟩=>?_) hs hpl;cases w1 with
  | cons wa wn=>
   cases wn;cases wa with
   | @list l xs _ hq ra=>
    obtain ⟨u,rfl,ru⟩:=vals1 r1;cases ru;obtain ⟨its,rv,⟨o,n,ho,hc,hdn,hd⟩,_⟩:=I1.list (g1.sub.seq hq);have hlen:=rv.length;obtain ⟨oc,od,odt,osl⟩:=o;dsimp only at hc hd hdn;subst hc hd;have lt:l<s1.heap.objs.size:=qN ho;refine b3B ho (lG ⟨_,qJ _ rfl,rfl⟩ ?_);refine ⟨s1.heap.objs.size,[s1.heap.objs.size],_,_,H1,rfl,I1.kept (t':=s1.toks) (λb o e=>qC _ e),b0R l _ xs.length,⟨qt _,?_⟩,λc hc=>?_,q _ G1 H1 g1 (b0M hq ra)⟩
    ·rw [qJ _ rfl,qP,hlen]
     simp
    ·rw [qH.mp hc]
     exact I1.fpOk (qM _) (I1.hok.fresh (qM _))
 ·cases e
end
end L2.L3
namespace L2.L3
open PySem PySem.Spec PySem.Calls PyProof.Rows
def ItI (a:Addr) (ob:Obj) (kvs:List (Key×V)):It:=
 ⟨λk H=>H a=some (.frz ob (.dK kvs))/\∃ p,kvs[k]?=some p,λk H v H'=>∃ T p,kvs[k]?=some p/\H T=none/\v=.ref T/\H'=upd H T (.tup [kV p.1,p.2]),λk H=>H a=some (.frz ob (.dK kvs))/\kvs.length<=k⟩
theorem b1z {α β:Type} {F:α->β->Prop}:∀ {l:List α} {m:List β} {i:Nat} {a:α},Paired F l m->l[i]?=some a->∃ b,m[i]?=some b/\F a b
 | _,_,_,_,.nil,e=>by simp at e
 | _,_,0,_,.cons r _,e=>by simp at e;subst e;exact ⟨_,rfl,r⟩
 | _,_,i+1,a,.cons _ t,e=>by
  obtain ⟨u,h1,h2⟩:=b1z (i:=i) (a:=a) t (by simpa using e);exact ⟨u,by simpa using h1,h2⟩
def a4S:QG table "dict_itemiterator.__iter__" = some Builtin.«dict_keyiterator.__iter__»:=QH (id' := "dict_keyiterator.__iter__") (by kernel_rfl) rfl (by decide +kernel) (by kernel_rfl)
def b2r {k:Key} (h:(bK P w).is k u=true):RelV (kV k) u:=by
 rcases cB h with ⟨i,t,rfl,rfl⟩ | ⟨x,t,rfl,rfl⟩
 ·exact ⟨t,rfl⟩
 ·exact ⟨t,rfl⟩
variable {kvs:List (Key×V)} {es:Array Qa}
def a7D (I:Inv X pq σ H s) (h:H a=some (.frz ob (.dK kvs))) (hd:ob.data=.dict es ep):
  ∃ vs,KV kvs vs/\s.heap.DictAt (bK X.prog X.w) a vs ep:=by
 obtain ⟨g,z,lo,vs,rel,dd⟩:=I.hok a _ h;obtain ⟨ep',o,es',g1,r1,r2,r3⟩:=dd.dictAt;rw [g] at g1;cases g1;rw [hd] at r2;cases r2;exact ⟨vs,rel,ob,es,g,r1,hd,r3⟩
def a6Q {K:qB} (hd:ob.data=.dict es ep) (hne:a≠it):
  Turn P w K (.Tuple pj k0 p0) (ItI a ob kvs) [it] it (λk h=>∃ ok ov,IsItemIter h it a k kvs.length ep ok ov) where
 mem:=by simp
 obj:=λi h ⟨ok,ov,st⟩ b hb=>by
  have e:b=it:=by simpa using hb
  subst e;exact ⟨_,st,λv z=>by cases z⟩
 keep:=λi h h' ⟨ok,ov,st⟩ k=>⟨ok,ov,k it (by simp) _ st⟩
 item:=by
  intro X hP hw hK hc i pq s σ H E I hf ⟨ok,ov,st⟩ ⟨ha,p,hp⟩;subst hP hw hK;obtain ⟨vs,rel,dat⟩:=a7D I ha hd;obtain ⟨q,eq,e1,r2⟩:=b1z rel hp;rw [show kvs.length=vs.length from rel.length] at st;refine wpAny_pyNext_items_item (k:=q.1) (v:=q.2) st dat eq λkey h' hk st' hT hsz kp=>⟨_,rfl,?_⟩;refine wpAny_letOwnedTupleGo_items st' λh2 st2 sb=>?_;have nT:s.heap.objs.size≠it:=jS (qN st);have hk2:∀ c o,c∉[it]->s.heap.get? c=some o->h2.get? c=some o:=λc o hc q=>by
   have hc:c≠it:=by simpa using hc
   exact (sb.2 c hc).trans (kp c o hc q)
  have new:cM X.prog X.w (upd H s.heap.objs.size (.tup [kV p.1,p.2])) h2 s.heap.objs.size (.tup [kV p.1,p.2]):=
   ⟨by show 2<=j5;decide,[key,q.2],.cons (by rw [e1];exact b2r hk) (.cons r2 .nil),⟨_,(sb.2 _ nT).trans hT,rfl,_,rfl⟩⟩
  have hfT:H s.heap.objs.size=none:=I.hok.fresh (qM _);refine ⟨.ref s.heap.objs.size,upd H s.heap.objs.size (.tup [kV p.1,p.2]),Inv.turnNew (s:=s) (h':=h2) (t':=s.toks) [it] I (λc hc=>hf c hc) hk2 (qM _) new,rfl,⟨_,p,hp,hfT,rfl,rfl⟩,⟨key,q.2,?_⟩,λc hc=>?_⟩
  ·rw [show kvs.length=vs.length from rel.length];exact st2
  ·rw [qH.mp hc,aE (jT nT)]
   exact (hf it (by simp)).1
 done:=by
  intro X hP hw hK hc i pq s σ H E I hf ⟨ok,ov,st⟩ ⟨ha,hl⟩;subst hP hw hK;obtain ⟨vs,rel,dat⟩:=a7D I ha hd;rw [show kvs.length=vs.length from rel.length] at st hl;obtain ⟨f0,f1,f2,f3,f4,f5⟩:=hf it (by simp);exact wpAny_pyNext_items_end (I.ok.hd hc) st dat (qd hl) λh' eb=>⟨rfl,I.turned (t':=s.toks) (λb o hb e=>eb b o hb e) f0 f1 f3 f4 f5⟩
 self:=λA i s Q E ⟨ok,ov,st⟩ h=>by
  have hty:s.TypeIs (.ref it) "dict_itemiterator" := ⟨_,st,rfl⟩;refine u2 hty F.slot_dict_itemiterator_iter (j7 F.slot_dict_itemiterator_iter hty a4S ?_ (F.args_dict_itemiterator_iter_1 _));show wpAny _ _ (PySem.ret (jU it)) _ _ s;exact j3 ⟨_,rfl, "dict_itemiterator", _,hty,F.slot_dict_itemiterator_next.lookup,h⟩
def a6K {K:qB} {D:List (j0×j0)} (ha:G a=some (.frz ob (.dK kvs))) (e0:D.map (·.1)=kvs.map λp=>dX p.1) (rr:RepAll K G (kvs.map (·.2)) (D.map (·.2))):
  Walk K (ItI a ob kvs) G (D.map λp=>.tuple [p.1,p.2]):=by
 intro i G' H' s1 s2;have hl:D.length=kvs.length:=by have:=congrArg vZ e0;simpa using this
 refine ⟨λd e=>?_,λh=>⟨s2 _ _ (s1 _ _ ha),by rw [qF] at h;omega⟩⟩;rw [qQ] at e;obtain ⟨q,eq,rfl⟩:=qU.mp e;have hi:i<kvs.length:=by rw [<-hl];exact (qR.mp eq).1
 have ep:kvs[i]?=some kvs[i]:=qD hi;refine ⟨⟨s2 _ _ (s1 _ _ ha),_,ep⟩,λx H2 ⟨T,p,ep',hT,ex,eH⟩=>?_⟩;rw [ep] at ep';cases ep';subst ex eH;have hG:G' T=none:=s2.free hT;have ek:q.1=dX kvs[i].1:=by
  have h1:(D.map (·.1))[i]?=some q.1:=by rw [qQ,eq];rfl
  rw [e0,qQ,ep] at h1;exact (qA h1).symm
 obtain ⟨v,ev,rv⟩:=rr.get (i:=i) (d:=q.2) (by rw [qQ,eq];rfl);rw [qQ,ep] at ev;cases ev;refine ⟨upd G' T (.tup [kV kvs[i].1,kvs[i].2]),.put s2 hT,.tuple (.of aH) (.cons ?_ (.cons ((rv.mono s1).mono (bF hG)) .nil))⟩;rw [ek];cases kvs[i].1 with
 | inl i=>exact .int i
 | inr x=>exact .str x
def c1a (K:qB) (F:List j0->j0->Prop):Sp:=λvs H Q _=>∃ G ds d,(bJ G H/\pG K G H)/\RepAll K G vs ds/\F ds d/\∀ a G' H',Grow G H G' H'->H a=none->Rep K G' (.ref a) d->Q (.ref a) H'
structure CalleeD (P:Program) (w:World) (K:qB) (mg:T0d) (base:Heap) (x:Str) (k:Nat) (ps:T0q) (F:List j0->Mm j0):Prop where
 ex:∃ f fd,mg x=some (.ref f)/\jp K (.ref f)=true/\Binds K fd ps []/\FnOk P w K mg base CX0 k f fd ps (c1a K λds d=>F ds=some (.ok d))
section
variable {K:qB} {x:Str} {F:List j0->Mm j0}
def a6v (m n:Nat) (D:Def K mg x st) (S:FnScope N ps (aD st)) (hm:N.length=m) (hn:ps.length=n)
  (hb:∀ (kV doc pm:Value) (an:T0k) (cdv ct:Value) (us:T0m),us.length=ps.length->uo (je x x (eJ st) (bN st) (aD st) .none kV doc pm an cdv ct) ⟨us,[]⟩=pure (ps.zip us))
  (hB:bN st=[.Return (some (.Call (.Name "dict" p) [e] [] pos)) pos2]) (hdict:mg "dict" = none)
  (body:∀ (fa:Addr) (cdv:Value) (A:Around) (outer:List Env) (s:Shared) (H:Hp) (E:XK),Room k (A.deeper (um x (aD st) s.heap.objs.size fa cdv))->DE (fcx P w K mg base N x (aD st) fa cdv A outer s H E) e fe /\
   Gl (fcx P w K mg base N x (aD st) fa cdv A outer s H E) "dict" /\ (fcx P w K mg base N x (aD st) fa cdv A outer s H E).calm=true /\
   j4 [e] (fcx P w K mg base N x (aD st) fa cdv A outer s H E).env=(false,eval e (fcx P w K mg base N x (aD st) fa cdv A outer s H E).env)::j4 [] (fcx P w K mg base N x (aD st) fa cdv A outer s H E).env /\
   (v8 pos (j4 [] (fcx P w K mg base N x (aD st) fa cdv A outer s H E).env)).any (·.1)=false):
  CalleeD P w K mg base x (k+1) ps (bZ m n (retS (cJ mV (aC fe aK)))):=by
 obtain ⟨fa,fd,Fu,hmg⟩:=D.ex;refine ⟨fa,fd,hmg,Fu.kp,Fu.binds hb,Fu.ok S (λvs H Q E ⟨G,ds,d,s,r,hF,_⟩=>?_) (λcdv A outer s H vs Q E hr ⟨G,ds,d,sm,r,hF,q⟩=>?_)⟩
 ·have hF:bZ m n (retS (cJ mV (aC fe aK))) ds=some (.ok d):=hF
  unfold bZ at hF;split at hF
  ·rename_i hl;rw [r.length,hl,hn]
  ·cases hF
 ·obtain ⟨he,hg,hc,hs,hpl⟩:=body fa cdv A outer s H E hr
  have hF:bZ m n (retS (cJ mV (aC fe aK))) ds=some (.ok d):=hF;rw [hB];refine ⟨_,a4s (b1v (a3b (a3R hc) hg hdict boot_dict (aB he aG hs).run (by decide) (by decide) hs hpl)),?_⟩;unfold bZ at hF;split at hF
  ·rw [<-hm,<-sG] at hF
   have hr':∃ xs,aC fe aK (gB N ds)=some (.ok xs)/\mV xs=some d:=by
    unfold retS cJ at hF;cases ha:aC fe aK (gB N ds) with
    | none=>rw [ha] at hF;cases hF
    | some r=>
     cases r with
     | ex c=>rw [ha] at hF;cases hF
     | ok xs=>
      rw [ha] at hF;refine ⟨xs,rfl,?_⟩;cases hd:mV xs with
      | none=>simp [bnd,bns,lft,hd] at hF
      | some d'=>
       simp [bnd,bns,lft,hd] at hF;rw [hF]
   obtain ⟨xs,e1,e2⟩:=hr';refine ⟨gB N ds,_,H,G,G,e1,fR sm r,λvs1 G1 H1 g1 rv=>?_⟩;unfold mV at e2;split at e2
   ·split at e2
    ·rename_i ys ks e3
     split at e2
     ·rename_i hh
      rw [qL,decide_eq_true_eq,decide_eq_true_eq] at hh;cases (qA e2);cases rv with
      | cons rv rr=>
       cases rr;cases rv with
       | list hq r=>
        obtain ⟨kvs,p1,p2,p3⟩:=yE r e3;have hl:kvs.length=ks.length:=by have:=congrArg vZ p2;simpa using this
        refine ⟨_,_,kvs,rfl,g1.sub.seq hq,Paired.mapP p1 (λa b ⟨t,e1,e2⟩=>⟨t,e1,lI g1.sub e2⟩),by rw [p2];exact hh.1,by omega,λl hl=>?_⟩;refine q l _ _ (g1.trans (.put g1.sub hl)) (g1.hh.free hl) (.dict (.inl aH) ?_ ?_)
        ·rw [qT]
         have:ks.map ((λx=>x.1)∘λp:Key×j0=>(dX p.1,p.2))=(ks.map (·.1)).map dX:=by rw [qT];rfl
         rw [this,<-p2,qT];rfl
        ·rw [qT]
         exact p3.mono (bF (g1.sub.free hl))
     ·cases e2
    ·cases e2
   ·cases e2
  ·cases hF
end
def a9Z {G2:Hp} (I:Inv X pq σ H2 s) (sg:bJ G H) (g:Grow G H G2 H2) (hf:H a=none) (hb:Rd G2 a (.dK kvs)):
  ∃ ob es ep G3 H3,ob.data=.dict es ep/\Inv X pq σ H3 s/\Grow G H G3 H3/\G3 a=some (.frz ob (.dK kvs)):=by
 rcases hb with hb | ⟨ob,hb⟩
 ·have hHa:=g.sub _ _ hb
  obtain ⟨z,lo,vs,rel,dd⟩:=b3j I.hok hHa;obtain ⟨ob,es0,ep,hob,hr1,hr2,hr3⟩:=id dd;have nfr:∀ ob u,X.H₀ a≠some (.frz ob u):=λob' u y=>by
   have:=I.base.frzs a ob' u y;rw [hHa] at this;cases this
  refine ⟨ob,es0,ep,upd G2 a (.frz ob (.dK kvs)),upd H2 a (.frz ob (.dK kvs)),hr2,Inv.as (o':=.frz ob (.dK kvs)) I hHa (by nofun) nfr (by nofun) (by nofun) ⟨hob,z,lo,vs,rel,dd⟩,?_,aH⟩;refine ⟨λb o e=>?_,⟨λb o e n=>?_,λb ps e=>?_,λP q t=>Tab.as hHa (by nofun) (by unfold cdO;nofun) (g.hh.tab P q t)⟩,a2W g.sub,λx e n=>?_,λn=>(g.nt n).upd (by nofun)⟩
  ·rw [aE (aO e (sg.free hf))];exact g.gg b o e
  ·rw [aE (aO e hf)];exact g.hh.keep b o e n
  ·rw [aE (aO e hf)];exact g.hh.tbl b ps e
  ·rw [aE (λz=>n (by rw [z];exact hf))];exact g.new x e n
 ·obtain ⟨hob,z,lo,vs,rel,dd⟩:=I.hok a _ (g.sub _ _ hb)
  obtain ⟨o,es0,ep,hob',hr1,hr2,hr3⟩:=id dd;rw [hob] at hob';cases hob';exact ⟨ob,es0,ep,G2,H2,hr2,I,g,hb⟩
def b2u (F:List j0->Mm j0) (fA:AF):AF:=λρ=>match fA ρ with
 | some (.ok ds)=>(match F ds with
  | some (.ok (.dict D))=>if D.all λp=>(oC p.1).isSome&&a1q p.2 then some (.ok (D.map λp=>.tuple [p.1,p.2])) else none
  | _=>none)
 | _=>none
section
variable {es:T0n} {yp cp0:Pos} {y:Str} {F:List j0->Mm j0} {fA:AF}
def b3m (C:CalleeD X.prog X.w X.K X.mg X.base y k ps F) (hr:Room k X.A) (ha:DA X (e::es) fA) (hg:Gl X y:=by rfl) (hdb:(y==("__debug__" : Str))=false:=by decide)
  (he:j4 (e::es) X.env=(false,eval e X.env)::j4 es X.env:=by rfl) (hpl:(v8 cp0 (j4 es X.env)).any (·.1)=false:=by rfl)
  (m:M0 X (.Call (.Name y yp) (e::es) [] cp0) "items" apos cpos:=by exact ⟨rfl,rfl,rfl,rfl⟩):
  DI X (.Tuple pj k0 p0) (.Call (.Attribute (.Call (.Name y yp) (e::es) [] cp0) "items" apos) [] [] cpos) (b2u F fA):=a3N λρ r e0=>by
 unfold b2u at e0;split at e0
 ·rename_i ds e1
  split at e0
  ·rename_i D ed
   split at e0
   ·rename_i hz
    refine ⟨_,(qA e0).symm,⟨?_⟩⟩;intro pq s σ H R I ⟨H0,Gz,G,S,q⟩;obtain ⟨f,fd,a1,a2,a3,Fk⟩:=C.ex
    refine wpAny_Call_method m.base m.few m.line PySem.F.plainAttrs_dict PySem.F.slot_dict_items PySem.F.type_dict_items (thn (a8n Fk hr hg a1 a2 a3 .nil (a8p (X:=X)) ha.run hdb he hpl pq s σ H (λv H2=>∃ a G2,v=.ref a/\Grow G H G2 H2/\H a=none/\Rep X.K G2 (.ref a) (.dict D)) I
     ⟨ρ,_,H0,Gz,G,e1,S,λvs G1 H1 g1 rv=>⟨G1,ds,.dict D,⟨g1.sub,S.tab.more g1⟩,by simpa using rv,ed,λa G2 H2 g2 hf rd=>⟨a,G2,rfl,g1.trans g2,g1.hh.free hf,rd⟩⟩⟩) λu s1 ⟨x,H1,I1,rx,a,G2,ex,g,hf,rd⟩=>?_)
    subst ex;obtain rfl:u=jU a:=rx;cases rd with
    | fil _ _=>exact absurd hz (by simp [oC])
    | @dict _ kvs _ hb ek rr=>
     obtain ⟨ob,es0,ep,G3,H3,hod,I3,g3,hG3⟩:=a9Z I1 S.sub g hf hb;have hp:(D.map (·.2)).all a1q=true:=by
      rw [List.all_map];refine qm.mpr λp hp=>?_;have:=qm.mp hz p hp;rw [qL] at this;exact this.2
     have rr3:RepAll X.K G3 (kvs.map (·.2)) (D.map (·.2)):=RepAll.plain hp rr;obtain ⟨vs,rel,dat⟩:=a7D I3 (g3.sub _ _ hG3) hod;obtain ⟨hob,z,lo,vs',rel',dd⟩:=I3.hok a _ (g3.sub _ _ hG3);obtain ⟨t1,t2,_⟩:=b8i I3 (.inl ⟨kvs,.inr ⟨ob,g3.sub _ _ hG3⟩⟩);refine ⟨t1,t2,?_⟩;rw [m.trees];refine wK rfl (PySem.evalArgs_none ?_);refine call_meetsIn PySem.F.slot_dict_items dd.typeIs PySem.F.entry_dict_items (PySem.F.args_dict_items_1 _) (meets_dict_items (bK X.prog X.w) a lo) ⟨⟨vs',dd⟩,?_⟩;have lt:a<s1.heap.objs.size:=qN hob;have hv:(s1.heap.push { cls:=.type "dict_items", data:=.fields #[.ref a] }).IsItemsView s1.heap.objs.size a:=⟨_,qJ _ rfl,rfl,rfl⟩;refine wpAny_pyIter_items (knd:=bK X.prog X.w) (ep:=ep) hv (dat.push _) ?_;have sz:(s1.heap.push { cls:=.type "dict_items", data:=.fields #[.ref a] }).objs.size=s1.heap.objs.size+1:=qv ..;refine ⟨_,[(s1.heap.push { cls:=.type "dict_items", data:=.fields #[.ref a] }).objs.size],_,_,H3,rfl,I3.kept (t':=s1.toks) (λb o e=>qC _ (qC _ e)),a6Q (ob:=ob) (kvs:=kvs) hod (by rw [sz];exact qc (jl lt)),⟨.none,.none,?_⟩,λc hc=>?_,q _ G3 H3 g3 (a6K hG3 ek rr3)⟩
     ·rw [show kvs.length=vs.length from rel.length]
      exact qJ _ rfl
     ·rw [qH.mp hc]
      have ge:s1.heap.objs.size<=(s1.heap.push { cls:=.type "dict_items", data:=.fields #[.ref a] }).objs.size:=by rw [sz];exact kF _
      exact I3.fpOk ge (I3.hok.fresh ge)
   ·cases e0
  ·cases e0
 ·cases e0
end
end L2.L3
namespace L2.L3
open PySem PySem.W PyProof.Rows PySem.Calls
variable {b:Addr} {n:Str} {xs:Array Value} {xr yr ks:List Value} {v:Value}
def b2i {m:Str} {t u:Tok} {P:PySem.Fin->Shared->Prop} (ha:IsTup s.heap a xs) (hx:xs.toList=.str n t::xr) (hb:IsTup s.heap b ys) (hy:ys.toList=.str m u::yr) (hne:n≠m)
  (h:P (.done (.ret (.bool (decide (n.cps.toList<m.cps.toList))))) s):wpAny (model prog w) A (Builtin.«tuple.__lt__» ⟨[.ref a,.ref b],[]⟩) P E s:=by
 have hTb:s.TypeIs (.ref b) "tuple" := hb.typeIs;obtain ⟨oa,hoa,_,na,hda⟩:=ha;obtain ⟨ob,hob,_,nb,hdb⟩:=hb;show wpAny _ _ (isInstance (.ref b) (.type "tuple")>>=_) _ _ s;refine q8 (yv hTb isSubtype_tuple_tuple ?_);simp only [Bool.not_true,kE,if_false];refine q8 (QN hoa hda ?_);refine q8 (QN hob hdb ?_);refine q8 ?_;rw [hx,hy,List.zip_cons_cons,vA];refine q8 (q8 (wpAny_eqBool_str ?_));rw [decide_eq_false hne];simp only [Bool.not_false,if_true];refine q8 (yd (q8 ?_));refine lt_str ?_;exact q8 (j3 (j3 (j3 (j3 h))))
def b5f {m:Str} {t u:Tok} (hu:A.units<cLine) (ha:IsTup s.heap a xs) (hx:xs.toList=.str n t::xr) (hb:IsTup s.heap b ys) (hy:ys.toList=.str m u::yr) (hne:n≠m)
  (h:Q (.bool (decide (n.cps.toList<m.cps.toList))) s):wpAny (model prog w) A (ww .Lt (.ref a) (.ref b)) Q E s:=
 wpAny_richCompare_same_room (op:=.Lt) ha.typeIs hb.typeIs F.slot_tuple_lt (j7 F.slot_tuple_lt ha.typeIs F.entry_tuple_lt (b2i ha hx hb hy hne ⟨_,rfl,(λe=>nomatch e),h⟩) (F.args_tuple_lt_2 _ _)) hu
def okK:j0->Bool
 | .tuple [.int _,.tuple (.str n::r)]=>qb (.tuple (.str n::r))
 | _=>false
def flK:j0->j0
 | .tuple [.int i,.tuple (.str n::_)]=>.tuple [.int i,.str n]
 | _=>.none
def a1v (h:okK d=true):∃ i n r,d=.tuple [.int i,.tuple (.str n::r)]/\qb (.tuple (.str n::r))=true:=by
 unfold okK at h;split at h
 ·exact ⟨_,_,_,rfl,h⟩
 ·cases h
def b5B (i j:Int) (n m:Str):ltT (.tuple [.int i,.str n]) (.tuple [.int j,.str m])=if i=j then (if n=m then false else decide (n.cps.toList<m.cps.toList)) else decide (i<j):=by
 show ltR [.int i,.str n] [.int j,.str m]=_;by_cases c:i=j
 ·subst c
  by_cases c2:n=m
  ·subst c2;simp [ltR,eqC]
  ·simp [ltR,eqC,c2,ltC,cH]
 ·simp [ltR,eqC,c,ltC]
def uD {i:Int} {r:T0l} {as:T0o} (h:Reads s.heap v (.tuple [.int i,.tuple (.str n::r)]) as):∃ a o xs k t b bs,v=.ref a/\s.heap.get? a=some o/\o.cls=.type "tuple" /\ o.data=.seq xs k/\xs.toList=[.int i t,.ref b]/\Reads s.heap (.ref b) (.tuple (.str n::r)) bs /\
  ∃ ys u yr,IsTup s.heap b ys/\ys.toList=.str n u::yr:=by
 cases h with
 | @tuple a o xs k _ _ hg hc hd rr=>
  generalize hv:xs.toList=vl at rr;cases rr with
  | cons z rr=>
   cases z with
   | int _ t=>
    cases rr with
    | cons z2 rr=>
     cases rr;cases id z2 with
     | @tuple b ob ys kb _ _ gb cb db rb=>
      generalize hv2:ys.toList=vl2 at rb;cases rb with
      | cons z3 rb=>
       cases z3 with
       | str _ u=>exact ⟨a,o,xs,k,t,b,_,rfl,hg,hc,hd,hv,z2,ys,u,_,⟨ob,gb,cb,kb,db⟩,hv2⟩
def b5l {e:j0} {as bs:T0o} {Q:Bool->Shared->Prop} (hu:A.units+64<cLine) (rd:Reads s.heap v d as) (re:Reads s.heap u e bs) (hd:okK d=true) (he:okK e=true) (inj:flK d=flK e->d=e) (q:Q (ltT (flK d) (flK e)) s):
  wpAny (model prog w) A (keyLt' (tuples' true) v u) Q E s:=by
 obtain ⟨i,n,r,rfl,s1⟩:=a1v hd;obtain ⟨j,m,r',rfl,s2⟩:=a1v he;obtain ⟨a,o,xs,k,t,b,bs1,rfl,g1,_,g3,g4,rb,ys,tu,yr,ib,yb⟩:=uD rd;obtain ⟨a',o',xs',k',t',b',bs2,rfl,g1',_,g3',g4',rb',ys',tu',yr',ib',yb'⟩:=uD re;refine kat_lt g1 g3 g1' g3' ?_;have z1:xs.size=2:=by rw [<-qS,g4];rfl
 have z2:xs'.size=2:=by rw [<-qS,g4'];rfl
 rw [z1,z2,g4,g4'];rw [show decide (2<2)=false by decide];have q':Q (ltT (.tuple [.int i,.str n]) (.tuple [.int j,.str m])) s:=q
 clear q
 rw [b5B] at q';show KatLex prog w A true false Q [(wL i t,wL j t'),(jU b,jU b')] 0 s;refine kat_cons (SeqAt.EqAt.int_int _ _ _ _ _ _ _ _ ?_);by_cases c:i=j
 ·subst c
  rw [if_pos rfl] at q';rw [beq_self_eq_true];refine kat_yes (kat_cons (SeqAt.eqAt_reads _ _ A s _ _ _ _ rb rb' (jj s1) (jj s2) (SeqAt.room_of_shaped s1 hu) _ _ _ _ ?_));by_cases c2:n=m
  ·subst c2
   rw [if_pos rfl] at q';have:(vd [.int i,.tuple (.str n::r)])=.tuple [.int i,.tuple (.str n::r')]:=inj rfl;cases this;rw [SeqAt.eqv_refl _ (jj s1)];exact kat_yes (kat_nil q')
  ·rw [if_neg c2] at q'
   have:qw (.tuple (.str n::r)) (.tuple (.str m::r'))=false:=by
    rw [qw,jI,qw,beq_eq_false_iff_ne.mpr c2,Bool.false_and]
   rw [this];exact kat_no (kat_one _ _ (b5f (by omega) ib yb ib' yb' c2 q'))
 ·rw [if_neg c] at q'
  rw [beq_eq_false_iff_ne.mpr c];exact kat_no (a8r _ _ _ _ _ q')
def b5D (rd:Rows s.heap ks nks) (hk:∀ d∈nks,okK d=true):∃ fs:List Value,KatTups s.heap ks fs/\fs.length=ks.length/\∀ v∈fs,∃ i t,v=.int i t:=by
 induction rd with
 | nil=>exact ⟨[],.nil,rfl,λv hv=>by cases hv⟩
 | @cons v vs d ds as r _ ih=>
  obtain ⟨fs,t,l,a⟩:=ih λd hd=>hk d (qE _ hd);obtain ⟨i,n,r',rfl,_⟩:=a1v (hk d (by simp));obtain ⟨ad,o,xs,k,tk,b,bs1,rfl,g1,g2,g3,g4,_⟩:=uD r;refine ⟨.int i tk::fs,KatTups.cons g1 g2 g3 (by rw [<-jo,g4];rfl) t,by simp [l],λv hv=>?_⟩;rcases qI.mp hv with rfl | hv
  ·exact ⟨_,_,rfl⟩
  ·exact a v hv
theorem KeyS.ofN (hu:A.units+64<cLine) (rd:Rows s.heap ks nks) (hk:∀ d∈nks,okK d=true) (inj:∀ d∈nks,∀ e∈nks,flK d=flK e->d=e):KeyS prog w A s ks (nks.map flK):=by
 have ln:=rd.len;refine ⟨λhn E Q q=>?_,λi j E Q hi hj q=>?_⟩
 ·obtain ⟨fs,t,l,a⟩:=b5D rd hk
  refine kat_kind (T:=.type "int") t (by omega) (λv hv=>?_) (by decide) q;obtain ⟨i,t,rfl⟩:=a v hv;exact Looks.of_pure rfl
 ·obtain ⟨as,ri⟩:=rd.at i hi
  obtain ⟨bs,rj⟩:=rd.at j hj;have at':∀ i,i<nks.length->nks.getD i .none∈nks/\(nks.map flK).getD i .none=flK (nks.getD i .none):=λi hi=>by
   refine ⟨?_,?_⟩
   ·rw [qG,qD hi];exact jZ hi
   ·rw [qG,qQ,qG,qD hi];rfl
  obtain ⟨mi,ei⟩:=at' i (by omega);obtain ⟨mj,ej⟩:=at' j (by omega);rw [ei,ej] at q;exact b5l hu ri rj (hk _ mi) (hk _ mj) (inj _ mi _ mj) q
noncomputable def a1c (ds nks:T0l):Option j0:=if nks.all okK&&decide ((nks.map flK).Nodup)&&decide (nks.length<64) then (a6X ds (nks.map flK)).map .list else none
def b5C (h:okK d=true):cE [true,false] (flK d)=true:=by
 obtain ⟨i,n,r,rfl,_⟩:=a1v h;rfl
def a9E (h:(nks.map flK).Nodup):∀ d∈nks,∀ e∈nks,flK d=flK e->d=e:=by
 intro d hd e he h1;obtain ⟨i,hi,rfl⟩:=kI.mp hd;obtain ⟨j,hj,rfl⟩:=kI.mp he;have:i=j:=(vg (i:=i) (j:=j) (h₀:=by simpa using hi) (h₁:=by simpa using hj) h).mp (by simpa using h1);subst this;rfl
end L2.L3
namespace L2.L3
open PySem PySem.Spec PySem.Calls PyProof.Rows
variable {y:Str} {f c:Addr} {body:Expr}
section
variable {K:qB}
theorem RepS.capV (R:RepS K H0 Gz G H σ ρ) (cap:T0e) (r:Rep K G v d):RepS K H G G H (some v::fX cap σ) (.val d::cU cap ρ):=by
 have R1:=R.cap cap;refine ⟨R1.grow,by simp [R1.len],λi o e h1 h2=>?_,Inj.free (λi e h=>?_),R1.tab⟩
 ·cases i with
  | zero=>
   simp at h1 h2;subst h1 h2;exact ⟨v,rfl,r⟩
  | succ i=>exact R1.ent i o e (by simpa using h1) (by simpa using h2)
 ·cases i with
  | zero=>simp at h;subst h;rfl
  | succ i=>exact a0c cap ρ i e (by simpa using h)
def b2y {cd:Value} {cl:T0f} {outer:List Env} {E:XK} {tk:Nat} {x:V} {m:T0d} 
  (hk:scope.kind=.function) (hnc:∀ x∈scope.names,x.2≠.cell) (hy:scope.names.lookup y=some .local) (hd:A.handled=none) (e0:Env0 P w K mg base A outer s H) (C:Caps cl scope N σ H s.heap) (hns:h1.Ns s.heap.objs.size m) (hm:m y=some u) (rx:RelV x u)
  (kp:∀ b o,s.heap.get? b=some o->h1.get? b=some o):
  Inv (cxL P w K mg base (y::N) (a9N qual scope s.heap.objs.size f cd cl) A outer s H E) [] (some x::σ) H { s with heap:=h1,toks:=tk }:=by
 have noA:∀ b:Addr,b∉(cxL P w K mg base (y::N) (a9N qual scope s.heap.objs.size f cd cl) A outer s H E).ex:=λb z=>absurd (show b∈([]:T0o) from z) (by simp);have cellK:∀ c v,s.heap.IsCell c v->h1.IsCell c v:=λc v ⟨o,ho,hd⟩=>⟨o,kp _ _ ho,hd⟩
 refine ⟨⟨e0.mod,hk,rfl,rfl,qM _,C.inj,λy hy=>?_,(λy c z _=>nomatch z),λ_=>hd,Around.frames_deeper e0.frames,.inr ⟨rfl,rfl⟩,λb z=>absurd z (noA b),e0.bs,e0.bsz,λb _ _=>noA b,λb z=>absurd z (noA b),e0.funs,e0.frf⟩,
  rfl,e0.bare,Un.kept kp,⟨m,hns,λi y' v q1 q2 q3=>?_⟩,λy c h=>?_,e0.hok.fresh (qM _),λy c h=>(C.cell y c h).1,λp hp=>absurd (show p∈([]:T0b) from hp) (by simp),e0.hok.kept kp,by show (some x::σ).length=(y::N).length;simp [C.len]⟩
 ·have hy:scope.names.lookup y=some .cell\/scope.names.lookup y=some .free:=hy
  rcases hy with hy | hy
  ·exact absurd rfl (hnc _ (ql hy))
  ·exact C.has y hy
 ·cases i with
  | zero=>
   have q1:some y=some y':=q1;have q2:some (some x)=some (some v):=q2;cases q1;cases q2;exact ⟨u,rx,.inl ⟨hy,hm⟩⟩
  | succ i=>
   obtain ⟨z1,u',c,z2,z3,z4⟩:=C.val i y' v q1 q2;exact ⟨u',z2,.inr ⟨.inr z1,c,z3,cellK c _ z4⟩⟩
 ·obtain ⟨_,v,q⟩:=C.cell y c h
  exact ⟨v,cellK c v q⟩
def b5k {y:Str} {cl:T0f} {outer:List Env} {o:Obj} {x:V} 
  (hr:Room (k+1) A) (e0:Env0 P w K mg base A outer s H) (ho:s.heap.get? f=some o) (hod:o.data=.func (vM "<lambda>" qual params body scope cl pm (.ref c) ct)) (hcd:s.heap.CodeRec (.ref c) qual)
  (hk:scope.kind=.function) (hco:scope.isCoroutine=false) (hge:scope.isGenerator=false) (hnc:∀ x∈scope.names,x.2≠.cell) (hy:scope.names.lookup y=some .local)
  (hb:uo (vM "<lambda>" qual params body scope cl pm (.ref c) ct) ⟨[u],[]⟩=pure [(y,u)])
  (hbody:DE (cxL P w K mg base (y::N) (a9N qual scope s.heap.objs.size f (.ref c) cl) A outer s H E0) body fe)
  (C:Caps cl scope N σ H s.heap) (R:RepS K H G G H (some x::σ) (.val d::ρ)) (rx:RelV x u) (hf:fe (.val d::ρ)=some (.ok kd)):
  ua (model P w) A (.call (.ref f) ⟨[u],[]⟩) (CR (CX1 P w) outer P w H s (λv' H'=>∃ G',Grow G H G' H'/\Rep K G' v' kd) E0) s:=by
 have lim:s.heap.NoLimit:=e0.mod.nolimit.keeps λb o e=>(e0.bs b o e).1;refine PySem.W.kla_callFunE hr.depth ho hod hco hge rfl hcd ?_;rw [hb];refine j3 (wpAny_newFunctionEnv hnc (λz hz=>by obtain rfl:=qH.mp hz;exact hy) (λh1 hns hsb=>?_) hk);have kp:∀ b o,s.heap.get? b=some o->h1.get? b=some o:=λb o e=>hsb.extBut b o (qc (qN e)) (qC _ e);refine ⟨lim.keeps kp,PySem.W.kla_codeExpr ?_⟩;have I:Inv (cxL P w K mg base (y::N) (a9N qual scope s.heap.objs.size f (.ref c) cl) A outer s H E0) [] (some x::σ) H { s with heap:=h1,toks:=s.toks+[(y,u)].length }:=b2y hk hnc hy hr.hd e0 C hns (by simp) rx kp;refine yi (hbody.run [] _ _ H (λv' H'=>∃ G',Grow G H G' H'/\Rep K G' v' kd) I ⟨_,_,H,G,G,hf,R,λv' G' H' g rv=>⟨G',g,rv⟩⟩) (λu' s' hs=>?_) λe s' hs=>hs;obtain ⟨v',H',J,rv,q⟩:=hs;exact ⟨v',H',J.os,J.bare,J.base,J.hok,rv,q⟩
end
noncomputable def a1e (fa:EF) (cap:T0e) (fe:EF):EF:=λρ=>match fa ρ with
 | some (.ok x)=>lft ((tW x).bind λds=>match nY (λρ1=>fe (ρ1++cU cap ρ)) ds with
  | some nks=>a1c ds nks
  | none=>none)
 | _=>none
theorem a8s:∀ {nks:T0l},(∀ d∈nks,okK d=true)->noDcs nks=true
 | [],_=>by simp [noDcs]
 | d::r,h=>by
  rw [noDcs,qL];obtain ⟨i,n,r',rfl,hz⟩:=a1v (h d (by simp));refine ⟨?_,a8s λx hx=>h x (qE _ hx)⟩;simp [pQ,noDcs,dB hz];have:=dB hz;simpa [pQ,noDcs] using this
structure KJ' (X:Cx) (pq:T0b) (σ:St) (G H:Hp) (f:Addr) (fo:Obj) (a kS:Addr) (kds:T0l) (ks:T0m) (s:Shared):Prop where
 ex:∃ G' H' kvs,Inv X pq σ H' s/\Grow G H G' H'/\pG X.K G' H'/\RepAll X.K G' kvs (kds.take ks.length)/\aU kvs ks/\H' f=none/\H' a=none/\H' kS=none
 fo:s.heap.get? f=some fo
 oa:∃ o,s.heap.get? a=some o
 ok:∃ o,s.heap.get? kS=some o
def b3q {cap:T0e} {x y:Str} {c P:Addr} {a:Expr} {lp:Pos} (hx:x∈fC) (ht:jh X.K x=some (c,P)) (hcode:X.env.code=.ref c)
  (hq:X.env.qual ++ "<lambda>" = lamQ x) (C:kQ X.K c P=true) (M:BM X.mg X.base) (hr:Room (k+3) X.A) (hm:X.mg "sorted" = none) (ha:DE X a fa) (B:Blk X scope N' cap) (hco:scope.isCoroutine=false) (hge:scope.isGenerator=false) (hnc:∀ x∈scope.names,x.2≠.cell) (hy:scope.names.lookup y=some .local)
  (hbody:∀ (f c:Addr) (cl:T0f) (A:Around) (outer:List Env) (s:Shared) (H:Hp),Room k (A.deeper (a9N (lamQ x) scope s.heap.objs.size f (.ref c) cl))->DE (cxL X.prog X.w X.K X.mg X.base (y::N') (a9N (lamQ x) scope s.heap.objs.size f (.ref c) cl) A outer s H E0) body fe)
  (hbind:∀ (cl:T0f) (pm ct u:Value) (c:Addr),uo (vM "<lambda>" (lamQ x) params body scope cl pm (.ref c) ct) ⟨[u],[]⟩=pure [(y,u)]:=by intros;rfl)
  (hdef:defaultsOf params X.env=([],[]):=by rfl)
  (he:j4 [a] X.env=(false,eval a X.env)::j4 [] X.env:=by rfl)
  (he':v8 pos (j4 [a] X.env)=(false,eval a X.env)::v8 pos (j4 [] X.env):=by rfl) (hpl:(v8 pos (j4 [a] X.env)).any (·.1)=false:=by rfl)
  (hk1:(yz pos (w8 [⟨some "key", .Lambda params body scope lp,kp⟩] X.env)).filterMap (·.1)=[jB "key"]:=by rfl) (hg:Gl X "sorted":=by rfl):
  DE X (.Call (.Name "sorted" p) [a] [⟨some "key", .Lambda params body scope lp,kp⟩] pos) (a1e fa cap fe):=⟨λpq s σ H Q I ⟨ρ,r,H0,Gz,G,ef,R,q⟩=>by
 unfold a1e at ef;refine k9 (iV I hg hm (by rfl:yc "sorted" = some (.builtin "sorted")) ?_ (by decide) (by decide));split at ef
 ·rename_i d e1
  obtain ⟨out0,e3,rfl⟩:=bW ef;obtain ⟨ds,e4,e5⟩:=Option.bind_eq_some_iff.mp e3;split at e5
  ·rename_i nks ek
   unfold a1c at e5;split at e5
   ·rename_i hok
    rw [qL,qL] at hok;obtain ⟨out,e6,rfl⟩:=qU.mp e5;have hok1:∀ d∈nks,okK d=true:=λd hd=>qm.mp hok.1.1 d hd;have hinj:=a9E (of_decide_eq_true hok.1.2);have hs:∀ d∈nks.map flK,cE (true::[false]) d=true:=λd hd=>by
     obtain ⟨d',h1,rfl⟩:=qO.mp hd;exact b5C (hok1 d' h1)
    have k64:=of_decide_eq_true hok.2;have kl:=yK ek;have kl2:(nks.map flK).length=nks.length:=qF _;refine callWith_kw (thn ((gI (ha.pd e1) mR he).run H0 Gz G pos pq s σ H (λvs H'=>∃ G',Grow G H G' H'/\RepAll X.K G' vs [d]) I R λvs G' H' g r=>⟨G',g,r⟩) λus s1 ⟨vs,H1,I1,r1,G1,g1,w1⟩=>?_) he' hpl;show wpAny _ _ (evalAll ((do let v <-eval (.Lambda params body scope lp) X.env;Qg pos;pure v)::[])) _ _ s1;refine QM (q8 (a5W hx ht hcode hq C M hdef (pF λp hp hk=>I1.ok.has p.1 (.inl (B.free p hp hk))) I1 (R.more g1) λf c' ct pm H2 s2 I2 g2 fo Hf sf hc'=>q8 (ur (j3 (j3 ?_)))));rw [hk1];cases w1 with | cons wa wn=>
    cases wn;obtain ⟨u,rfl,ru⟩:=vals1 r1;obtain ⟨l,ivs,rfl,hsq,ri⟩:=oK g2.sub e4 wa;cases ru;obtain ⟨its,T,o,n,hT,ho,hc,hd,rv⟩:=xW I2 hsq;have l1:=ri.len;have l2:=rv.length;have tb2:pG X.K G1 H2:=((R.more g1).more g2).tab;have nf:f∉frs X.stack:=sO I1 sf;refine a1b hT ho hc hd (by omega) λa kS e1' h' Pn E' hP ga gk kp' hk0 ha0=>?_;have gk':s2.heap.objs.size<=kS:=qk ga (jN gk);have na:a∉frs X.stack:=sO I2 ga;have nk:kS∉frs X.stack:=sO I2 gk';refine a5Y (J:=KJ' X pq σ G1 H2 f (zx "<lambda>" (lamQ x) params body scope (xB scope X.env) pm c' ct) a kS nks) (kds:=nks.map flK) (jS gk) hk0 ha0 (by omega) hs (by omega) ?start ?mono ?step ?fin ?done
    case start=>exact ⟨⟨G1,H2,[],I2.kept (t':=s2.toks) kp',.refl g2.sub,tb2,.nil,.nil,Hf,I2.hok.fresh ga,I2.hok.fresh gk'⟩,kp' _ _ fo,⟨_,ha0⟩,⟨_,hk0⟩⟩
    case mono=>
     intro ks s3 h3 ⟨⟨G3,H3,kvs,I3,g3,t3,w3,v3,f3,a3,k3⟩,fo3,oa3,ok3⟩ same sz ok;have fk:f≠kS:=λz=>absurd (qN fo) (by rw [z];exact zo gk');refine ⟨⟨G3,H3,kvs,oW (N:=0) (ch:=[kS]) I2 I3 (λb hb=>?_) (λb hb=>same b (by simpa using hb)),g3,t3,w3,v3,f3,a3,k3⟩,(same f fk).trans fo3,?_,ok⟩
     ·obtain rfl:=qH.mp hb
      exact ⟨gk',k3⟩
     ·obtain ⟨oo,e⟩:=oa3
      exact ⟨oo,(same a (qc gk)).trans e⟩
    case step=>
     intro ks s3 xv hxv ⟨⟨G3,H3,kvs,I3,g3,t3,w3,v3,f3,a3,k3⟩,fo3,oa3,ok3⟩;have hi:ks.length<its.length:=(qR.mp hxv).1;have hdi:ds[ks.length]?=some (ds[ks.length]'(by omega)):=qD (by omega);obtain ⟨kd,ekd,efe⟩:=a1J ek hdi;have efe:fe (.val _::cU cap ρ)=some (.ok kd):=efe;obtain ⟨iv,eiv,riv⟩:=ri.get hdi;obtain ⟨xv',exv,rxv⟩:=rv.get eiv;rw [hxv] at exv;cases exv;have cr:s3.heap.CodeRec (.ref c') (lamQ x):=(I3.hok c' _ (g3.hh.keep c' _ hc' (by unfold cdO;nofun))).1;have r3:Room (k+1) X.A.in1.in1:=hr.in1.in1;have R3:=(R.more g1).more (g2.trans g3);refine QL (yo (b5k r3 I3.env0.in1.in1 fo3 rfl cr B.kind hco hge hnc hy (hbind _ pm ct xv c') (hbody f c' _ _ _ _ _ (r3.deeper _)) (b6b B I3) (R3.capV cap (riv.mono g3.gg)) rxv efe) λr s4 h4=>?_);cases r with
     | error e=>obtain ⟨_,_,_,_,z,_⟩:=h4;exact jX z
     | ok fl=>
      cases fl with
      | next=>exact jX h4
      | brk=>exact jX h4
      | cont=>exact jX h4
      | ret u4=>
       obtain ⟨v4,H4,os4,bare4,un4,hok4,rv4,G4,g4,w4⟩:=h4;obtain ⟨_,_,I4,_,rfl,rfl⟩:=I3.after (Q:=λv H=>v=v4/\H=H4) (u:=u4) (s':=s4) ⟨v4,H4,os4,bare4,un4,hok4,rv4,rfl,rfl⟩;obtain ⟨oo,eoa⟩:=oa3;obtain ⟨ok',eok⟩:=ok3;have keepA:=un4.keep a oo eoa a3 na (by simp);have keepK:=un4.keep kS ok' eok k3 nk (by simp);refine ⟨⟨⟨G4,_,kvs++[_],I4,g3.trans g4,t3.more g4,?_,Paired.snoc v3 rv4,un4.free f _ fo3 f3 (by simp),un4.free a _ eoa a3 (by simp),un4.free kS _ eok k3 (by simp)⟩,un4.keep f _ fo3 f3 nf (by simp),⟨oo,keepA⟩,⟨ok',keepK⟩⟩,keepA.trans eoa.symm,keepK.trans eok.symm⟩;rw [qY,jO,wF,ekd];exact (w3.mono g4.gg).append (.cons w4 .nil)
    case fin=>
     intro ks s3 hl ⟨⟨G3,H3,kvs,I3,g3,t3,w3,v3,f3,a3,k3⟩,fo3,oa3,ok3⟩;rw [jv (by omega)] at w3;exact KeyS.ofN (hr.in1.in1).units (a4q I3 (w3.mono g3.sub) (a8s hok1) v3) hok1 hinj
    case done=>
     intro pp ks s3 h3 hPm hS ⟨⟨G3,H3,kvs,I3,g3,t3,w3,v3,f3,a3,k3⟩,fo3,oa3,ok3⟩ same sz ⟨cc,hca⟩;refine hP _ ?_;have pl:∀ i∈pp.toList,i<ivs.length:=λi hi=>by
      have:=(vD.mp hPm.perm).mem_iff.mp hi;simp at this;omega
     have I5:Inv X pq σ H3 { s3 with heap:=h3 }:=oW (N:=0) (ch:=[kS,a]) I2 I3 (λb hb=>by
      rcases qI.mp hb with rfl | hb
      ·exact ⟨gk',k3⟩
      ·obtain rfl:=qH.mp hb
       exact ⟨ga,a3⟩) (λb hb=>same b (λz=>hb (by simp [z])) λz=>hb (by simp [z]))
     refine ⟨.ref a,_,a3D (o:=.lst (pp.toList.map λi=>ivs.getD i .non)) I2 I5 ga a3 ⟨?_,pp.toList.map λi=>its.getD i jf,cc,aU.pick rv _ pl,hca⟩,rfl,?_⟩
     ·rw [qF,qS,hPm.size]
      exact jN (nU (by omega))
     ·refine q (.ref a) _ _ ((g1.trans g2).trans (g3.trans (.put g3.sub a3))) (.list (.of aH) ?_)
      rw [a2P (p:=pp.toList) e6 (λi hi=>by have:=pl i hi;omega) hS];exact (ri.pick _ pl).mono (g3.gg.trans (Grow.put g3.sub a3).gg)
   ·cases e5
  ·cases e5
 ·cases ef⟩
end L2.L3
namespace L2.L3
open PySem PySem.Spec PyProof.Rows
def b3N {α:Type} {xs:List α} {p:Int} (h0:0<=p) (h1:p<xs.length) (dflt:α):atI xs p=some (xs.getD p.toNat dflt):=by
 have e:((p.toNat:Nat):Int)=p:=by omega
 have lt:p.toNat<xs.length:=by omega
 have q:=b8Q (xs:=xs) p.toNat
 rw [e] at q;rw [q];simp [vV,qD lt]
def b2M {α β:Type} (f:α->β) (xs:List α) (i:Nat) (d:α):(xs.map f).getD i (f d)=f (xs.getD i d):=by
 simp only [vV,qQ];cases xs[i]?<;>rfl
def xJ {α β:Type} (f:α->β) {xs:List α} {p:Int} (h0:0<=p) (h1:p<xs.length) (dflt:α):atI (xs.map f) p=some (f (xs.getD p.toNat dflt)):=by
 rw [b3N h0 (by rw [qF];exact h1) (f dflt),b2M]
def cellOf (ns:T0s) (k:Int):Int:=
 if k<ns.length then ns.getD k.toNat 0 else if ns=[] then 0 else ns.getD (k % (ns.length:Int)).toNat 0*31+k
def drawnOf (ns:T0s) (k:Int):Int:=(cellOf ns k+6151*(k+1))*40692 % 2147483399
def pickOf (ns:T0s) (k many:Int):Int:=(drawnOf ns k*drawnOf ns k+drawnOf ns k / 31) % 2147483629 % many
variable {many:Int}
def iH (ns:T0s) (k:Int) (h:0<many):0<=pickOf ns k many:=Int.emod_nonneg _ (by omega)
def iI (ns:T0s) (k:Int) (h:0<many):pickOf ns k many<many:=wO _ h
def bQ:List Str:=["a", "b", "cc", "d", "e", "fx", "g", "h", "i", "jjjj"]
def spanOf (ns:T0s) (at':Int):Int:=([12,30,30,200]:T0s).getD (pickOf ns at' 4).toNat 0
def a4j (ns:T0s) (at':Int):spanOf ns at'=12\/spanOf ns at'=30\/spanOf ns at'=200:=by
 have h0:=iH ns at' (many:=4) (by decide);have h1:=iI ns at' (many:=4) (by decide);unfold spanOf;generalize pickOf ns at' 4=p at h0 h1;have:p=0\/p=1\/p=2\/p=3:=by omega
 rcases this with rfl | rfl | rfl | rfl<;>simp
def mL (ns:T0s) (at':Int) (k:Nat):Int:=([3,8,spanOf ns at']:T0s).getD (pickOf ns (at'+12+3*(k:Int)) 3).toNat 0
def a1g (ns:T0s) (at':Int) (k:Nat):0<mL ns at' k/\mL ns at' k<=200:=by
 have h0:=iH ns (at'+12+3*(k:Int)) (many:=3) (by decide);have h1:=iI ns (at'+12+3*(k:Int)) (many:=3) (by decide);have hs:=a4j ns at';unfold mL;generalize pickOf ns (at'+12+3*(k:Int)) 3=p at h0 h1;have:p=0\/p=1\/p=2:=by omega
 rcases this with rfl | rfl | rfl<;>simp<;>omega
def iM (ns:T0s) (at':Int) (k:Nat):Int:=pickOf ns (at'+10+3*(k:Int)) (spanOf ns at')
def mM (ns:T0s) (at':Int) (k:Nat):Int:=1+pickOf ns (at'+11+3*(k:Int)) (mL ns at' k)
def a0G (ns:T0s) (at':Int) (k:Nat):Mt:=(bQ.getD k "", iM ns at' k,iM ns at' k+mM ns at' k)
def lO (ns:T0s) (at' most:Int):Nat:=(pickOf ns (at'+1) (most+1)).toNat
def iG (ns:T0s) (at' most:Int):List Mt:=(qV (lO ns at' most)).map (a0G ns at')
variable {most:Int}
def a4E {at':Int} (h:0<=most):((lO ns at' most:Nat):Int)<=most:=by
 have h0:=iH ns (at'+1) (many:=most+1) (by omega);have h1:=iI ns (at'+1) (many:=most+1) (by omega);unfold lO;omega
def xV (ns:T0s) (at' most:Int):(iG ns at' most).length=lO ns at' most:=by simp [iG]
def b3L (ns:T0s) (at':Int) (k:Nat):0<=iM ns at' k/\iM ns at' k<200:=by
 have hs:=a4j ns at';have h0:=iH ns (at'+10+3*(k:Int)) (many:=spanOf ns at') (by omega);have h1:=iI ns (at'+10+3*(k:Int)) (many:=spanOf ns at') (by omega);unfold iM;omega
def b4g (ns:T0s) (at':Int) (k:Nat):1<=mM ns at' k/\mM ns at' k<=200:=by
 have hs:=a1g ns at' k;have h0:=iH ns (at'+11+3*(k:Int)) (many:=mL ns at' k) hs.1;have h1:=iI ns (at'+11+3*(k:Int)) (many:=mL ns at' k) hs.1;unfold mM;omega
def a2z:bQ.Nodup:=by decide +kernel
def a7n:∀ x∈bQ,jc x=true:=by decide +kernel
structure SheetOk (s:List Mt):Prop where
 few:s.length<=10
 names:s.map (·.1)=bQ.take s.length
 times:∀ m∈s,0<=m.2.1/\m.2.1<m.2.2/\m.2.2<400
def b1e (ns:T0s) (at':Int) (h0:0<=most) (h1:most<=10):SheetOk (iG ns at' most):=by
 have hm:=a4E (ns:=ns) (at':=at') h0;refine ⟨by rw [xV];omega,?_,λm hm'=>?_⟩
 ·rw [xV]
  have hl:lO ns at' most<=bQ.length:=by show _<=10;omega
  unfold iG;rw [qT];apply jb;intro i;rw [qQ];by_cases hi:i<lO ns at' most
  ·rw [kq hi,kZ hi]
   have hi':i<bQ.length:=by omega
   simp [a0G,vV,qD hi']
  ·rw [qd (by simpa using hi),qd (by simp;omega)]
   rfl
 ·unfold iG at hm'
  obtain ⟨k,_,rfl⟩:=qO.mp hm';have hb:=b3L ns at' k;have hs:=b4g ns at' k;simp only [a0G];omega
variable {s:List Mt}
theorem SheetOk.name_ok (S:SheetOk s):∀ m∈s,jc m.1=true:=λm hm=>by
 have:m.1∈s.map (·.1):=qO.mpr ⟨m,hm,rfl⟩;rw [S.names] at this;exact a7n _ (List.mem_of_mem_take this)
theorem SheetOk.nodup (S:SheetOk s):(s.map (·.1)).Nodup:=by
 rw [S.names];exact a2z.sublist (vT _ _)
abbrev dN (ns:T0s):j0:=.list (ns.map .int)
def a4o (h1:∀ d∈ds,jJ d=true) (h2:∀ d∈ds,jr d<=n) (h3:n<64):qb (.list ds)=true:=by
 refine a2T (n:=n+1) ?_ ?_ h3
 ·rw [jJ];exact xD h1
 ·rw [jr];have:=rQ h2;omega
def b1f (h1:∀ d∈ds,jJ d=true) (h2:∀ d∈ds,jr d<=n) (h3:n<64):qb (.tuple ds)=true:=by
 refine a2T (n:=n+1) ?_ ?_ h3
 ·rw [jJ];exact xD h1
 ·rw [jr];have:=rQ h2;omega
def sI (ns:T0s):qb (.list (ns.map .int))=true:=a4o (n:=1) (λd hd=>by obtain ⟨i,_,rfl⟩:=qO.mp hd;simp [jJ]) (λd hd=>by obtain ⟨i,_,rfl⟩:=qO.mp hd;simp [jr]) (by decide)
variable {b:List j0}
def b2T {a:T0l} (h1:qb (.list a)=true) (h2:qb (.list b)=true):eqD (.list a) (.list b)=some (jI a b):=by
 show (if (qb (.list a)&&qb (.list b))=true then some (qw (.list a) (.list b)) else none)=_;rw [h1,h2,if_pos (by rfl),a2c]
def a5F {a:T0l} (h1:qb (.list a)=true) (h2:qb (.list b)=true):neD (.list a) (.list b)=some (!PyData.eqvAll a b):=by
 show (if (qb (.list a)&&qb (.list b))=true then some (!PyData.eqv (.list a) (.list b)) else none)=_;rw [h1,h2,if_pos (by rfl),a2c]
def a7a:qb (.list [])=true:=by decide +kernel
def a8P (ds:T0l):jI ds []=ds.isEmpty:=by cases ds<;>simp [jI]
def a4R (h:qb (.list ds)=true):eqD (.list ds) (.list [])=some ds.isEmpty:=by rw [b2T h a7a,a8P]
def b7R (h:qb (.list ds)=true):neD (.list ds) (.list [])=some (!ds.isEmpty):=by rw [a5F h a7a,a8P]
abbrev a9m:TF:=iC ltD (var 1) (cJ iQ (aC (var 0) aK))
abbrev a9l:TF:=iC eqD (var 0) (pR aK)
def a2a:SF:=(aQ (ifS a9m (retS (op2 ixD (var 0) (var 1))) iU) (aQ (ifS a9l (retS (cst (.int 0))) iU) (retS (op2 cR (op2 nW (op2 ixD (var 0) (op2 a7o (var 1) (cJ iQ (aC (var 0) aK)))) (cst (.int 31))) (var 1)))))
def a2q:List j0->Mm j0:=bZ 2 2 a2a
def a1X:SF:=(aQ (eZ 3 (op2 a7o (op2 nW (op2 cR (aX a2q (aC (var 0) (aC (var 1) aK))) (op2 nW (cst (.int 6151)) (op2 cR (var 1) (cst (.int 1))))) (cst (.int 40692))) (cst (.int 2147483399)))) (retS (op2 a7o (op2 a7o (op2 cR (op2 nW (var 3) (var 3)) (op2 b5E (var 3) (cst (.int 31)))) (cst (.int 2147483629))) (var 2))))
def dC:List j0->Mm j0:=bZ 4 3 a1X
abbrev a7T:SF:=aQ (eZ 7 (aX dC (aC (var 0) (aC (op2 cR (op2 cR (var 1) (cst (.int 10))) (op2 nW (cst (.int 3)) (var 6))) (aC (var 3) aK))))) (aQ (eZ 8 (op2 cR (cst (.int 1)) (aX dC (aC (var 0) (aC (op2 cR (op2 cR (var 1) (cst (.int 11))) (op2 nW (cst (.int 3)) (var 6))) (aC (op2 ixD (pR (aC (cst (.int 3)) (aC (cst (.int 8)) (aC (var 3) aK)))) (aX dC (aC (var 0) (aC (op2 cR (op2 cR (var 1) (cst (.int 12))) (op2 nW (cst (.int 3)) (var 6))) (aC (cst (.int 3)) aK))))) aK)))))) (uH 5 (mI (aC (op2 ixD (var 4) (var 6)) (aC (var 7) (aC (op2 cR (var 7) (var 8)) aK))))))
def yT:SF:=(aQ (eZ 3 (op2 ixD (pR (aC (cst (.int 12)) (aC (cst (.int 30)) (aC (cst (.int 30)) (aC (cst (.int 200)) aK))))) (aX dC (aC (var 0) (aC (var 1) (aC (cst (.int 4)) aK)))))) (aQ (eZ 4 (pR (aC (cst (.str "a")) (aC (cst (.str "b")) (aC (cst (.str "cc")) (aC (cst (.str "d")) (aC (cst (.str "e")) (aC (cst (.str "fx")) (aC (cst (.str "g")) (aC (cst (.str "h")) (aC (cst (.str "i")) (aC (cst (.str "jjjj")) aK)))))))))))) (aQ (a2y 5 aK) (aQ (nZ (.nm 6) (a1n (aX dC (aC (var 0) (aC (op2 cR (var 1) (cst (.int 1))) (aC (op2 cR (var 2) (cst (.int 1))) aK))))) a7T) (a2D 5 (retS (cJ a4f (aC (var 5) aK))))))))
def tG:List j0->Mm j0:=bZ 9 3 yT
def aV {m:Nat} (hl:ds.length=n) (h:f (a6V m ds)=some (.rt d)):bZ m n f ds=some (.ok d):=by
 unfold bZ;rw [if_pos hl,h]
def sU {p:Int} (h0:0<=p) (h1:p<ns.length):ixD (.list (ns.map .int)) (.int p)=some (.int (ns.getD p.toNat 0)):=by
 show atI (ns.map jg) p=_;rw [xJ jg h0 h1 0]
def b8x (ns:T0s) (k:Int) (h0:0<=k):a2q [dN ns,.int k]=some (.ok (.int (cellOf ns k))):=by
 refine aV rfl ?_;show a2a [.val (dN ns),.val (.int k)]=_;unfold a2a cellOf;by_cases h1:k<ns.length
 ·rw [fF (d:=.int (ns.getD k.toNat 0)),if_pos h1]
  simp [h1];rw [xJ jg h0 h1 0];simp
 ·rw [aJ (ρ':=[.val (dN ns),.val (.int k)]) (by simp [h1]),if_neg h1]
  by_cases h2:ns=[]
  ·subst h2
   rw [fF (d:=.int 0),if_pos rfl];have h:eqD (dN []) (.list [])=some true:=a4R a7a;simp [h]
  ·have he:(ns.map jg).isEmpty=false:=by cases ns with
    | nil=>exact absurd rfl h2
    | cons a r=>rfl
   have h:eqD (dN ns) (.list [])=some false:=by rw [a4R (sI ns),he]
   rw [aJ (ρ':=[.val (dN ns),.val (.int k)]) (by simp [h]),if_neg h2];have lp:(0:Int)<(ns.length:Nat):=by cases ns with
    | nil=>exact absurd rfl h2
    | cons a r=>simp<;>omega
   have a1:=Int.emod_nonneg k (b:=(ns.length:Int)) (by omega);have a2:=wO k lp;have lp':0<ns.length:=by omega
   have ix:ixD (dN ns) (.int (k % (ns.length:Int)))=some (.int (ns.getD (k % (ns.length:Int)).toNat 0)):=sU a1 a2;have ml:nW (.int (ns.getD (k % (ns.length:Int)).toNat 0)) (.int 31)=some (.int (ns.getD (k % (ns.length:Int)).toNat 0*31)):=a4y (by decide) (by decide);simp only [eG,b1Q,b6l,b6m,mE,b3K,mX,b3R,b2n,b6y,b7T,qF,if_pos lp,ix,c0i,ml,a0j,a6w]
def b3h (ns:T0s) (k:Int):0<=drawnOf ns k/\drawnOf ns k<2147483399:=⟨Int.emod_nonneg _ (by decide),wO _ (by decide)⟩
def rP (ns:T0s) (k many:Int) (h0:0<=k) (hm:0<many):dC [dN ns,.int k,.int many]=some (.ok (.int (pickOf ns k many))):=by
 refine aV rfl ?_;show a1X [.val (dN ns),.val (.int k),.val (.int many),.no]=_;have db:=b3h ns k;unfold a1X;rw [aJ (ρ':=[.val (dN ns),.val (.int k),.val (.int many),.val (.int (drawnOf ns k))])]
 ·have hsq:nW (.int (drawnOf ns k)) (.int (drawnOf ns k))=some (.int (drawnOf ns k*drawnOf ns k)):=a4y (by omega) (by omega)
  simp [hsq,hm,pickOf]
 ·have h2:nW (.int 6151) (.int (k+1))=some (.int (6151*(k+1))):=a4z (by decide) (by decide)
  have h3:nW (.int (cellOf ns k+6151*(k+1))) (.int 40692)=some (.int ((cellOf ns k+6151*(k+1))*40692)):=a4y (by decide) (by decide);simp [b8x ns k h0,h2,h3,drawnOf]
def uA (n:Nat):pY 0 n=(qV n).map λ(k:Nat)=>jg (k:Int):=by simp [pY]
def b5G (ns:T0s) (at' most:Int) (h0:0<=at') (hm:0<=most) (hm2:most<=10):tG [dN ns,.int at',.int most]=some (.ok (dS (iG ns at' most))):=by
 refine aV rfl ?_;show yT [.val (dN ns),.val (.int at'),.val (.int most),.no,.no,.no,.no,.no,.no]=_;have sp:=a4j ns at';have ml:=a4E (ns:=ns) (at':=at') hm;have p0:=iH ns (at'+1) (many:=most+1) (by omega);have p1:=iI ns (at'+1) (many:=most+1) (by omega);unfold yT;rw [aJ (ρ':=[.val (dN ns),.val (.int at'),.val (.int most),.val (.int (spanOf ns at')),.no,.no,.no,.no,.no])]
 rotate_left
 ·have h:=sU (ns:=[12,30,30,200]) (iH ns at' (many:=4) (by decide)) (iI ns at' (by decide))
  have h':atI [jg 12,.int 30,.int 30,.int 200] (pickOf ns at' 4)=some (.int (spanOf ns at')):=h;simp [rP ns at' 4 h0 (by decide),h']
 rw [aJ (ρ':=[.val (dN ns),.val (.int at'),.val (.int most),.val (.int (spanOf ns at')),.val (.list (bQ.map .str)),.no,.no,.no,.no])]
 rotate_left
 ·simp [bQ]
 rw [aJ (ρ':=[.val (dN ns),.val (.int at'),.val (.int most),.val (.int (spanOf ns at')),.val (.list (bQ.map .str)),.lst [],.no,.no,.no])]
 rotate_left
 ·simp
 -- the turns
 have hr:a1n (aX dC (aC (var 0) (aC (op2 cR (var 1) (cst (.int 1))) (aC (op2 cR (var 2) (cst (.int 1))) aK)))) [.val (dN ns),.val (.int at'),.val (.int most),.val (.int (spanOf ns at')),.val (.list (bQ.map .str)),.lst [],.no,.no,.no]=some (.ok ((qV (lO ns at' most)).map λ(k:Nat)=>jg (k:Int))):=by
  rw [uN (n:=pickOf ns (at'+1) (most+1)) (by simp [rP ns (at'+1) (most+1) (by omega) (by omega)]) (by omega) (by omega),uA];rfl
 have turns:=a3n (t:=.nm 6) (λ(k:Nat)=>jg (k:Int)) (λm ρ=>m<=10->∃ x y z,ρ=[.val (dN ns),.val (.int at'),.val (.int most),.val (.int (spanOf ns at')),.val (.list (bQ.map .str)),.lst ((qV m).map λk=>dM (a0G ns at' k)),x,y,z])
  (fb:=(aQ (eZ 7 (aX dC (aC (var 0) (aC (op2 cR (op2 cR (var 1) (cst (.int 10))) (op2 nW (cst (.int 3)) (var 6))) (aC (var 3) aK))))) (aQ (eZ 8 (op2 cR (cst (.int 1)) (aX dC (aC (var 0) (aC (op2 cR (op2 cR (var 1) (cst (.int 11))) (op2 nW (cst (.int 3)) (var 6))) (aC (op2 ixD (pR (aC (cst (.int 3)) (aC (cst (.int 8)) (aC (var 3) aK)))) (aX dC (aC (var 0) (aC (op2 cR (op2 cR (var 1) (cst (.int 12))) (op2 nW (cst (.int 3)) (var 6))) (aC (cst (.int 3)) aK))))) aK)))))) (uH 5 (mI (aC (op2 ixD (var 4) (var 6)) (aC (var 7) (aC (op2 cR (var 7) (var 8)) aK))))))))
  (qV (lO ns at' most)) 0 [.val (dN ns),.val (.int at'),.val (.int most),.val (.int (spanOf ns at')),.val (.list (bQ.map .str)),.lst [],.no,.no,.no] (λ_=>⟨.no,.no,.no,rfl⟩) (by
  intro m k ρ hk hp;have hk':m<lO ns at' most/\k=m:=by
   obtain ⟨h1,h2⟩:=qR.mp hk;rw [qx] at h1;rw [List.getElem_range] at h2;exact ⟨h1,h2.symm⟩
  obtain ⟨hk1,rfl⟩:=hk';obtain ⟨x,y,z,rfl⟩:=hp (by omega);rw [wX];have st:=a1g ns at' k;have e1:=rP ns (at'+10+3*(k:Int)) (spanOf ns at') (by omega) (by omega);have e2:=rP ns (at'+12+3*(k:Int)) 3 (by omega) (by decide);have e3:=rP ns (at'+11+3*(k:Int)) (mL ns at' k) (by omega) st.1;have h:=sU (ns:=[3,8,spanOf ns at']) (iH ns (at'+12+3*(k:Int)) (many:=3) (by decide)) (show pickOf ns _ 3<(3:Int) from iI ns _ (by decide));have h':atI [jg 3,.int 8,.int (spanOf ns at')] (pickOf ns (at'+12+3*(k:Int)) 3)=some (.int (mL ns at' k)):=h;have m3:nW (.int 3) (.int (k:Int))=some (.int (3*(k:Int))):=a4z (by decide) (by decide);have nm:atI (bQ.map j0.str) (k:Int)=some (.str (bQ.getD k "")):=by
   have:=xJ j0.str (xs:=bQ) (p:=(k:Int)) (by omega) (by show _<(10:Int);omega) "";simpa using this
  have nm':ixD (.list (bQ.map j0.str)) (.int (k:Int))=some (.str (bQ.getD k "")):=nm;refine ⟨_,[.val (dN ns),.val (.int at'),.val (.int most),.val (.int (spanOf ns at')),.val (.list (bQ.map .str)),.lst ((qV k).map (λk=>dM (a0G ns at' k))++[dM (a0G ns at' k)]),.val (.int k),.val (.int (iM ns at' k)),.val (.int (mM ns at' k))],rfl,.inl ?_,λ_=>⟨.val (.int k),.val (.int (iM ns at' k)),.val (.int (mM ns at' k)),by rw [List.range_succ,qZ];rfl⟩⟩;simp only [List.set];rw [aJ (ρ':=[.val (dN ns),.val (.int at'),.val (.int most),.val (.int (spanOf ns at')),.val (.list (bQ.map .str)),.lst ((qV k).map λk=>dM (a0G ns at' k)),.val (.int k),.val (.int (iM ns at' k)),z]) (by simp [m3,e1,iM])];rw [aJ (ρ':=[.val (dN ns),.val (.int at'),.val (.int most),.val (.int (spanOf ns at')),.val (.list (bQ.map .str)),.lst ((qV k).map λk=>dM (a0G ns at' k)),.val (.int k),.val (.int (iM ns at' k)),.val (.int (mM ns at' k))]) (by simp [m3,e2,h',e3,mM])];refine sZ (ds:=(qV k).map λk=>dM (a0G ns at' k)) rfl (d:=dM (a0G ns at' k)) ?_ (by simp;omega);simp only [a0T,mX,b1Q,b6l,b6m,mE,nm',b6y,a0j,b3R,b5d]
  rfl)
 obtain ⟨ρ',e,hp⟩:=turns;rw [qx,wX] at hp;obtain ⟨x',y',z',rfl⟩:=hp (by omega);rw [aJ (ρ':=[.val (dN ns),.val (.int at'),.val (.int most),.val (.int (spanOf ns at')),.val (.list (bQ.map .str)),.lst ((qV (lO ns at' most)).map λk=>dM (a0G ns at' k)),x',y',z'])]
 rotate_left
 ·rw [iX,aT hr]
  exact e
 show retS (cJ a4f (aC (var 5) aK)) [.val (dN ns),.val (.int at'),.val (.int most),.val (.int (spanOf ns at')),.val (.list (bQ.map .str)),.val (.list ((qV (lO ns at' most)).map λk=>dM (a0G ns at' k))),x',y',z']=_;simp [iG,qT,Function.comp_def]
@[simp] theorem b9V (neg:Bool) (k:j0) (fa:EF) (ρ:List Ent):isE neg k fa ρ=bnd (fa ρ) λx=>lft ((isB k x).map λt=>.bool (neg != t)):=rfl
@[simp] theorem b9T (neg:Bool) (k:j0) (fa:EF) (ρ:List Ent):isT neg k fa ρ=bnd (fa ρ) λx=>lft ((isB k x).map λt=>neg != t):=rfl
@[simp] theorem c1x:isB (.bool true) (.bool true)=some true:=rfl
@[simp] theorem c1y:isB (.bool false) (.bool false)=some true:=rfl
@[simp] theorem c1t (ds:T0l):isD "tuple" (.tuple ds)=some (.bool true):=rfl
@[simp] theorem c1v (i:Int):isD "int" (.int i)=some (.bool true):=rfl
@[simp] theorem c1w (i:Int):isD "bool" (.int i)=some (.bool false):=rfl
@[simp] theorem c1u (i:Str):isD "str" (.str i)=some (.bool true):=rfl
@[simp] theorem c0w (g1 g2 g3:j0->j0->Option Bool) (fa fb fc fd:EF) (ρ:List Ent):c0j g1 g2 g3 fa fb fc fd ρ=bnd (fa ρ) λx=>bnd (fb ρ) λy=>bnd (lft (g1 x y)) λt=>if t then bnd (fc ρ) λz=>bnd (lft (g2 y z)) λu=>if u then bnd (fd ρ) λw=>lft ((g3 z w).map .bool) else some (.ok (.bool false)) else some (.ok (.bool false)):=rfl
theorem a8g {ns:T0q} (h:∀ x∈ns,jc x=true):qb (.list (ns.map .str))=true:=a4o (n:=1) (λd hd=>by obtain ⟨i,hi,rfl⟩:=qO.mp hd;simpa [jJ] using h i hi) (λd hd=>by obtain ⟨i,_,rfl⟩:=qO.mp hd;simp [jr]) (by decide)
def a7m:bQ.Pairwise (λa b=>cH a b=true):=by decide +kernel
theorem SheetOk.pw (S:SheetOk s):(s.map (·.1)).Pairwise (λa b=>cH a b=true):=by rw [S.names];exact a7m.sublist (vT _ _)
@[simp] theorem c2k (a b c d e:α) (r:List α):atI (a::b::c::d::e::r) 4=some e:=by
 unfold atI ixN;rw [if_pos (by decide),if_pos (by simp<;>omega)];rfl
@[simp] theorem c2j (a b c d e f:α) (r:List α):atI (a::b::c::d::e::f::r) 5=some f:=by
 unfold atI ixN;rw [if_pos (by decide),if_pos (by simp<;>omega)];rfl
def aW {F:List j0->Mm j0} (ha:aa ρ=some (.ok ds)) (h:F ds=some (.ok d)):aX F aa ρ=some (.ok d):=by
 rw [b6c,ha,mE,h]
def b9C (h1:ft ρ=some (.ok false)) (h2:fu ρ=some (.ok false)):orT ft fu ρ=some (.ok false):=by
 rw [b9D,h1,mE,if_neg (by decide),h2]
def a8t {x y:j0} {r:Bool} (ha:fa ρ=some (.ok x)) (hb:fb ρ=some (.ok y)) (h:neD x y=some r):iC neD fa fb ρ=some (.ok r):=by
 rw [b3x,ha,mE,hb,mE,h];rfl
def gP {g:List j0->Option j0} (ha:aa ρ=some (.ok ds)) (h:g ds=some d):cJ g aa ρ=some (.ok d):=by
 rw [b3K,ha,mE,h];rfl
def b6S {f:TF} {b:Bool} (h:f (frzAll ρ)=some (.ok b)):thT f ρ=some (.ok b):=by unfold thT;rw [h]
def oM (ha:fa ρ=some (.ok d)) (hd:tW d=some ds):gC fa ρ=some (.ok ds):=by
 rw [b1g,ha,mE,hd];rfl
def prs {α:Type}:List α->List (α×α)
 | a::b::r=>(a,b)::prs (b::r)
 | _=>[]
theorem uT:∀ (ns acc:T0s) (x:Int),x∈ns.foldl (λa n=>if n∈a then a else a++[n]) acc↔x∈acc\/x∈ns
 | [],acc,x=>by simp
 | n::ns,acc,x=>by
  rw [zC,uT ns];by_cases h:n∈acc
  ·rw [if_pos h];simp;constructor
   ·rintro (h1 | h1);exact .inl h1;exact .inr (.inr h1)
   ·rintro (h1 | rfl | h1);exact .inl h1;exact .inl h;exact .inr h1
  ·rw [if_neg h];simp;constructor
   ·rintro ((h1 | h1) | h1);exact .inl h1;exact .inr (.inl h1);exact .inr (.inr h1)
   ·rintro (h1 | h1 | h1);exact .inl (.inl h1);exact .inl (.inr h1);exact .inr h1
def a9K (ns:T0s) (x:Int):x∈mB ns↔x∈ns:=by unfold mB;rw [uT];simp
theorem rC:∀ (ns acc:T0s),acc.Nodup->(ns.foldl (λa n=>if n∈a then a else a++[n]) acc).Nodup
 | [],acc,h=>h
 | n::ns,acc,h=>by
  rw [zC];refine rC ns _ ?_;by_cases hn:n∈acc
  ·rw [if_pos hn];exact h
  ·rw [if_neg hn,kO]
   refine ⟨h,by simp,λa ha b hb=>?_⟩;rw [qH] at hb;subst hb;exact λz=>hn (z▸ha)
def a5D (ns:T0s):(mB ns).Nodup:=rC ns [] List.nodup_nil
def ssI (ns:T0s):List Int:=sortI (mB ns)
def pV (ns:T0s):(sortI ns).Perm ns:=wH _ _
def a2w (ns:T0s):(sortI ns).Pairwise (·<=·):=by
 have h:=vX (le:=λ(a b:Int)=>decide (a<=b)) (λa b c h1 h2=>by simp only [decide_eq_true_eq] at *;omega) (λa b=>by simp only [vz,decide_eq_true_eq];omega) ns;exact h.imp λh=>by simpa using h
def a4D (ns:T0s) (x:Int):x∈ssI ns↔x∈ns:=by unfold ssI;rw [(pV _).mem_iff,a9K]
def b0Y (ns:T0s):(ssI ns).Pairwise (·<·):=by
 have h1:=a2w (mB ns);have h2:(sortI (mB ns)).Nodup:=(pV _).nodup_iff.mpr (a5D ns);exact (h1.and h2).imp λ⟨a,b⟩=>by omega
abbrev a6a:EF:=eD (.tp [0,1,2]) [none,none,none,some 1] (gC (var 0)) (b3A leD ltD (var 1) (var 3) (var 2)) (var 0)
def lT:SF:=(retS a6a)
def pI:List j0->Mm j0:=bZ 2 2 lT
def oB:SF:=(retS (cJ iQ (aC (aX pI (aC (var 0) (aC (var 1) aK))) aK)))
def tF:List j0->Mm j0:=bZ 2 2 oB
def cQ (m:Int) (x:Mt):Bool:=decide (x.2.1<=m)&&decide (m<x.2.2)
def fI (s:List Mt) (m:Int):List Str:=(s.filter (cQ m)).map (·.1)
def bB (s:List Mt) (m:Int):Int:=((fI s m).length:Nat)
def a7H (s:List Mt) (m:Int) (h:s.length<=100000):pI [dS s,.int m]=some (.ok (.list ((fI s m).map .str))):=by
 refine aV rfl ?_;show lT [.val (dS s),.val (.int m)]=_;unfold lT;have:=eX (t:=.tp [0,1,2]) (cap:=[none,none,none,some 1]) (fi:=gC (var 0)) (ft:=b3A leD ltD (var 1) (var 3) (var 2)) (fe:=var 0) (ρ:=[.val (dS s),.val (.int m)]) dM (λx=>[.val (.str x.1),.val (.int x.2.1),.val (.int x.2.2),.val (.int m)]) (cQ m) (λx=>.str x.1) s rfl h (λx _=>rfl) (λx _=>by simp [sV,cQ]) (λx _ _=>rfl);rw [eG,aT this];simp [fI]
def b0g (s:List Mt) (m:Int) (h:s.length<=100000):tF [dS s,.int m]=some (.ok (.int (bB s m))):=by
 refine aV rfl ?_;show oB [.val (dS s),.val (.int m)]=_;simp [oB,a7H s m h,bB]
theorem pE:∀ (ns acc:T0s),(ns.foldl (λa n=>if n∈a then a else a++[n]) acc).length<=acc.length+ns.length
 | [],acc=>by simp
 | n::ns,acc=>by
  rw [zC];by_cases h:n∈acc
  ·rw [if_pos h];have:=pE ns acc;simp only [qW];omega
  ·rw [if_neg h];have:=pE ns (acc++[n]);simp only [qY,qW,zz] at this ⊢;omega
def a8a (ns:T0s):(ssI ns).length<=ns.length:=by
 unfold ssI;rw [(pV _).length_eq];have:=pE ns [];simpa [mB] using this
section
variable {lo hi:Int} {r:T0s}
end
def ifF {t:TF} {g:SF} (h:t ρ=some (.ok false)):aQ (ifS t f iU) g ρ=g ρ:=aJ (by rw [lR,aT h];rfl)
def gr:List Mt->Option Int->List Mt
 | [],_=>[]
 | m::r,none=>m::gr r (some m.2.2)
 | m::r,some e=>if e<=m.2.1 then m::gr r (some m.2.2) else gr r (some e)
def bef (a b:Mt):Prop:=a.2.2<=b.2.1
def a7x (kf:Mt->j0) (x:Mt):List Mt->List Mt
 | []=>[x]
 | y::l=>if ltT (kf y) (kf x) then y::a7x kf x l else x::y::l
def a6W (kf:Mt->j0) (s:List Mt):List Mt:=s.foldr (a7x kf) []
variable {k:Bool}
section
variable {kf:Mt->j0}
theorem a6c (x:Mt):∀ l:List Mt,(a7x kf x l).map kf=a2B (kf x) (l.map kf)
 | []=>rfl
 | y::l=>by
  show List.map kf (if ltT (kf y) (kf x) then y::a7x kf x l else x::y::l)=(if ltT (kf y) (kf x) then kf y::a2B (kf x) (l.map kf) else kf x::kf y::l.map kf);split
  ·rw [qK,a6c x l]
  ·rfl
theorem a0Z:∀ s:List Mt,(a6W kf s).map kf=a0Y (s.map kf)
 | []=>rfl
 | x::s=>by
  show (a7x kf x (a6W kf s)).map kf=a2B (kf x) (a0Y (s.map kf));rw [a6c,a0Z s]
theorem a3F (x:Mt):∀ l:List Mt,(a7x kf x l).Perm (x::l)
 | []=>.refl _
 | y::l=>by
  unfold a7x;split
  ·exact ((a3F x l).cons y).trans (.swap x y l)
  ·exact .refl _
theorem nQ:∀ s:List Mt,(a6W kf s).Perm s
 | []=>.refl _
 | x::s=>(a3F x _).trans ((nQ s).cons x)
def b6B (hs:∀ m,cE g (kf m)=true) (nd:(s.map kf).Nodup) (hi:i<s.length):ixK ((s.map kf).getD i .none) (s.map kf)=i:=by
 have hl:i<(s.map kf).length:=by simpa using hi
 have e:(s.map kf).getD i .none=(s.map kf)[i]:=by rw [qG,qD hl];rfl
 have sg:∀ j (hj:j<(s.map kf).length),cE g ((s.map kf)[j])=true:=λj hj=>by rw [wp];exact hs _
 rw [e];unfold ixK;rw [List.findIdx_eq hl];refine ⟨by rw [a4G (sg i hl)];rfl,λj hj=>?_⟩;have hj':j<(s.map kf).length:=by omega
 rcases a0M (sg i hl) (sg j hj') with z | z | z
 ·rw [z];rfl
 ·exact absurd z.symm (jy.mp nd j i hj' hl hj)
 ·rw [z];simp
def a8c (hs:∀ m,cE g (kf m)=true) (nd:(s.map kf).Nodup):a6X (s.map dM) (s.map kf)=some ((a6W kf s).map dM):=by
 unfold a6X;rw [if_pos]
 ·rw [<-a0Z,qT]
  refine congrArg some (zQ λm hm=>?_);have hm:=(nQ s).mem_iff.mp hm;obtain ⟨i,hi,rfl⟩:=kI.mp hm;have e:(s.map kf).getD i .none=kf s[i]:=by rw [qG,qD (by simpa using hi),wp];rfl
  show (s.map dM).getD (ixK (kf s[i]) (s.map kf)) .none=_;rw [<-e,b6B hs nd hi,qG,qD (by simpa using hi),wp];rfl
 ·rw [qm]
  intro i hi;have hi:i<s.length:=by simpa using qo.mp hi
  rw [beq_iff_eq];exact b6B hs nd hi
def a9R {k:Bool} (hs:∀ m,cE (k::g) (kf m)=true) (ht:∀ m,b4h (kf m)=some (k::g)):keyOk (s.map kf)=true:=by
 cases s with
 | nil=>rfl
 | cons m r=>
  show (match b4h (kf m) with | some (k::g)=>((m::r).map kf).all (cE (k::g)) | _=>false)=true;rw [ht m];exact qm.mpr λd hd=>by obtain ⟨n,_,rfl⟩:=qO.mp hd;exact hs n
theorem a3v {fe:EF} (h:∀ m:Mt,fe [.val (dM m)]=some (.ok (kf m))):∀ s:List Mt,nY fe (s.map dM)=some (s.map kf)
 | []=>rfl
 | m::s=>by
  show (match fe [.val (dM m)] with | some (.ok k)=>(nY fe (s.map dM)).map (k::·) | _=>none)=_;rw [h m,a3v h s];rfl
def a6Z {k:Bool} (h:∀ m:Mt,fe [.val (dM m)]=some (.ok (kf m))) (hs:∀ m,cE (k::g) (kf m)=true) (ht:∀ m,b4h (kf m)=some (k::g)) (nd:(s.map kf).Nodup) (hz:s.length<64):
  a1d fe (s.map dM)=some (.list ((a6W kf s).map dM)):=by
 unfold a1d;rw [a3v h s];show (if (keyOk (s.map kf)&&decide ((s.map kf).length<64))=true then (a6X (s.map dM) (s.map kf)).map ky else none)=_;rw [if_pos (by rw [a9R hs ht,qF,decide_eq_true hz];rfl),a8c hs nd];rfl
end
def cW {t:Tg} {fb:SF} (h1:tgD t ρ d=some ρ1) (h2:fb ρ1=some (.nx ρ2)):bG t fb (d::ds) ρ=bG t fb ds ρ2:=by
 rw [bG,h1];dsimp only;rw [h2]
abbrev iW:EF:=eD (.tp [0,1,2]) [none,none,none,some 0] (gC (var 0)) ttT (aX tF (aC (var 3) (aC (var 1) aK)))
def eQ:SF:=(retS (dfE a5K iW (cst (.int 0))))
def dP:List j0->Mm j0:=bZ 1 1 eQ
def yR:SF:=(retS (a4Y ltD (cJ a7r (aC (op2 ixD (var 0) (cst (.int 1))) (aC (op2 ixD (var 1) (cst (.int 1))) aK))) (cJ b2c (aC (op2 ixD (var 0) (cst (.int 2))) (aC (op2 ixD (var 1) (cst (.int 2))) aK)))))
def a0n:List j0->Mm j0:=bZ 2 2 yR
variable {nm:Str} {z v:Int} {o:List Int}
section
variable {b:Int}
end
section
variable {nm':Str} {b b' z' v':Int} {n':Nat} {o':T0s}
end
abbrev ov (x y:Mt):Prop:=max x.2.1 y.2.1<min x.2.2 y.2.2
def a3L (x y:Mt):a0n [dM x,dM y]=some (.ok (.bool (decide (ov x y)))):=by
 refine aV rfl ?_;show yR [.val (dM x),.val (dM y)]=_;simp [yR]
def b4G (x y:Mt):ov x y↔ov y x:=by unfold ov;rw [Int.max_comm,Int.min_comm]
abbrev fP:EF:=mI (aC (op2 ixD (var 0) (cst (.int 1))) (aC (op1 b4Y (op2 ixD (var 0) (cst (.int 2)))) (aC (op2 ixD (var 0) (cst (.int 0))) aK)))
def gM:SF:=(retS (a4k (var 0) fP))
def eK:List j0->Mm j0:=bZ 1 1 gM
abbrev tS:SF:=b0A 1 .Add (cst (.int 1))
abbrev mZ:TF:=iC inX (var 1) (var 0)
def pA:SF:=(aQ (eZ 1 (cst (.int 0))) (aQ (fM mZ tS 1000) (retS (var 1))))
def pJ:List j0->Mm j0:=bZ 2 1 pA
abbrev eW:EF:=eD (.tp [0,1]) [none,none,some 2] (gC (var 1)) (tV (aX a0n (aC (var 2) (aC (var 0) aK)))) (var 1)
abbrev iD:SF:=aQ (a2U 3 eW) (uH 1 (mI (aC (var 2) (aC (aX pJ (aC (var 3) aK)) aK))))
def iY:SF:=(aQ (a2y 1 aK) (aQ (nZ (.nm 2) (gC (aX eK (aC (var 0) aK))) iD) (a2D 1 (retS (var 1)))))
def fL:List j0->Mm j0:=bZ 4 1 iY
abbrev a1O:EF:=eD (.tp [0,1]) [none,none] (gC (aX fL (aC (var 0) aK))) ttT (mI (aC (op2 ixD (var 0) (cst (.int 0))) (aC (var 1) aK)))
def yU:SF:=(retS (cJ mV (aC a1O aK)))
def oF:List j0->Mm j0:=bZ 1 1 yU
abbrev kL (m:Mt):j0:=.tuple [.int m.2.1,.int (-m.2.2),.str m.1]
def b8d (a b:Mt) (h:kL a=kL b):a=b:=by
 obtain ⟨a1,a2,a3⟩:=a;obtain ⟨b1,b2,b3⟩:=b;injection h with h;injection h with h1 h;injection h with h2 h;injection h with h3 h;injection h1 with h1;injection h2 with h2;injection h3 with h3;have:a3=b3:=Int.neg_inj.mp h2;subst h1 this h3;rfl
def cI (s:List Mt):List Mt:=a6W kL s
def dJ (s:List Mt):(cI s).Perm s:=nQ s
def a5V (s:List Mt):a2n ((cI s).map kL):=by
 unfold cI;rw [a0Z];exact pU (g:=[true,true,false]) _ λd hd=>by obtain ⟨m,_,rfl⟩:=qO.mp hd;rfl
def b9K (h:(s.map (·.1)).Nodup):(s.map kL).Nodup:=by
 rw [zc,jK] at h ⊢;exact h.imp λ{a b} n e=>n (by rw [b8d a b e])
def a6j (nd:(s.map (·.1)).Nodup) (hz:s.length<64):eK [dS s]=some (.ok (.list ((cI s).map dM))):=by
 refine aV rfl ?_;show gM [.val (dS s)]=_;have e:a4k (var 0) fP [.val (dS s)]=some (.ok (.list ((cI s).map dM))):=by
  show lft (a1d fP (s.map dM))=_;rw [a6Z (kf:=kL) (k:=true) (g:=[true,false]) (λm=>rfl) (λm=>rfl) (λm=>rfl) (b9K nd) hz];rfl
 unfold gM;rw [eG,e];rfl
def b5u (c:Int) (ns:T0s):inX (.int c) (.list (ns.map .int))=some (decide (c∈ns)):=by
 show (mF intD (ns.map .int)).map _=_;rw [sW];rfl
theorem a7W {t:T0s} {B:Nat} (hB:¬(B:Int)∈t):∀ (n c:Nat),c<=B->B - c<n->(∀ j<c,(j:Int)∈t)->∃ r:Nat,fM mZ tS n [.val (.list (t.map .int)),.val (.int (c:Nat))]=some (.nx [.val (.list (t.map .int)),.val (.int (r:Nat))])/\r<=B/\¬(r:Int)∈t/\∀ j<r,(j:Int)∈t
 | 0,c,_,h,_=>by omega
 | n+1,c,hc,h,hj=>by
  have t1:mZ [.val (.list (t.map .int)),.val (.int (c:Nat))]=some (.ok (decide ((c:Int)∈t))):=by
   show lft (inX (.int (c:Nat)) (.list (t.map .int)))=_;rw [b5u];rfl
  by_cases hm:(c:Int)∈t
  ·have ne:c≠B:=λz=>hB (z▸hm)
   obtain ⟨r,e,h1,h2,h3⟩:=a7W hB n (c+1) (by omega) (by omega) (λj hjc=>by
    by_cases z:j=c
    ·rw [z];exact hm
    ·exact hj j (by omega))
   refine ⟨r,?_,h1,h2,h3⟩;rw [fM];dsimp only;rw [t1,decide_eq_true hm];exact e
  ·refine ⟨c,?_,hc,hm,hj⟩
   rw [fM];dsimp only;rw [t1,decide_eq_false hm];rfl
def a4V {t:T0s} {B:Nat} (hB:¬(B:Int)∈t) (hb:B<900):∃ r:Nat,pJ [.list (t.map .int)]=some (.ok (.int (r:Nat)))/\r<=B/\¬(r:Int)∈t/\∀ j<r,(j:Int)∈t:=by
 obtain ⟨r,e,h⟩:=a7W hB 1000 0 (qt _) (by omega) (λj hj=>by omega);refine ⟨r,aV rfl ?_,h⟩;show pA [.val (.list (t.map .int)),.no]=_;unfold pA;rw [aJ (ρ':=[.val (.list (t.map .int)),.val (.int ((0:Nat):Int))]) rfl,aJ e];rfl
abbrev Ly:=Mt×Nat
abbrev dY (p:Ly):j0:=.tuple [dM p.1,.int (p.2:Nat)]
def taken (P:List Ly) (m:Mt):List Int:=(P.filter λp=>decide (ov m p.1)).map λp=>(p.2:Int)
def rX:List Ly->List Ly->Prop
 | _,[]=>True
 | P,q::Q=>(¬(q.2:Int)∈taken P q.1/\∀ j<q.2,(j:Int)∈taken P q.1)/\rX (P++[q]) Q
def a9n (S:Ent) (P:List Ly) (m:Mt) (y:Ent) (hP:∀ p∈P,p.2<P.length) (hz:P.length<100):
  ∃ (r:Nat) (y':Ent),iD [S,.lst (P.map dY),.val (dM m),y]=some (.nx [S,.lst ((P++[(m,r)]).map dY),.val (dM m),y'])/\r<=P.length/\¬(r:Int)∈taken P m/\∀ j<r,(j:Int)∈taken P m:=by
 have hB:¬((P.length:Nat):Int)∈taken P m:=λz=>by
  obtain ⟨p,hp,e⟩:=qO.mp z;have:=hP p (qX.mp hp).1;omega
 obtain ⟨r,er,h1,h2,h3⟩:=a4V hB (by omega);have k1:eW (frzAll [S,.lst (P.map dY),.val (dM m),y])=some (.ok (.list ((taken P m).map .int))):=by
  unfold taken;rw [qT]
  exact eX dY (λp=>[.val (dM p.1),.val (.int (p.2:Nat)),.val (dM m)]) (λp=>decide (ov m p.1)) (λp=>.int (p.2:Nat)) P rfl (by omega) (λp _=>rfl) (λp _=>by
   rw [tT,aW (ds:=[dM m,dM p.1]) rfl (a3L m p.1)];rfl) (λp _ _=>rfl)
 have s1:a2U 3 eW [S,.lst (P.map dY),.val (dM m),y]=some (.nx [S,.lst (P.map dY),.val (dM m),.val (.list ((taken P m).map .int))]):=by
  unfold a2U;rw [k1];dsimp only;rw [if_pos (qm.mpr λd hd=>by obtain ⟨i,_,rfl⟩:=qO.mp hd;rfl)];rfl
 refine ⟨r,.val (.list ((taken P m).map .int)),?_,h1,h2,h3⟩;show aQ (a2U 3 eW) _ _=_;rw [aJ s1,sZ (i:=1) (ds:=P.map dY) (d:=dY (m,r)) rfl (by rw [a0T,mX,mX,aW (ds:=[.list ((taken P m).map .int)]) rfl er];rfl) (by rw [qF];omega)];simp
theorem a3l (S:Ent):∀ (l:List Mt) (P:List Ly) (x y:Ent),(∀ p∈P,p.2<P.length)->P.length+l.length<=100->∃ (Q:List Ly) (x' y':Ent),bG (.nm 2) iD (l.map dM) [S,.lst (P.map dY),x,y]=some (.nx [S,.lst ((P++Q).map dY),x',y'])/\Q.map (·.1)=l/\(∀ p∈P++Q,p.2<(P++Q).length)/\rX P Q
 | [],P,x,y,hP,hz=>⟨[],x,y,by rw [jt];rfl,rfl,by rw [jt];exact hP,trivial⟩
 | m::l,P,x,y,hP,hz=>by
  rw [qW] at hz;obtain ⟨r,y1,e1,h1,h2,h3⟩:=a9n S P m y hP (by omega)
  obtain ⟨Q,x',y',e2,h4,h5,h6⟩:=a3l S l (P++[(m,r)]) (.val (dM m)) y1 (λp hp=>by
   rw [qY,jO];rcases qg.mp hp with hp | hp
   ·have:=hP p hp;omega
   ·rw [qH.mp hp];show r<_;omega) (by rw [qY,jO];omega)
  rw [qy] at e2 h5;refine ⟨(m,r)::Q,x',y',?_,by rw [qK,h4],h5,⟨h2,h3⟩,h6⟩;rw [qK,cW (t:=.nm 2) (ρ1:=[S,.lst (P.map dY),.val (dM m),y]) rfl e1];exact e2
structure LayOf (L:List Mt) (P:List Ly):Prop where
 ord:P.map (·.1)=cI L
 low:∀ p∈P,p.2<P.length
 laid:rX [] P
variable {P:List Ly}
theorem LayOf.len (h:LayOf L P):P.length=L.length:=by
 rw [<-qF (f:=(·.1)),h.ord,(dJ L).length_eq]
def b8v (nd:(L.map (·.1)).Nodup) (hz:L.length<64):∃ P,LayOf L P/\fL [dS L]=some (.ok (.list (P.map dY))):=by
 have hl:=(dJ L).length_eq;obtain ⟨Q,x',y',e,h1,h2,h3⟩:=a3l (.val (dS L)) (cI L) [] .no .no (by simp) (by simp;omega);rw [zB] at e h2;refine ⟨Q,⟨h1,h2,h3⟩,aV rfl ?_⟩;show iY [.val (dS L),.no,.no,.no]=_;unfold iY;rw [aJ (ρ':=[.val (dS L),.lst [],.no,.no]) rfl]
 rw [aJ (ρ':=[.val (dS L),.lst (Q.map dY),x',y']) (by
  rw [iX,oM (aW (ds:=[dS L]) rfl (a6j nd hz)) rfl]
  exact e)]
 rfl
def b5R (P:List Ly):j0:=dD (P.map λp=>(.inr p.1.1,.int (p.2:Nat)))
theorem LayOf.nd {L:List Mt} {P:List Ly} (h:LayOf L P) (nd:(L.map (·.1)).Nodup):(P.map λp=>p.1.1).Nodup:=by
 have:P.map (λp=>p.1.1)=(cI L).map (·.1):=by rw [<-h.ord,qT];rfl
 rw [this];exact ((dJ L).map (·.1)).nodup_iff.mpr nd
def a6l {xs:T0l} (h:mF a3d xs=some kvs) (nd:(kvs.map (·.1)).Nodup) (hz:kvs.length<=1000):mV [.list xs]=some (dD kvs):=by
 unfold mV;dsimp only;rw [h];dsimp only;rw [if_pos (by rw [qL,decide_eq_true_eq,decide_eq_true_eq];exact ⟨nd,hz⟩)]
def b0i (nd:(L.map (·.1)).Nodup) (hz:L.length<64):∃ P,LayOf L P/\fL [dS L]=some (.ok (.list (P.map dY)))/\oF [dS L]=some (.ok (b5R P)):=by
 obtain ⟨P,hP,e⟩:=b8v nd hz;refine ⟨P,hP,e,aV rfl ?_⟩;have hl:=hP.len;show yU [.val (dS L)]=_;have k1:a1O [.val (dS L)]=some (.ok (.list (P.map λp=>.tuple [.str p.1.1,.int (p.2:Nat)]))):=
  cN dY (λp=>[.val (dM p.1),.val (.int (p.2:Nat))]) (λp=>.tuple [.str p.1.1,.int (p.2:Nat)]) P (oM (aW (ds:=[dS L]) rfl e) rfl) (by omega) (λp _=>rfl) (λp _=>rfl)
 have ad:mF a3d (P.map λp=>.tuple [.str p.1.1,.int (p.2:Nat)])=some (P.map λp=>(zY p.1.1,.int (p.2:Nat))):=by
  have:(P.map λp=>vd [.str p.1.1,.int (p.2:Nat)])=(P.map λp=>((zY p.1.1:Key),jg (p.2:Nat))).map λq=>.tuple [dX q.1,q.2]:=by rw [qT];rfl
  rw [this,iS (g:=λq:Key×j0=>.tuple [dX q.1,q.2]) (λq=>by show (oC (dX q.1)).map (·,q.2)=_;rw [fV];rfl)]
 have dd:mV [.list (P.map λp=>.tuple [.str p.1.1,.int (p.2:Nat)])]=some (b5R P):=by
  refine a6l ad ?_ (by rw [qF];omega);have nk:=hP.nd nd;rw [qT];rw [zc,jK] at nk ⊢;exact nk.imp λ{a b} n z=>n (zw z)
 unfold yU;rw [eG,gP (ds:=[.list (P.map λp=>.tuple [.str p.1.1,.int (p.2:Nat)])]) (by rw [mX,k1];rfl) dd];rfl
def a3Q:List Ly->Str->Nat
 | [],_=>0
 | p::P,x=>if p.1.1=x then p.2 else a3Q P x
theorem gZ {α:Type} [DecidableEq α]:∀ {l m:List α},l.Nodup->(∀ x∈l,x∈m)->l.length<=m.length
 | [],m,_,_=>qt _
 | a::r,m,nd,h=>by
  rw [kA] at nd;have ha:=h a (by simp);have:=gZ (l:=r) (m:=m.erase a) nd.2 λx hx=>(List.mem_erase_of_ne (λz:x=a=>nd.1 (by rw [<-z];exact hx))).mpr (h x (qE _ hx));rw [List.length_erase_of_mem ha] at this;have hp:0<m.length:=List.length_pos_of_mem ha;rw [qW];omega
def b6f {cs:T0t} (nd:cs.Nodup) (h:n<cs.length):∃ c∈cs,n<=c:=by
 apply zP;intro z;have:=gZ (m:=qV n) nd λx hx=>qo.mpr (Nat.lt_of_not_le λq=>z ⟨x,hx,q⟩);rw [qx] at this;omega
def a0v (s:List Mt):(cI s).Pairwise (λa b=>a.2.1<=b.2.1):=by
 have h:=a5V s;unfold a2n at h;rw [jK] at h;refine h.imp λ{a b} z=>?_;have z:(if eqC (.int b.2.1) (.int a.2.1) then ltR [.int (-b.2.2),.str b.1] [.int (-a.2.2),.str a.1] else decide (b.2.1<a.2.1))=false:=z;by_cases c:b.2.1=a.2.1
 ·omega
 ·rw [if_neg (by simpa [eqC] using c),decide_eq_false_iff_not] at z
  omega
theorem a8D:∀ (Q P:List Ly),rX P Q->P.Pairwise (λp q=>ov q.1 p.1->p.2≠q.2)->(P++Q).Pairwise (λp q=>ov q.1 p.1->p.2≠q.2)
 | [],P,_,h=>by rw [jt];exact h
 | q::Q,P,hl,h=>by
  obtain ⟨⟨h1,_⟩,h2⟩:=hl
  have:=a8D Q (P++[q]) h2 (zr.mpr ⟨h,zT _ _,λp hp r hr=>by
   rw [qH] at hr;subst hr
   exact λo e=>h1 (qO.mpr ⟨p,qX.mpr ⟨hp,decide_eq_true o⟩,by rw [e]⟩)⟩)
  rw [qy] at this;exact this
theorem a5X:∀ (Q P:List Ly),rX P Q->(P++Q).Pairwise (λp q=>p.1.2.1<=q.1.2.1)->∀ q∈Q,∀ j<q.2,∃ p∈P++Q,p.2=j/\ov q.1 p.1/\p.1.2.1<=q.1.2.1
 | [],P,_,_,q,hq,_,_=>by cases hq
 | x::Q,P,hl,hb,q,hq,j,hj=>by
  obtain ⟨⟨_,h1⟩,h2⟩:=hl;rcases qI.mp hq with rfl | hq
  ·obtain ⟨p,hp,e⟩:=qO.mp (h1 j hj)
   obtain ⟨hp,ho⟩:=qX.mp hp;refine ⟨p,jA _ hp,by omega,of_decide_eq_true ho,?_⟩;exact (zr.mp hb).2.2 p hp q (by simp)
  ·have e:P++x::Q=(P++[x])++Q:=by simp
   rw [e] at hb ⊢;exact a5X Q (P++[x]) h2 hb q hq j hj
variable {q:Ly}
theorem LayOf.begins (h:LayOf L P):P.Pairwise (λp q=>p.1.2.1<=q.1.2.1):=by
 have:=a0v L;rw [<-h.ord,jK] at this;exact this
theorem LayOf.diff (h:LayOf L P):P.Pairwise (λp q=>ov q.1 p.1->p.2≠q.2):=by
 have:=a8D P [] h.laid .nil;simpa using this
theorem LayOf.sup (h:LayOf L P) (hq:q∈P) (hj:j<q.2):∃ p∈P,p.2=j/\ov q.1 p.1/\p.1.2.1<=q.1.2.1:=by
 have:=a5X P [] h.laid (by simpa using h.begins) q hq j hj;simpa using this
theorem LayOf.perm (h:LayOf L P):(P.map (·.1)).Perm L:=by rw [h.ord];exact dJ L
def atP (d:Int) (P:List Ly):List Ly:=P.filter λp=>cQ d p.1
def gK {d:Int} {m:Mt}:cQ d m=true↔m.2.1<=d/\d<m.2.2:=by unfold cQ;simp
def LayOf.nodupAt (h:LayOf L P) (d:Int):((atP d P).map (·.2)).Nodup:=by
 unfold atP;rw [zc,jK];refine List.Pairwise.imp_of_mem (λ{p q} hp hq z=>z ?_) (h.diff.filter _);have h1:=gK.mp (qX.mp hp).2;have h2:=gK.mp (qX.mp hq).2;unfold ov;omega
theorem LayOf.load (h:LayOf L P) (d:Int):bB L d=((atP d P).length:Nat):=by
 unfold bB fI atP;rw [qF,<-(h.perm.filter (cQ d)).length_eq,List.filter_map,qF];rfl
theorem LayOf.up (h:LayOf L P) (hp:∀ m∈L,m.2.1<m.2.2) (hq:q∈P):q.2+1<=(atP q.1.2.1 P).length:=by
 have hqL:q.1∈L:=h.perm.mem_iff.mp (qi hq);have:=gZ (l:=qV (q.2+1)) (m:=(atP q.1.2.1 P).map (·.2)) List.nodup_range λj hj=>by
  have hj:=qo.mp hj;by_cases c:j<q.2
  ·obtain ⟨p,h1,h2,h3,h4⟩:=h.sup hq c
   refine qO.mpr ⟨p,qX.mpr ⟨h1,gK.mpr ⟨h4,?_⟩⟩,h2⟩;unfold ov at h3;omega
  ·have:j=q.2:=by omega
   subst this;exact qO.mpr ⟨q,qX.mpr ⟨hq,gK.mpr ⟨jd _,hp q.1 hqL⟩⟩,rfl⟩
 simpa using this
theorem LayOf.down (h:LayOf L P) {d:Int} (hj:j<(atP d P).length):j∈P.map (·.2):=by
 obtain ⟨c,hc,hle⟩:=b6f (h.nodupAt d) (n:=j) (by rw [qF];exact hj);obtain ⟨q,hq,rfl⟩:=qO.mp hc;have hq:=(qX.mp hq).1;by_cases z:j<q.2
 ·obtain ⟨p,h1,h2,_⟩:=h.sup hq z
  exact qO.mpr ⟨p,h1,h2⟩
 ·have:j=q.2:=by omega
  subst this;exact qi hq
theorem a2e:∀ {P:List Ly},(P.map λp=>p.1.1).Nodup->∀ p∈P,a3Q P p.1.1=p.2
 | [],_,p,h=>by cases h
 | q::P,nd,p,h=>by
  rw [qK,kA] at nd;unfold a3Q;rcases qI.mp h with rfl | h
  ·rw [if_pos rfl]
  ·rw [if_neg (λz:q.1.1=p.1.1=>nd.1 (by rw [z];exact qi (f:=λp:Ly=>p.1.1) h))]
   exact a2e nd.2 p h
def aY (L:List Mt):Int:=if L=[] then 0 else a5J (L.map λx=>bB L x.2.1)
def b2X (s:List Mt) (hz:s.length<=1000):dP [dS s]=some (.ok (.int (aY s))):=by
 have k1:iW [.val (dS s)]=some (.ok (.list ((s.map λx=>bB s x.2.1).map .int))):=by
  rw [qT];exact cN dM (λx=>[.val (.str x.1),.val (.int x.2.1),.val (.int x.2.2),.val (dS s)]) (λx=>.int (bB s x.2.1)) s (by simp) (by omega) (λx _=>by simp [cU]) (λx _=>aW (ds:=[dS s,.int x.2.1]) rfl (b0g s x.2.1 (by omega)))
 refine aV rfl ?_;show eQ [.val (dS s)]=_;unfold eQ
 rw [eG,b6I (x:=.list ((s.map λx=>bB s x.2.1).map .int)) (y:=.int 0) k1 rfl (d:=.int (aY s)) (by
  unfold a5K aY;dsimp only;rw [sW];cases s with
  | nil=>rfl
  | cons a r=>rfl)]
 rfl
def a5T (L:List Mt) (d:Int):0<=bB L d:=by unfold bB;omega
def a8w (L:List Mt) (d:Int):bB L d<=aY L:=by
 by_cases e:L=[]
 ·subst e;unfold aY;rw [if_pos rfl];exact jd _
 ·unfold aY
  rw [if_neg e];by_cases z:L.filter (cQ d)=[]
  ·have h0:bB L d=0:=by unfold bB fI;rw [z];rfl
   rw [h0];have hm:=a1C (ns:=L.map λx=>bB L x.2.1) (by simp [e]);obtain ⟨x,_,hx⟩:=qO.mp hm;rw [<-hx];exact a5T _ _
  ·have hm:=a1C (ns:=(L.filter (cQ d)).map (·.2.1)) (by simp [z])
   obtain ⟨x,hx,hxe⟩:=qO.mp hm;obtain ⟨hxL,hxd⟩:=qX.mp hx;have hxd:=gK.mp hxd;have le:bB L d<=bB L x.2.1:=by
    unfold bB fI;rw [qF,qF];have:(L.filter (cQ d)).length<=(L.filter (cQ x.2.1)).length:=by
     have:L.filter (cQ d)=(L.filter (cQ x.2.1)).filter (cQ d):=by
      rw [List.filter_filter];refine List.filter_congr λm hm=>?_;rw [zV,qL];constructor
      ·intro h
       refine ⟨h,gK.mpr ?_⟩;have hd:=gK.mp h;have:=a8y (ns:=(L.filter (cQ d)).map (·.2.1)) (qO.mpr ⟨m,qX.mpr ⟨hm,h⟩,rfl⟩);omega
      ·exact λh=>h.1
     rw [this];exact zm _ _
    omega
   exact km le (a8y (qO.mpr ⟨x,hxL,rfl⟩))
def a8x (L:List Mt):aY L=0\/∃ m∈L,aY L=bB L m.2.1:=by
 by_cases e:L=[]
 ·left;unfold aY;rw [if_pos e]
 ·right
  unfold aY;rw [if_neg e];obtain ⟨x,hx,h⟩:=qO.mp (a1C (ns:=L.map λx=>bB L x.2.1) (by simp [e]));exact ⟨x,hx,h.symm⟩
theorem LayOf.used (h:LayOf L P) (hp:∀ m∈L,m.2.1<m.2.2) (j:Nat):j∈P.map (·.2)↔(j:Int)<aY L:=by
 constructor
 ·intro hj
  obtain ⟨q,hq,rfl⟩:=qO.mp hj;have h1:=h.up hp hq;have h2:=a8w L q.1.2.1;rw [h.load] at h2;omega
 ·intro hj
  rcases a8x L with z | ⟨m,_,z⟩
  ·omega
  ·rw [z,h.load] at hj
   exact h.down (d:=m.2.1) (by omega)
def gW:List Mt->List Mt->Int->List (List Mt)
 | [],cur,_=>[cur]
 | m::l,cur,reach=>if m.2.1<reach then gW l (cur++[m]) (max reach m.2.2) else cur::gW l [m] m.2.2
def bL:List Mt->List (List Mt)
 | []=>[]
 | m::l=>gW l [m] m.2.2
theorem oY:∀ (l cur:List Mt) (r:Int),(gW l cur r).flatten=cur++l
 | [],cur,r=>by simp [gW]
 | m::l,cur,r=>by
  unfold gW;split
  ·rw [oY l];simp
  ·rw [wT,oY l];rfl
def hV (l:List Mt):(bL l).flatten=l:=by
 cases l with
 | nil=>rfl
 | cons m l=>exact oY l [m] _
structure Rch (cur:List Mt) (r:Int):Prop where
 top:∀ a∈cur,a.2.2<=r
 at':∃ a∈cur,a.2.2=r
theorem Rch.one (m:Mt):Rch [m] m.2.2:=⟨λa h=>by rw [qH.mp h];exact jd _,m,by simp,rfl⟩
theorem Rch.more {cur:List Mt} {r:Int} (h:Rch cur r) (m:Mt):Rch (cur++[m]) (max r m.2.2):=by
 refine ⟨λa ha=>?_,?_⟩
 ·rcases qg.mp ha with ha | ha
  ·have:=h.top a ha;omega
  ·rw [qH.mp ha];omega
 ·obtain ⟨a,ha,e⟩:=h.at'
  by_cases c:r<=m.2.2
  ·exact ⟨m,by simp,by omega⟩
  ·exact ⟨a,jA _ ha,by omega⟩
theorem rM:∀ (l cur:List Mt) (r:Int),Rch cur r->(cur++l).Pairwise (λa b=>a.2.1<=b.2.1)->(gW l cur r).Pairwise λA B=>∀ a∈A,∀ b∈B,a.2.2<=b.2.1
 | [],cur,r,_,_=>by unfold gW;exact zT _ _
 | m::l,cur,r,h,hb=>by
  unfold gW;split
  ·refine rM l _ _ (h.more m) ?_
   rw [qy];exact hb
  ·rename_i c
   have hb':([m]++l).Pairwise (λa b=>a.2.1<=b.2.1):=(zr.mp hb).2.1;refine .cons (λB hB a ha b hb2=>?_) (rM l [m] m.2.2 (.one m) hb');have hm:b∈m::l:=by
    have:b∈(gW l [m] m.2.2).flatten:=zp.mpr ⟨B,hB,hb2⟩;rw [oY] at this;exact this
   have h1:=h.top a ha;rcases qI.mp hm with rfl | hm
   ·omega
   ·have:=(jV.mp hb').1 b hm
    omega
def b0C:List Mt->List Mt->Prop
 | _,[]=>True
 | A,m::l=>(∃ a∈A,m.2.1<a.2.2)/\b0C (A++[m]) l
theorem a3H:∀ (l A:List Mt) (m:Mt),b0C A l->(∃ a∈A++l,m.2.1<a.2.2)->b0C A (l++[m])
 | [],A,m,_,h=>⟨by simpa using h,trivial⟩
 | x::l,A,m,h,hm=>⟨h.1,a3H l (A++[x]) m h.2 (by simpa using hm)⟩
theorem uE:∀ (l:List Mt) (x:Mt) (cur:List Mt) (r:Int),Rch (x::cur) r->b0C [x] cur->∀ A∈gW l (x::cur) r,∃ y t,A=y::t/\b0C [y] t
 | [],x,cur,r,_,h,A,hA=>by
  unfold gW at hA;rw [qH] at hA;exact ⟨x,cur,hA,h⟩
 | m::l,x,cur,r,hr,h,A,hA=>by
  unfold gW at hA;split at hA
  ·rename_i c
   obtain ⟨a,ha,e⟩:=hr.at';exact uE l x (cur++[m]) _ (hr.more m) (a3H cur [x] m h ⟨a,by simpa using ha,by omega⟩) A hA
  ·rcases qI.mp hA with rfl | hA
   ·exact ⟨x,cur,rfl,h⟩
   ·exact uE l m [] _ (.one m) trivial A hA
variable {l:List Mt}
def a6f (hb:l.Pairwise (λa b=>a.2.1<=b.2.1)):(bL l).Pairwise λA B=>∀ a∈A,∀ b∈B,a.2.2<=b.2.1:=by
 cases l with
 | nil=>exact .nil
 | cons m l=>exact rM l [m] _ (.one m) hb
def a1U:∀ A∈bL l,∃ y t,A=y::t/\b0C [y] t:=by
 cases l with
 | nil=>intro A h;cases h
 | cons m l=>exact uE l m [] _ (.one m) trivial
variable {A:List Mt}
def b2G (hb:l.Pairwise (λa b=>a.2.1<=b.2.1)) (hA:(bL l)[i]?=some A) (hB:(bL l)[j]?=some B) {a b:Mt} (ha:a∈A) (hb':b∈B) (ho:ov a b):i=j:=by
 have pw:=a6f hb;rw [jy] at pw;obtain ⟨h1,e1⟩:=qR.mp hA;obtain ⟨h2,e2⟩:=qR.mp hB;unfold ov at ho;rcases vS i j with c | c | c
 ·have:=pw i j h1 h2 c a (by rw [e1];exact ha) b (by rw [e2];exact hb')
  omega
 ·exact c
 ·have:=pw j i h2 h1 c b (by rw [e2];exact hb') a (by rw [e1];exact ha)
  omega
theorem Paired.app {α β:Type} {F:α->β->Prop} {a:α} {b:β} (h:F a b):∀ {l:List α} {m:List β},Paired F l m->Paired F (l++[a]) (m++[b])
 | _,_,.nil=>.cons h .nil
 | _,_,.cons r t=>.cons r (Paired.app h t)
theorem Paired.unapp {α β:Type} {F:α->β->Prop} {m:List β} {b:β}:∀ {l:List α},Paired F l (m++[b])->∃ l' a,l=l'++[a]/\Paired F l' m/\F a b:=by
 induction m with
 | nil=>
  intro l h;cases h with
  | cons r t=>cases t;exact ⟨[],_,rfl,.nil,r⟩
 | cons c m ih=>
  intro l h;cases h with
  | cons r t=>
   obtain ⟨l',a,e,p,f⟩:=ih t;exact ⟨_::l',a,by rw [e];rfl,.cons r p,f⟩
section
variable {K:qB}
theorem RepS.ownN (R:RepS K H0 Gz G H σ ρ) (h:ρ[i]?=some (.nst dss)):∃ a bs,σ[i]?=some (some (.ref a))/\H a=some (.lst (bs.map V.ref))/\G a=none/\H0 a=none/\a∉bs/\bs.Nodup/\Paired (b8T K H0 G H) bs dss:=by
 obtain ⟨o,e,a,bs,rfl,r⟩:=R.at h;exact ⟨a,bs,e,r⟩
def RepS.freshN {p:Addr} (R:RepS K H0 Gz G H σ ρ) (h:H p=none) (hno:∀ (j:Nat) (dss:List (List j0)),ρ[j]?=some (.nst dss)->j=i):RepS K H0 Gz G (upd H p (.lst [])) (σ.set i (some (.ref p))) (ρ.set i (.nst [])):=by
 have R':=R.more (Grow.side (o:=.lst []) R.sub h);refine ⟨R'.grow,by simp [R.len],λj o e h1 h2=>?_,⟨λj k a ds es n h1 h2 h3 h4=>?_,λj k a a' ds dss h1 h2 h3 h4=>?_,λj k dss ess h1 h2=>?_,λj k ks ls q1 q2=>?_⟩,R'.tab⟩
 ·rcases aF h1 with ⟨rfl,rfl,_⟩ | ⟨n,h1⟩
  ·rcases aF h2 with ⟨_,rfl,_⟩ | ⟨n,_⟩
   ·exact ⟨p,[],rfl,aH,R.sub.free h,R.grow.hh.free h,by simp,List.nodup_nil,.nil⟩
   ·exact absurd rfl n
  ·rcases aF h2 with ⟨z,_⟩ | ⟨_,h2⟩
   ·exact absurd z n
   ·exact R'.ent j o e h1 h2
 ·rcases aF h2 with ⟨_,z,_⟩ | ⟨n2,h2⟩
  ·cases z
  ·rcases aF h4 with ⟨_,z,_⟩ | ⟨n4,h4⟩
   ·cases z
   ·rw [qj (jT n2)] at h1
    rw [qj (jT n4)] at h3;exact R.inj.two j k a ds es n h1 h2 h3 h4
 ·rcases aF h2 with ⟨_,z,_⟩ | ⟨n2,h2n⟩
  ·cases z
  ·rw [qj (jT n2)] at h1
   rcases aF h4 with ⟨rfl,_,_⟩ | ⟨n4,h4⟩
   ·rcases aF h3 with ⟨_,z,_⟩ | ⟨n,_⟩
    ·cases z
     obtain ⟨b,xs,e,g1,_⟩:=R.own h2n;rw [h1] at e;cases e;exact ⟨aO g1 h,λvs e=>by rw [aH] at e;cases e;simp⟩
    ·exact absurd rfl n
   ·exact absurd (hno k dss h4) n4
 ·have hi:∀ (j:Nat) (dss:List (List j0)),(ρ.set i (.nst []))[j]?=some (.nst dss)->j=i:=λj dss h1=>by
   rcases aF h1 with ⟨z,_,_⟩ | ⟨_,h1⟩
   ·exact z
   ·exact hno j dss h1
  rw [hi j dss h1,hi k ess h2]
 ·have od:∀ (j:Nat) (ks:List (Key×j0)),(ρ.set i (.nst []))[j]?=some (.dct ks)->ρ[j]?=some (.dct ks):=λj ks q=>by
   rcases aF q with ⟨_,z,_⟩ | ⟨_,q⟩
   ·cases z
   ·exact q
  exact R.inj.oneD j k ks ls (od j ks q1) (od k ls q2)
theorem RepS.pushN {p:Addr} {bs:T0o} (R:RepS K H0 Gz G H σ ρ) (h:ρ[i]?=some (.nst dss)) (e:σ[i]?=some (some (.ref a))) (ha:H a=some (.lst (bs.map V.ref))) (hp:H p=none) (r:RepAll K G xs ds):
  RepS K H0 Gz G (upd (upd H p (.lst xs)) a (.lst ((bs++[p]).map V.ref))) σ (ρ.set i (.nst (dss++[ds]))):=by
 obtain ⟨a',bs',e',h1,h2,h3,h4,h5,rv⟩:=R.ownN h;rw [e] at e';cases e';have eb:bs'=bs:=by
  rw [ha] at h1;have:bs.map V.ref=bs'.map V.ref:=by injection h1 with z;injection z
  exact (vG (λ_ _ z=>by cases z;rfl)).mp this.symm
 subst eb;have R1:=R.more (Grow.side (o:=.lst xs) R.sub hp);have nap:a≠p:=aO ha hp;have hb:∀ b∈bs',∃ ys,H b=some (.lst ys):=λb hb=>by
  obtain ⟨_,ys,y,_⟩:=sN rv hb;exact ⟨ys,y⟩
 have nbp:∀ b∈bs',b≠p:=λb hm=>by obtain ⟨ys,y⟩:=hb b hm;exact aO y hp
 have nba:∀ b∈bs',b≠a:=λb hm z=>h4 (z▸hm);have H1a:(upd H p (.lst xs)) a=some (.lst (bs'.map V.ref)):=by rw [aE nap];exact ha
 refine ⟨⟨R1.grow.gg,R1.grow.hh.wr h3 H1a,λb o q=>?_,R1.grow.new,R1.grow.nt⟩,by simp [R.len],λj o e' q1 q2=>?_,⟨λj k b es fs n q1 q2 q3 q4=>?_,λj k b b' es ess q1 q2 q3 q4=>?_,λj k es fs q1 q2=>?_,λj k ks ls q1 q2=>?_⟩,R1.tab.wr H1a⟩
 ·rw [aE (aO q h2)];exact R1.sub b o q
 ·rcases aF q2 with ⟨rfl,rfl,_⟩ | ⟨nj,q2⟩
  ·rw [e] at q1;cases q1
   refine ⟨a,bs'++[p],rfl,aH,h2,h3,?_,?_,Paired.app ⟨xs,by rw [aE (jT nap)];exact aH,R.sub.free hp,R.grow.hh.free hp,r⟩ (eN rv λb dd hm ⟨ys,y1,y2,y3,y4⟩=>⟨ys,by rw [aE (nba b hm),aE (nbp b hm)];exact y1,y2,y3,y4⟩)⟩
   ·simp only [qg,qH,not_or]
    exact ⟨h4,nap⟩
   ·rw [kO]
    exact ⟨h5,by simp,λb hm c hc=>by rw [qH.mp hc];exact nbp b hm⟩
  ·have E:=R1.ent j o e' q1 q2
   cases e' with
   | no=>trivial
   | val d=>exact E
   | exc c=>obtain ⟨b,C,z,g1,g2⟩:=E;exact ⟨b,C,z,g1,by rw [aE (cO g2 H1a (by unfold xcO;nofun))];exact g2⟩
   | lst es=>
    obtain ⟨b,ys,z,g1,g2,g3,rv'⟩:=E;subst z;have m1:=(R.inj.mix j i b a es dss q1 q2 e h).1;exact ⟨b,ys,rfl,by rw [aE m1];exact g1,g2,g3,rv'⟩
   | nst es=>exact absurd (R.inj.one j i es dss q2 h) nj
   | dct ks=>
    obtain ⟨b,ws,z,g1,g2,g3,rv'⟩:=E;exact ⟨b,ws,z,by rw [aE (cO g1 H1a (by nofun))];exact g1,g2,g3,rv'⟩
   | seen w ks=>exact rW.wr E H1a (by nofun)
 ·rcases aF q2 with ⟨_,z,_⟩ | ⟨_,q2⟩
  ·cases z
  ·rcases aF q4 with ⟨_,z,_⟩ | ⟨_,q4⟩
   ·cases z
   ·exact R.inj.two j k b es fs n q1 q2 q3 q4
 ·rcases aF q2 with ⟨_,z,_⟩ | ⟨_,q2n⟩
  ·cases z
  ·have ki:k=i:=by
    rcases aF q4 with ⟨z,_,_⟩ | ⟨_,q4⟩
    ·exact z
    ·exact R.inj.one k i ess dss q4 h
   subst ki;rw [e] at q3;cases q3;obtain ⟨m1,m2⟩:=R.inj.mix j k b a es dss q1 q2n e h;obtain ⟨b2,ys,e2,g1,_⟩:=R.own q2n;rw [q1] at e2;cases e2;refine ⟨m1,λvs z=>?_⟩;rw [aH] at z;cases z;rw [qZ,qg,not_or];refine ⟨m2 _ ha,λz=>?_⟩;have:b=p:=by simpa using z
   exact aO g1 hp this
 ·have hi:∀ (j:Nat) (es:List (List j0)),(ρ.set i (.nst (dss++[ds])))[j]?=some (.nst es)->j=i:=λj es q1=>by
   rcases aF q1 with ⟨z,_,_⟩ | ⟨_,q1⟩
   ·exact z
   ·exact R.inj.one j i es dss q1 h
  rw [hi j es q1,hi k fs q2]
 ·have od:∀ (j:Nat) (ks:List (Key×j0)),(ρ.set i (.nst (dss++[ds])))[j]?=some (.dct ks)->ρ[j]?=some (.dct ks):=λj ks q=>by
   rcases aF q with ⟨_,z,_⟩ | ⟨_,q⟩
   ·cases z
   ·exact q
  exact R.inj.oneD j k ks ls (od j ks q1) (od k ls q2)
theorem RepS.lastN {b:Addr} {bs:T0o} {ds':T0l} (R:RepS K H0 Gz G H σ ρ) (h:ρ[i]?=some (.nst (dss++[ds]))) (e:σ[i]?=some (some (.ref a))) (ha:H a=some (.lst ((bs++[b]).map V.ref))) (r:RepAll K G xs ds'):
  RepS K H0 Gz G (upd H b (.lst xs)) σ (ρ.set i (.nst (dss++[ds']))):=by
 obtain ⟨a',bs',e',h1,h2,h3,h4,h5,rv⟩:=R.ownN h;rw [e] at e';cases e';have eb:bs'=bs++[b]:=by
  rw [ha] at h1;have:(bs++[b]).map V.ref=bs'.map V.ref:=by injection h1 with z;injection z
  exact (vG (λ_ _ z=>by cases z;rfl)).mp this.symm
 subst eb;obtain ⟨l',c,el,pv,ys,y1,y2,y3,y4⟩:=Paired.unapp rv;have ec:bs=l'/\b=c:=by
  have:=List.append_inj' el rfl;exact ⟨this.1,by simpa using this.2⟩
 obtain ⟨rfl,rfl⟩:=ec;have nab:a≠b:=λz=>h4 (by simp [z]);have nd:b∉bs:=λz=>by
  rw [kO] at h5;exact h5.2.2 b z b (by simp) rfl
 refine ⟨⟨R.grow.gg,R.grow.hh.wr y3 y1,λb o q=>?_,R.grow.new,R.grow.nt⟩,by simp [R.len],λj o e' q1 q2=>?_,⟨λj k b' es fs n q1 q2 q3 q4=>?_,λj k c c' es ess q1 q2 q3 q4=>?_,λj k es fs q1 q2=>?_,λj k ks ls q1 q2=>?_⟩,R.tab.wr y1⟩
 ·rw [aE (aO q y2)];exact R.sub _ o q
 ·rcases aF q2 with ⟨rfl,rfl,_⟩ | ⟨nj,q2⟩
  ·rw [e] at q1;cases q1
   exact ⟨a,bs++[b],rfl,by rw [aE nab];exact ha,h2,h3,h4,h5,Paired.app ⟨xs,aH,y2,y3,r⟩ (eN pv λc dd hm ⟨zs,z1,z2,z3,z4⟩=>⟨zs,by rw [aE (λz:c=b=>nd (z▸hm))];exact z1,z2,z3,z4⟩)⟩
  ·have E:=R.ent j o e' q1 q2
   cases e' with
   | no=>trivial
   | val d=>exact E
   | exc c=>obtain ⟨c',C,z,g1,g2⟩:=E;exact ⟨c',C,z,g1,by rw [aE (cO g2 y1 (by unfold xcO;nofun))];exact g2⟩
   | lst es=>
    obtain ⟨c,zs,z,g1,g2,g3,rv'⟩:=E;subst z;have m2:=(R.inj.mix j i c a es _ q1 q2 e h).2 _ ha;have ncb:c≠b:=λz=>m2 (by simp [z]);exact ⟨c,zs,rfl,by rw [aE ncb];exact g1,g2,g3,rv'⟩
   | nst es=>exact absurd (R.inj.one j i es _ q2 h) nj
   | dct ks=>
    obtain ⟨c,ws,z,g1,g2,g3,rv'⟩:=E;exact ⟨c,ws,z,by rw [aE (cO g1 y1 (by nofun))];exact g1,g2,g3,rv'⟩
   | seen w ks=>exact rW.wr E y1 (by nofun)
 ·rcases aF q2 with ⟨_,z,_⟩ | ⟨_,q2⟩
  ·cases z
  ·rcases aF q4 with ⟨_,z,_⟩ | ⟨_,q4⟩
   ·cases z
   ·exact R.inj.two j k b' es fs n q1 q2 q3 q4
 ·rcases aF q2 with ⟨_,z,_⟩ | ⟨_,q2n⟩
  ·cases z
  ·have ki:k=i:=by
    rcases aF q4 with ⟨z,_,_⟩ | ⟨_,q4⟩
    ·exact z
    ·exact R.inj.one k i ess _ q4 h
   subst ki;rw [e] at q3;cases q3;obtain ⟨m1,m2⟩:=R.inj.mix j k c a es _ q1 q2n e h;exact ⟨m1,λvs z=>by rw [aE nab] at z;exact m2 vs z⟩
 ·have hi:∀ (j:Nat) (es:List (List j0)),(ρ.set i (.nst (dss++[ds'])))[j]?=some (.nst es)->j=i:=λj es q1=>by
   rcases aF q1 with ⟨z,_,_⟩ | ⟨_,q1⟩
   ·exact z
   ·exact R.inj.one j i es _ q1 h
  rw [hi j es q1,hi k fs q2]
 ·have od:∀ (j:Nat) (ks:List (Key×j0)),(ρ.set i (.nst (dss++[ds'])))[j]?=some (.dct ks)->ρ[j]?=some (.dct ks):=λj ks q=>by
   rcases aF q with ⟨_,z,_⟩ | ⟨_,q⟩
   ·cases z
   ·exact q
  exact R.inj.oneD j k ks ls (od j ks q1) (od k ls q2)
theorem a3G {G':Hp} (gg:bJ G G') (hG:∀ b,(∃ xs,H b=some (.lst xs))->True):∀ {bs:T0o} {dss:List (List j0)},Paired (b8T K H0 G H) bs dss->(∀ b∈bs,G' b=H b)->RepAll K G' (bs.map V.ref) (dss.map ky)
 | _,_,.nil,_=>.nil
 | _,_,.cons ⟨xs,x1,x2,x3,x4⟩ t,h=>.cons (.list (.of (by rw [h _ qf];exact x1)) (x4.mono gg)) (a3G gg hG t λb hb=>h b (qE _ hb))
def RepS.freezeN (R:RepS K H0 Gz G H σ ρ) (h:ρ[i]?=some (.nst dss)):∃ G',bJ G G'/\RepS K H0 Gz G' H σ (ρ.set i (.val (.list (dss.map .list)))):=by
 classical
 obtain ⟨a,bs,e,h1,h2,h3,h4,h5,rv⟩:=R.ownN h;have gn:∀ c∈a::bs,G c=none/\H0 c=none/\∃ ys,H c=some (.lst ys):=λc hc=>by
  rcases qI.mp hc with rfl | hc
  ·exact ⟨h2,h3,_,h1⟩
  ·obtain ⟨_,ys,y1,y2,y3,_⟩:=sN rv hc
   exact ⟨y2,y3,ys,y1⟩
 have gg:bJ G (λc=>if c∈a::bs then H c else G c):=λc o q=>by
  show (if c∈a::bs then H c else G c)=some o;rw [if_neg (λz=>by rw [(gn c z).1] at q;cases q)];exact q
 refine ⟨λc=>if c∈a::bs then H c else G c,gg,⟨⟨R.grow.gg.trans gg,R.grow.hh,λc o q=>?_,λc q n=>?_,λn c ps=>?_⟩,by simp [R.len],λj o e' q1 q2=>?_,R.inj.sub λj e' q1 q2=>?_,R.tab.1,λc ps=>?_⟩⟩
 ·have q:(if c∈a::bs then H c else G c)=some o:=q
  split at q
  ·exact q
  ·exact R.sub c o q
 ·show (if c∈a::bs then H c else G c)=none
  rw [if_neg (λz=>n (gn c z).2.1)];exact R.grow.new c q n
 ·show (if c∈a::bs then H c else G c)≠_
  split
  ·rename_i hc
   obtain ⟨ys,y⟩:=(gn c hc).2.2;rw [y];nofun
  ·exact R.grow.nt n c ps
 ·rcases aF q2 with ⟨rfl,rfl,_⟩ | ⟨nj,q2⟩
  ·rw [e] at q1;cases q1
   exact ⟨.ref a,rfl,.list (.of (by show (if a∈a::bs then H a else G a)=_;rw [if_pos qf];exact h1)) (a3G gg (λ_ _=>trivial) rv λb hb=>by show (if b∈a::bs then H b else G b)=_;rw [if_pos (qE _ hb)])⟩
  ·have E:=R.ent j o e' q1 q2
   cases e' with
   | no=>trivial
   | val d=>obtain ⟨v,z,r⟩:=E;exact ⟨v,z,r.mono gg⟩
   | exc c=>exact E
   | lst es=>
    obtain ⟨c,zs,z,g1,g2,g3,rv'⟩:=E;subst z;obtain ⟨m1,m2⟩:=R.inj.mix j i c a es dss q1 q2 e h;refine ⟨c,zs,rfl,g1,?_,g3,rv'.mono gg⟩;show (if c∈a::bs then H c else G c)=none;rw [if_neg (λz=>?_)]
    ·exact g2
    ·rcases qI.mp z with z | z
     ·exact m1 z
     ·exact m2 _ h1 (qO.mpr ⟨c,z,rfl⟩)
   | nst es=>exact absurd (R.inj.one j i es dss q2 h) nj
   | dct ks=>
    obtain ⟨c,ws,z,g1,g2,g3,rv'⟩:=E;refine ⟨c,ws,z,g1,?_,g3,rv'.mono gg⟩;show (if c∈a::bs then H c else G c)=none;rw [if_neg (λw=>by obtain ⟨ys,y⟩:=(gn c w).2.2;rw [g1] at y;cases y)];exact g2
   | seen w ks=>
    obtain ⟨c,xs,z,g1,g2,g3,g4,g5,g6⟩:=E;refine ⟨c,xs,z,g1,?_,g3,g4,g5,λy hy=>⟨(g6 y hy).1,(g6 y hy).2.mono gg⟩⟩;show (if c∈a::bs then H c else G c)=none;rw [if_neg (λw=>by obtain ⟨ys,y⟩:=(gn c w).2.2;rw [g1] at y;cases y)];exact g2
 ·rcases aF q1 with ⟨_,rfl,_⟩ | ⟨n,q1⟩
  ·cases q2
  ·exact ⟨q1,rfl⟩
 ·show (if c∈a::bs then H c else G c)≠_
  split
  ·rename_i hc
   obtain ⟨ys,y⟩:=(gn c hc).2.2;rw [y];nofun
  ·exact R.tab.2 c ps
end
section
variable {rest:List Stmt}
def noN (i:Nat) (ρ:List Ent):Bool:=(qV ρ.length).all λj=>j==i || (match ρ[j]? with | some (.nst _)=>false | _=>true)
def b7K (h:noN i ρ=true):∀ (j:Nat) (dss:List (List j0)),ρ[j]?=some (.nst dss)->j=i:=λj dss hj=>by
 have hl:=(qR.mp hj).1;have:=qm.mp h j (qo.mpr hl);rw [hj] at this;simpa using this
def b7Q (i:Nat):SF:=λρ=>if noN i ρ then some (.nx (ρ.set i (.nst []))) else none
def b5L (i:Nat) {x:Str} (hN:X.N.Nodup) (hi:X.N[i]?=some x:=by rfl) (hx:Loc X.env.scope x:=by first | exact kC rfl | exact jY rfl)
  (hs:wy (.List [] p2) (some (.Name x p)) pos.line X.env=pure false:=by rfl) (hf:X.fn x=true\/X.env.scope.names.lookup x=some .local:=by first | exact .inl rfl | exact .inr rfl):
  DS X (.Assign [.Name x p] (.List [] p2) pos) (b7Q i):=⟨λpq s σ H D I ⟨ρ,o,H0,Gz,G,e,R,q⟩=>yB hN hi hx (a4v oS) hs hf pq s σ H D I (by
 unfold b7Q at e;split at e
 ·rename_i hz
  cases (qA e);exact ⟨by show 0<=j5;omega,λa ha=>q G _ _ (.refl _) (R.freshN ha (b7K hz))⟩
 ·cases e)⟩
def b0S (i:Nat):TF:=λρ=>match ρ[i]? with
 | some (.nst dss)=>some (.ok (!dss.isEmpty))
 | _=>none
def b5I (i:Nat) {x:Str} (hN:X.N[i]?=some x:=by rfl) (hv:Vis X.env.scope x:=by first | exact kC rfl | exact jY (kC rfl) | exact jY (jY rfl)) (hd:(x==("__debug__" : Str))=false:=by decide)
  (hcd:(x==("__classdict__" : Str))=false:=by decide):DT X (.Name x p) (b0S i):=⟨λpq s σ H Q I ⟨ρ,r,H0,Gz,G,e,R,q⟩=>by
 refine a5x (dI hN hv hd hcd) (λ_=>rfl) pq s σ H Q I ?_;unfold b0S at e;split at e
 ·rename_i dss hi
  cases (qA e);obtain ⟨a,bs,e1,h1,_,_,_,_,rv⟩:=R.ownN hi;refine ⟨_,e1,!dss.isEmpty,.inl ⟨bs.map V.ref,.of h1,?_⟩,q _ _ (.refl R.sub)⟩;cases rv<;>rfl
 ·cases e⟩
def pushN (i:Nat) (f:AF):SF:=λρ=>match ρ[i]? with
 | some (.nst dss)=>bns (f ρ) ρ λds=>if dU dss.length&&dU ds.length then some (.nx (ρ.set i (.nst (dss++[ds])))) else none
 | _=>none
def b3d (i:Nat) {x:Str} {f:AF} (h:DA X es f) (hN:X.N[i]?=some x:=by rfl)
  (hv:Vis X.env.scope x:=by first | exact kC rfl | exact jY (kC rfl) | exact jY (jY rfl)) (hd:(x==("__debug__" : Str))=false:=by decide) (hcd:(x==("__classdict__" : Str))=false:=by decide)
  (hbase:ya (.Name x p) "append" X.env (eval (.Name x p) X.env)=eval (.Name x p) X.env:=by rfl)
  (hfew:((v8 cp (j4 (.List es p2::[]) X.env)).all (λx=>!x.1)&&(yz cp (w8 [] X.env)).all (λx=>x.1.isSome)&&decide ((Expr.List es p2::[]).length+([]:List Keyword).length+(if ([]:List Keyword).isEmpty then 0 else 1)<30))=true:=by rfl)
  (hline:(ap.endLine==cp.line)=true:=by rfl) (hst:j4 (.List es p2::[]) X.env=(false,eval (.List es p2) X.env)::j4 [] X.env:=by rfl) (hplain:(v8 cp (j4 [] X.env)).any (·.1)=false:=by rfl)
  (hsw:wy (.Call (.Attribute (.Name x p) "append" ap) [.List es p2] [] cp) none pos.line X.env=pure false:=by rfl):
  DS X (.Expr (.Call (.Attribute (.Name x p) "append" ap) [.List es p2] [] cp) pos) (pushN i f):=⟨λpq s σ H D I ⟨ρ,o,H0,Gz,G,ef,R,q⟩=>
 uP (a5A ko vQ vP sP (dI hN hv hd hcd) (mS (a4v h.run) oS hst) hbase hfew hline hst hplain) hsw pq s σ H D I (by
  unfold pushN at ef;split at ef
  ·rename_i dss hi
   obtain ⟨a,bs,e1,h1,_⟩:=R.ownN hi;refine ⟨.ref a,e1,.inl ⟨rfl,bs.map V.ref,.of h1⟩,sA R ef q λds vs G1 H1 g1 R1 rv e2 q1=>?_⟩;split at e2
   ·rename_i hz
    rw [qL] at hz;cases (qA e2);obtain ⟨a1,bs1,e1',h1',_,_,_,_,pv⟩:=R1.ownN hi;rw [e1] at e1';cases e1';have eb:bs1=bs:=by
     have:=g1.hh.lst h1;rw [h1'] at this;have:bs1.map V.ref=bs.map V.ref:=by injection this with z;injection z
     exact (vG (λ_ _ z=>by cases z;rfl)).mp this
    subst eb;have hl:bs1.length=dss.length:=wB pv;refine ⟨by rw [rv.length];exact iZ hz.2,λpp hp=>⟨a,bs1.map V.ref,.ref pp,rfl,rfl,?_,by rw [qF,hl];exact a7Y hz.1,?_⟩⟩
    ·rw [aE (aO h1' hp)];exact h1'
    ·have key:=R1.pushN hi e1 h1' hp rv
     rw [qZ] at key;exact q1 G1 _ σ (.refl _) key
   ·cases e2
  ·cases ef)⟩
def lastN (i:Nat) (fa:EF):SF:=λρ=>match ρ[i]? with
 | some (.nst dss)=>(match dss.getLast? with
  | some ds=>bns (fa ρ) ρ λd=>if dU ds.length then some (.nx (ρ.set i (.nst (dss.dropLast++[ds++[d]])))) else none
  | none=>none)
 | _=>none
def b5j {bs:T0o} {b:Addr}:atI ((bs++[b]).map V.ref) (-1)=some (V.ref b):=by
 unfold atI ixN;rw [if_neg (by decide),if_pos (by simp<;>omega)];simp only [qF,qY,qW,zz,wX,Option.bind_some];rw [show (-1+((bs.length+1:Nat):Int)).toNat=bs.length by omega];simp
theorem a0A {α:Type}:∀ {l:List α} {a:α},l.getLast?=some a->l=l.dropLast++[a]
 | [],_,h=>by cases h
 | [x],a,h=>by simp at h;simp [h]
 | x::y::t,a,h=>by
  rw [List.getLast?_cons_cons] at h;have:=a0A (l:=y::t) h;rw [List.dropLast_cons₂,List.cons_append,<-this]
def b3f (i:Nat) {x:Str} {up cp1 sp:Pos} {j1:_} (h:DE X e fa) (hN:X.N[i]?=some x:=by rfl)
  (hv:Vis X.env.scope x:=by first | exact kC rfl | exact jY (kC rfl) | exact jY (jY rfl)) (hd:(x==("__debug__" : Str))=false:=by decide) (hcd:(x==("__classdict__" : Str))=false:=by decide)
  (hs:a0R (.UnaryOp .USub (.Constant (.int 1) j1 cp1) up):=by exact λ_ _=>rfl)
  (hbase:ya (.Subscript (.Name x p) (.UnaryOp .USub (.Constant (.int 1) j1 cp1) up) sp) "append" X.env (eval (.Subscript (.Name x p) (.UnaryOp .USub (.Constant (.int 1) j1 cp1) up) sp) X.env)=eval (.Subscript (.Name x p) (.UnaryOp .USub (.Constant (.int 1) j1 cp1) up) sp) X.env:=by rfl)
  (hfew:((v8 cp (j4 (e::[]) X.env)).all (λx=>!x.1)&&(yz cp (w8 [] X.env)).all (λx=>x.1.isSome)&&decide ((e::[]).length+([]:List Keyword).length+(if ([]:List Keyword).isEmpty then 0 else 1)<30))=true:=by rfl)
  (hline:(ap.endLine==cp.line)=true:=by rfl) (hst:j4 (e::[]) X.env=(false,eval e X.env)::j4 [] X.env:=by rfl) (hplain:(v8 cp (j4 [] X.env)).any (·.1)=false:=by rfl)
  (hsw:wy (.Call (.Attribute (.Subscript (.Name x p) (.UnaryOp .USub (.Constant (.int 1) j1 cp1) up) sp) "append" ap) [e] [] cp) none pos.line X.env=pure false:=by rfl):
  DS X (.Expr (.Call (.Attribute (.Subscript (.Name x p) (.UnaryOp .USub (.Constant (.int 1) j1 cp1) up) sp) "append" ap) [e] [] cp) pos) (lastN i fa):=⟨λpq s σ H D I ⟨ρ,o,H0,Gz,G,ef,R,q⟩=>
 uP (a5A ko vQ vP sP (b1G a8G (dI hN hv hd hcd) (b6u b0P b1H) hs) (mS h.run oS hst) hbase hfew hline hst hplain) hsw pq s σ H D I (by
  unfold lastN at ef;split at ef
  ·rename_i dss hi
   split at ef
   ·rename_i ds hl
    obtain ⟨ed,_⟩:dss=dss.dropLast++[ds]/\True:=⟨a0A hl,trivial⟩;rw [ed] at hi;generalize dss.dropLast=d0 at *;subst ed;obtain ⟨a,bs,e1,h1,_,_,_,_,rv⟩:=R.ownN hi;obtain ⟨bs0,b,rfl,pv,ys,y1,y2,y3,y4⟩:=Paired.unapp rv;refine ⟨.ref a,e1,1,rfl,a,_,-1,.ref b,rfl,rfl,.of h1,b5j,.inl ⟨rfl,ys,.of y1⟩,sE R ef q λd v G1 H1 g1 R1 rv e2 q1=>?_⟩;split at e2
    ·rename_i hz
     cases (qA e2);exact ⟨b,ys,v,rfl,rfl,g1.hh.lst y1,by rw [y4.length];exact a7Y hz,q1 G1 _ σ (.refl _) (R1.lastN hi e1 (g1.hh.lst h1) ((y4.mono g1.gg).append (.cons rv .nil)))⟩
    ·cases e2
   ·cases ef
  ·cases ef)⟩
def b8o (i:Nat) (f:SF):SF:=λρ=>match ρ[i]? with
 | some (.nst dss)=>f (ρ.set i (.val (.list (dss.map .list))))
 | _=>f ρ
def b5P (i:Nat) (h:DB X rest f):DB X rest (b8o i f):=⟨λpq s σ H D I ⟨ρ,o,H0,Gz,G,e,R,q⟩=>by
 unfold b8o at e;split at e
 ·rename_i dss hi
  obtain ⟨G',s',R'⟩:=R.freezeN hi;exact h.run pq s σ H D I ⟨_,o,H0,Gz,G',e,R',q.mono s'⟩
 ·exact h.run pq s σ H D I ⟨ρ,o,H0,Gz,G,e,R,q⟩⟩
end
def a5b:lB X (.builtin "sorted") (λxs H Q=>∃ (p:Addr) (ns:T0q),xs=[.ref p]/\SqL X.K H p (ns.map V.str)/\ns.length<64/\∀ l,H l=none->Q (.ref l) (upd H l (.lst ((tJ ns).map V.str)))):=by
 intro pq s σ H xs us Q I r ⟨p,ns,e,hq,h64,q⟩;subst e;obtain ⟨u,rfl,rx⟩:=vals1 r;cases rx;obtain ⟨its,rv,pl,hz⟩:=I.list hq;have hi:=a6U rv;refine sorted_strs pl.isList hi (by rw [a5r hi];exact h64) λout ns' ho hp hs=>?_;have e:=b1a hp hs;subst e;obtain ⟨ep,g⟩:=sortedAll_at s.heap its out;have hf:H (s.heap.objs.size+1)=none:=I.hok.fresh (kF _);refine ⟨.ref (s.heap.objs.size+1),_,I.laid (t':=s.toks) (λb o g=>sortedAll_old g) (kF _) ?_,rfl,q _ hf⟩;refine ⟨?_,out.toList,ep,a2H ho,?_⟩
 ·rw [qF,(oJ ns).length_eq]
  exact jN (nU (by omega))
 ·rw [g]
def a4i (ds:T0l):Option j0:=match ds with
 | [.list xs]=>(match mF b0W xs with | some ns=>if ns.length<64 then some (.list ((tJ ns).map .str)) else none | none=>none)
 | _=>none
def a8b (ds:T0l) (d:j0) (h:a4i ds=some d):CallD X (.builtin "sorted") ds d:=by
 unfold a4i at h;split at h
 ·split at h
  ·rename_i xs ns e
   split at h
   ·rename_i hl
    cases (qA h);have:=iN (g:=.str) (λd a q=>a7Z q) e;subst this
    exact ⟨_,a5b,λvs G H Q s r q=>by
     cases r with | cons r rr=>cases rr;cases r with | list hq r=>
      have e:=r.strs;subst e
      exact ⟨_,ns,rfl,s.seq hq,hl,λl hn=>q _ _ _ (.put s hn) (.list (.of aH) (uO _))⟩⟩
   ·cases h
  ·cases h
 ·cases h
def a9o {x:Str} {ns:T0q} (h:(x::ns).length<64):a4i [.list ((x::ns).map .str)]=some (.list ((tJ (x::ns)).map .str)):=by
 unfold a4i;dsimp only;rw [iS (g:=.str) (λ_=>rfl) (x::ns)];dsimp only;rw [if_pos h]
abbrev a1M:EF:=eD (.nm 0) [none,some 1] (gC (var 0)) (iC inX (op2 ixD (var 0) (cst (.int 0))) (var 1)) (var 0)
def yQ:SF:=(retS (cJ a4f (aC a1M aK)))
def tE:List j0->Mm j0:=bZ 2 2 yQ
abbrev sF:TF:=a6z (b0S 1) (iC ltD (var 4) (var 2))
abbrev a0i:SF:=ifS sF (aQ (lastN 1 (var 3)) (eZ 2 (cJ a7r (aC (var 2) (aC (var 5) aK))))) (aQ (pushN 1 (aC (var 3) aK)) (eZ 2 (var 5)))
abbrev yM:EF:=eD (.nm 0) [none] (gC (var 1)) ttT (cJ a4i (aC (var 0) aK))
def a2b:SF:=(aQ (b7Q 1) (aQ (eZ 2 (cst (.int 0))) (aQ (nZ (.tp [3,4,5]) (gC (aX eK (aC (var 0) aK))) a0i) (b8o 1 (retS yM)))))
def rY:List j0->Mm j0:=bZ 6 1 a2b
abbrev nmD (A:List Mt):List j0:=(A.map (·.1)).map .str
theorem rF (S:Ent):∀ (l:List Mt) (done:List (List Mt)) (cur:List Mt) (r:Int) (x3 x4 x5:Ent),done.length+l.length<=1000->cur.length+l.length<=1000 ->
  ∃ r' y3 y4 y5,bG (.tp [3,4,5]) a0i (l.map dM) [S,.nst ((done++[cur]).map nmD),.val (.int r),x3,x4,x5]=some (.nx [S,.nst ((done++gW l cur r).map nmD),.val (.int r'),y3,y4,y5])
 | [],done,cur,r,x3,x4,x5,_,_=>⟨r,x3,x4,x5,rfl⟩
 | m::l,done,cur,r,x3,x4,x5,h1,h2=>by
  simp only [qW] at h1 h2;have t1:sF [S,.nst ((done++[cur]).map nmD),.val (.int r),.val (.str m.1),.val (.int m.2.1),.val (.int m.2.2)]=some (.ok (decide (m.2.1<r))):=by
   show a6z (b0S 1) (iC ltD (var 4) (var 2)) _=_;have h0:b0S 1 [S,.nst ((done++[cur]).map nmD),.val (.int r),.val (.str m.1),.val (.int m.2.1),.val (.int m.2.2)]=some (.ok true):=by
    show some (Re.ok (!((done++[cur]).map nmD).isEmpty))=_;simp
   rw [a5i,h0,mE,if_pos rfl];simp
  unfold gW;by_cases c:m.2.1<r
  ·rw [if_pos c]
   obtain ⟨r',y3,y4,y5,e⟩:=rF S l done (cur++[m]) (max r m.2.2) (.val (.str m.1)) (.val (.int m.2.1)) (.val (.int m.2.2)) (by omega) (by simp;omega);refine ⟨r',y3,y4,y5,?_⟩;rw [<-e];refine cW (ρ1:=[S,.nst ((done++[cur]).map nmD),.val (.int r),.val (.str m.1),.val (.int m.2.1),.val (.int m.2.2)]) rfl ?_;show ifS sF _ _ _=_;rw [lR,t1,a6w,decide_eq_true c,if_pos rfl];have l1:lastN 1 (var 3) [S,.nst ((done++[cur]).map nmD),.val (.int r),.val (.str m.1),.val (.int m.2.1),.val (.int m.2.2)]=some (.nx [S,.nst ((done++[cur++[m]]).map nmD),.val (.int r),.val (.str m.1),.val (.int m.2.1),.val (.int m.2.2)]):=by
    unfold lastN;dsimp only [List.getElem?_cons_succ,List.getElem?_cons_zero];rw [qZ,qZ,show [cur].map nmD=[nmD cur] from rfl,zL];dsimp only;rw [kX];show (if dU (nmD cur).length then _ else _)=_;rw [if_pos (by unfold dU;exact decide_eq_true (by simp;omega))];simp
   rw [aJ l1];show bns (cJ a7r (aC (var 2) (aC (var 5) aK)) _) _ _=_;rw [gP (ρ:=[S,.nst ((done++[cur++[m]]).map nmD),.val (.int r),.val (.str m.1),.val (.int m.2.1),.val (.int m.2.2)]) (ds:=[.int r,.int m.2.2]) rfl b7V];rfl
  ·rw [if_neg c]
   obtain ⟨r',y3,y4,y5,e⟩:=rF S l (done++[cur]) [m] m.2.2 (.val (.str m.1)) (.val (.int m.2.1)) (.val (.int m.2.2)) (by simp;omega) (by simp;omega);refine ⟨r',y3,y4,y5,?_⟩;rw [show done++(cur::gW l [m] m.2.2)=(done++[cur])++gW l [m] m.2.2 by simp,<-e];refine cW (ρ1:=[S,.nst ((done++[cur]).map nmD),.val (.int r),.val (.str m.1),.val (.int m.2.1),.val (.int m.2.2)]) rfl ?_;show ifS sF _ _ _=_;rw [lR,t1,a6w,decide_eq_false c,if_neg (by decide)];have p1:pushN 1 (aC (var 3) aK) [S,.nst ((done++[cur]).map nmD),.val (.int r),.val (.str m.1),.val (.int m.2.1),.val (.int m.2.2)]=some (.nx [S,.nst ((done++[cur]++[[m]]).map nmD),.val (.int r),.val (.str m.1),.val (.int m.2.1),.val (.int m.2.2)]):=by
    unfold pushN;dsimp only [List.getElem?_cons_succ,List.getElem?_cons_zero];rw [show aC (var 3) aK [S,.nst ((done++[cur]).map nmD),.val (.int r),.val (.str m.1),.val (.int m.2.1),.val (.int m.2.2)]=some (.ok [.str m.1]) from rfl,a6w];rw [if_pos (by unfold dU;simp;omega)];simp
   rw [aJ p1];rfl
def b5t (x:Str) (ns:T0q):inX (.str x) (.list (ns.map .str))=some (decide (x∈ns)):=by
 show (Option.map _ (mF b0W (ns.map .str)))=_;rw [iS (g:=.str) (λ_=>rfl) ns];rfl
def b0f (s:List Mt) (ns:T0q) (hz:s.length<=1000):tE [dS s,.list (ns.map .str)]=some (.ok (dS (s.filter λm=>decide (m.1∈ns)))):=by
 refine aV rfl ?_;show yQ [.val (dS s),.val (.list (ns.map .str))]=_;have k1:a1M [.val (dS s),.val (.list (ns.map .str))]=some (.ok (.list ((s.filter λm=>decide (m.1∈ns)).map dM))):=
  eX dM (λm=>[.val (dM m),.val (.list (ns.map .str))]) (λm=>decide (m.1∈ns)) dM s rfl (by omega) (λm _=>rfl) (λm _=>by
   show lft (inX (.str m.1) (.list (ns.map .str)))=_
   rw [b5t];rfl) (λm _ _=>rfl)
 unfold yQ;rw [eG,gP (ds:=[.list ((s.filter λm=>decide (m.1∈ns)).map dM)]) (by rw [mX,k1];rfl) (b8X _)];rfl
abbrev gD (A:List Mt):j0:=.list ((tJ (A.map (·.1))).map .str)
def b5w (h:A∈bL l):A.length<=l.length:=by
 have:A.Sublist (bL l).flatten:=zA h;rw [hV] at this;exact this.length_le
def b2Y (nd:(s.map (·.1)).Nodup) (hz:s.length<64):rY [dS s]=some (.ok (.list ((bL (cI s)).map gD))):=by
 have hl:=(dJ s).length_eq;refine aV rfl ?_;show a2b [.val (dS s),.no,.no,.no,.no,.no]=_;have lp:∃ r y3 y4 y5,bG (.tp [3,4,5]) a0i ((cI s).map dM) [.val (dS s),.nst [],.val (.int 0),.no,.no,.no]=some (.nx [.val (dS s),.nst ((bL (cI s)).map nmD),.val (.int r),y3,y4,y5]):=by
  cases hs:cI s with
  | nil=>exact ⟨0,.no,.no,.no,rfl⟩
  | cons m l=>
   rw [hs] at hl;simp only [qW] at hl;obtain ⟨r',y3,y4,y5,e⟩:=rF (.val (dS s)) l [] [m] m.2.2 (.val (.str m.1)) (.val (.int m.2.1)) (.val (.int m.2.2)) (by simp;omega) (by simp;omega);refine ⟨r',y3,y4,y5,?_⟩;rw [show bL (m::l)=[]++gW l [m] m.2.2 from rfl,<-e];refine cW (ρ1:=[.val (dS s),.nst [],.val (.int 0),.val (.str m.1),.val (.int m.2.1),.val (.int m.2.2)]) rfl ?_;rfl
 obtain ⟨r,y3,y4,y5,lp⟩:=lp;have k1:yM [.val (dS s),.val (.list (((bL (cI s)).map nmD).map .list)),.val (.int r),y3,y4,y5]=some (.ok (.list ((bL (cI s)).map gD))):=by
  have gl:(bL (cI s)).length<=1000:=by
   have h1:∀ (Gs:List (List Mt)),(∀ A∈Gs,A≠[])->Gs.length<=Gs.flatten.length:=by
    intro Gs
    induction Gs with
    | nil=>intro _;simp
    | cons A Gs ih=>
     intro h;have hA:0<A.length:=List.length_pos_iff.mpr (h A (by simp));have:=ih λB hB=>h B (by simp [hB]);rw [wT,qY,qW];omega
   have:=h1 (bL (cI s)) λA hA=>by obtain ⟨y,t,e,_⟩:=a1U A hA;rw [e];simp
   rw [hV] at this;omega
  refine cN (λA:List Mt=>ky (nmD A)) (λA=>[.val (.list (nmD A))]) gD (bL (cI s)) (by rw [b1g];show some (Re.ok (((bL (cI s)).map nmD).map ky))=_;rw [qT];rfl) (by omega) (λA _=>by simp [cU]) (λA hA=>?_);obtain ⟨y,t,e,_⟩:=a1U A hA;have la:=b5w hA;subst e;refine gP (ds:=[.list (nmD (y::t))]) rfl ?_;exact a9o (x:=y.1) (ns:=t.map (·.1)) (by simp at la ⊢;omega)
 unfold a2b;rw [aJ (ρ':=[.val (dS s),.nst [],.no,.no,.no,.no]) rfl,aJ (ρ':=[.val (dS s),.nst [],.val (.int 0),.no,.no,.no]) rfl];rw [aJ (ρ':=[.val (dS s),.nst ((bL (cI s)).map nmD),.val (.int r),y3,y4,y5]) (by rw [iX,oM (aW (ds:=[dS s]) rfl (a6j nd hz)) rfl,a6w];exact lp)];show retS yM [.val (dS s),.val (.list (((bL (cI s)).map nmD).map .list)),.val (.int r),y3,y4,y5]=_;rw [eG,k1];rfl
theorem lW:∀ {s:List Mt},(s.map (·.1)).Nodup->∀ {a b:Mt},a∈s->b∈s->a.1=b.1->a=b
 | [],_,_,_,h,_,_=>by cases h
 | x::s,nd,a,b,ha,hb,e=>by
  rw [qK,kA] at nd;rcases qI.mp ha with ea | ha'
  ·rcases qI.mp hb with eb | hb'
   ·rw [ea,eb]
   ·exact absurd (qO.mpr ⟨b,hb',by rw [<-e,ea]⟩) nd.1
  ·rcases qI.mp hb with eb | hb'
   ·exact absurd (qO.mpr ⟨a,ha',by rw [e,eb]⟩) nd.1
   ·exact lW nd.2 ha' hb' e
end L2.L3
namespace L2.ZT
open PySem PyProof.Rows
section
variable {TI TO c d t u:Addr} {xs:Array Value} {a b:Value}
end
end L2.ZT
namespace L2.L3
open PySem PySem.Spec PyProof.Rows
section
variable {a b:Expr}
end
variable {y:j0}
def bV {g:j0->j0->Option j0} {x:j0} (ha:fa ρ=some (.ok x)) (hb:fb ρ=some (.ok y)) (h:g x y=some d):op2 g fa fb ρ=some (.ok d):=by
 rw [b1Q,ha,mE,hb,mE,h];rfl
def iK {g:j0->j0->Option Bool} {x:j0} {r:Bool} (ha:fa ρ=some (.ok x)) (hb:fb ρ=some (.ok y)) (h:g x y=some r):iC g fa fb ρ=some (.ok r):=by
 rw [b3x,ha,mE,hb,mE,h];rfl
def aM {x:j0} {xs:T0l} (ha:fa ρ=some (.ok x)) (hb:aa ρ=some (.ok xs)):aC fa aa ρ=some (.ok (x::xs)):=by
 rw [mX,ha,mE,hb,mE]
def prt (s:List Mt) (m:Mt):List Mt:=s.filter λo=>!decide (o.1=m.1)&&decide (ov m o)
def gof (s:List Mt) (m:Mt):List Mt:=((bL (cI s)).find? λA=>decide (m∈A)).getD []
def grp (s:List Mt) (m:Mt):List Mt:=s.filter λa=>decide (a∈gof s m)
def wid (s:List Mt) (m:Mt):Int:=aY (grp s m)
variable {A:List Mt} {a b:Mt}
section
variable {s:List Mt}
def b2I {m:Mt} (hm:m∈s):gof s m∈bL (cI s)/\m∈gof s m:=by
 have hf:m∈(bL (cI s)).flatten:=by rw [hV];exact (dJ s).mem_iff.mpr hm
 obtain ⟨B,hB,hmB⟩:=zp.mp hf;unfold gof;cases h:(bL (cI s)).find? λA=>decide (m∈A) with
 | none=>
  rw [List.find?_eq_none] at h;exact absurd (decide_eq_true hmB) (h B hB)
 | some A=>exact ⟨List.mem_of_find?_eq_some h,by simpa using List.find?_some h⟩
def a1A (hA:A∈bL (cI s)) (ha:a∈A):a∈s:=
 (dJ s).mem_iff.mp (by rw [<-hV (cI s)];exact zp.mpr ⟨A,hA,ha⟩)
def b8n (hA:A∈bL (cI s)) (hB:B∈bL (cI s)) (ha:a∈A) (hb:b∈B) (ho:ov a b):A=B:=by
 obtain ⟨i,hi⟩:=zM hA;obtain ⟨j,hj⟩:=zM hB;have:=b2G (a0v s) hi hj ha hb ho;subst this;rw [hi] at hj;exact qA hj
variable (hp:∀ m∈s,m.2.1<m.2.2)
include hp
omit hp
structure Laid (s:List Mt) (P:List Ly):Prop where
 lay:LayOf s P
 pos:∀ m∈s,m.2.1<m.2.2
 nd:(s.map (·.1)).Nodup
abbrev cl (P:List Ly) (m:Mt):Int:=(a3Q P m.1:Nat)
variable {P:List Ly}
theorem Laid.inP (h:Laid s P) {m:Mt} (hm:m∈s):(m,a3Q P m.1)∈P:=by
 obtain ⟨p,hp,rfl⟩:=qO.mp (h.lay.perm.mem_iff.mpr hm);rw [a2e (h.lay.nd h.nd) p hp];exact hp
theorem Laid.of (h:Laid s P) {p:Ly} (hp:p∈P):p.1∈s/\p.2=a3Q P p.1.1:=⟨h.lay.perm.mem_iff.mp (qi hp),(a2e (h.lay.nd h.nd) p hp).symm⟩
theorem Laid.col_ne (h:Laid s P) (ha:a∈s) (hb:b∈s) (hn:a≠b) (ho:ov a b):cl P a≠cl P b:=by
 obtain ⟨i,hi,ei⟩:=List.getElem_of_mem (h.inP ha);obtain ⟨j,hj,ej⟩:=List.getElem_of_mem (h.inP hb);have pw:=h.lay.diff;rw [jy] at pw;rcases vS i j with c | c | c
 ·have:=pw i j hi hj c
  rw [ei,ej] at this;have:=this ((b4G _ _).mp ho);dsimp only at this;show ((_:Nat):Int)≠((_:Nat):Int);omega
 ·subst c
  rw [ei] at ej;exact absurd (congrArg Prod.fst ej) hn
 ·have:=pw j i hj hi c
  rw [ei,ej] at this;have:=this ho;dsimp only at this;show ((_:Nat):Int)≠((_:Nat):Int);omega
def lst (s:List Mt) (P:List Ly) (m:Mt):Int:=b7U ((wid s m::(prt s m).map (cl P)).filter λc=>decide (cl P m<c))
end
end L2.L3
namespace L2.ZT
open PySem PyProof.Rows
variable {xs:Array Value} {y:Value}
section
variable {TI TO c d t u:Addr} {a b:Value}
def b5q {x:Value} (D:ZipApart z TI TO c d t u) (hz:IsZip s.heap z TI TO .none) (hI:y6 s.heap TI (.ref c) (.ref d)) (hO:y6 s.heap TO a b)
  (hc:s.heap.IsListIter c t i) (hd:s.heap.IsTupleIter d u j) (ht:s.heap.IsList t xs) (hu:s.heap.IsTuple u ys) (hx:xs[i]?=some x) (hy:ys[j]?=some y)
  (q:∀ k,IsZip k z TI TO (v7 s.heap.objs.size)->y6 k TO x y->k.IsListIter c t (i+1)->k.IsTupleIter d u (j+1)->y6 k s.heap.objs.size x y->k.objs.size=s.heap.objs.size+1 ->
   (∀ e o,e≠z->e≠TO->e≠c->e≠d->s.heap.get? e=some o->k.get? e=some o)->Q (.ref s.heap.objs.size) { s with heap:=k }):
  wpAny (model prog w) A (Builtin.«zip.__next__» ⟨[.ref z],[]⟩) (λfin s'=>∃ v,fin=.done (.ret v)/\Q v s') E s:=by
 show wpAny _ _ (field (.ref z) 2>>=_) _ _ s;refine q8 (w9 hz rfl (x:=zt false) rfl ?_);show wpAny _ _ (field (.ref z) 3>>=_) _ _ s;refine q8 (w9 hz rfl (x:=jU TI) rfl ?_);refine q8 (wu hI rfl ?_);show wpAny _ _ (kW (.ref z)>>=_) _ _ s;refine q8 ?_;unfold kW;refine q8 (w9 hz rfl (x:=jf) rfl (j3 ?_));simp only [if_true];refine q8 (yd (q8 (w9 hz rfl (x:=jU TO) rfl (q8 (v0 hz (by simp) λka za sa=>?_)))))
 replace za:IsZip ka z TI TO .ellipsis:=za
 refine q8 ?_;simp only [List.zipIdx_cons,List.zipIdx_nil,vA,List.forIn_nil];refine q8 (q8 (QP ?_));show wpAny _ _ (jW (.ref c)>>=_) _ _ _;refine q8 (wpAny_nextOf_list_item (hc.extBut sa.extBut D.i1z) (ht.extBut sa.extBut D.l1z) hx λkb cb sb=>j3 ?_);have ob:y6 kb TO a b:=sb.extBut _ _ D.TOi1 (sa.extBut _ _ D.TOz hO);refine q8 (wu ob rfl (q8 (u9 ob λkc oc sc=>?_)))
 replace oc:y6 kc TO x b:=oc
 refine q8 (uk (j3 (q8 (q8 (QP ?_)))));show wpAny _ _ (jW (.ref d)>>=_) _ _ _;have dc:kc.IsTupleIter d u j:=((hd.extBut sa.extBut D.i2z).extBut sb.extBut D.i12.symm).extBut sc.extBut D.TOi2.symm;have uc:kc.IsTuple u ys:=((hu.extBut sa.extBut D.l2z).extBut sb.extBut D.l2i1).extBut sc.extBut D.l2TO;refine q8 (tup_next dc uc hy λkd dd sd=>j3 ?_);have od:y6 kd TO x b:=sd.extBut _ _ D.TOi2 oc;refine q8 (wu od rfl (q8 (u9 od λke oe se=>?_)))
 replace oe:y6 ke TO x y:=oe
 refine q8 (uk (j3 (j3 (q8 (wu oe rfl (q8 (wpAny_newTuple ?_)))))));have sz:ke.objs.size=s.heap.objs.size:=by rw [se.1,sd.1,sc.1,sb.1,sa.1]
 have ze:IsZip ke z TI TO .ellipsis:=se.extBut _ _ D.TOz.symm (sd.extBut _ _ D.i2z.symm (sc.extBut _ _ D.TOz.symm (sb.extBut _ _ D.i1z.symm za)));have kp:∀ e o,e≠z->e≠TO->e≠c->e≠d->s.heap.get? e=some o->ke.get? e=some o:=λe o n1 n2 n3 n4 g=>
  se.extBut _ _ n2 (sd.extBut _ _ n4 (sc.extBut _ _ n2 (sb.extBut _ _ n3 (sa.extBut _ _ n1 g))))
 have ce:ke.IsListIter c t (i+1):=((cb.extBut sc.extBut D.TOi1.symm).extBut sd.extBut D.i12).extBut se.extBut D.TOi1.symm;have de:ke.IsTupleIter d u (j+1):=dd.extBut se.extBut D.TOi2.symm;have zl:z<ke.objs.size:=qN ze;show wpAny _ _ (wf (.ref z) (.ref ke.objs.size)>>=_) _ _ _;refine q8 ?_;unfold wf;have zf:IsZip (ke.push { cls:=.type "tuple", data:=.seq #[x,y] }) z TI TO .ellipsis:=qC _ ze;refine q8 (v0 zf (by simp) λkg zg sg=>?_)
 replace zg:IsZip kg z TI TO (v7 ke.objs.size):=zg
 refine v0 zg (by simp) λkh zh sh=>?_
 replace zh:IsZip kh z TI TO (v7 ke.objs.size):=zh
 have up:∀ e o,e≠z->ke.get? e=some o->kh.get? e=some o:=λe o n g=>sh.extBut _ _ n (sg.extBut _ _ n (qC _ g));have th:y6 kh ke.objs.size x y:=sh.extBut _ _ (jS zl) (sg.extBut _ _ (jS zl) (qJ _ rfl));have lh:kh.objs.size=ke.objs.size+1:=by rw [sh.1,sg.1,qv]
 rw [sz] at zh th lh;refine j3 ⟨_,rfl,?_⟩;show Q (.ref ke.objs.size) _;rw [sz];exact q kh zh (up _ _ D.TOz oe) (ce.at λo g=>up _ o D.i1z g) (de.at λo g=>up _ o D.i2z g) th lh λe o n1 n2 n3 n4 g=>up e o n1 (kp e o n1 n2 n3 n4 g)
def b4c {Q:Fin->Shared->Prop} (hh:A.handled=none) (D:ZipApart z TI TO c d t u) (hz:IsZip s.heap z TI TO .none) (hI:y6 s.heap TI (.ref c) (.ref d)) (hO:y6 s.heap TO a b)
  (hc:s.heap.IsListIter c t i) (hd:s.heap.IsTupleIter d u j) (ht:s.heap.IsList t xs) (hu:s.heap.IsTuple u ys) (hend:xs[i]?=none\/ys[j]?=none)
  (q:∀ k e,(∀ f o,f≠z->f≠TO->f≠c->f≠d->s.heap.get? f=some o->k.get? f=some o)->(∃ o,k.get? e=some o/\o.cls=.type "StopIteration")->E (.ref e) { s with heap:=k }):
  wpAny (model prog w) A (Builtin.«zip.__next__» ⟨[.ref z],[]⟩) Q E s:=by
 show wpAny _ _ (field (.ref z) 2>>=_) _ _ s;refine q8 (w9 hz rfl (x:=zt false) rfl ?_);show wpAny _ _ (field (.ref z) 3>>=_) _ _ s;refine q8 (w9 hz rfl (x:=jU TI) rfl ?_);refine q8 (wu hI rfl ?_);show wpAny _ _ (kW (.ref z)>>=_) _ _ s;refine q8 ?_;unfold kW;refine q8 (w9 hz rfl (x:=jf) rfl (j3 ?_));simp only [if_true];refine q8 (yd (q8 (w9 hz rfl (x:=jU TO) rfl (q8 (v0 hz (by simp) λka za sa=>?_)))))
 replace za:IsZip ka z TI TO .ellipsis:=za
 refine q8 ?_;simp only [List.zipIdx_cons,List.zipIdx_nil,vA,List.forIn_nil];refine q8 (q8 (QP ?_));show wpAny _ _ (jW (.ref c)>>=_) _ _ _;cases hx:xs[i]? with
 | none=>
  refine q8 (wpAny_nextOf_list_end hh (hc.extBut sa.extBut D.i1z) (ht.extBut sa.extBut D.l1z) hx λkb e sb he=>?_);obtain ⟨oe,ge,ee⟩:=he;have zb:IsZip kb z TI TO .ellipsis:=sb _ _ D.i1z.symm za;have ne:e≠z:=λx=>by rw [x,zb] at ge;cases ge;simp at ee
  exact v0 zb (by simp) λkc _ sc=>q kc e (λf o n1 _ n3 _ g=>sc.extBut _ _ n1 (sb _ _ n3 (sa.extBut _ _ n1 g))) ⟨oe,sc.extBut _ _ ne ge,ee⟩
 | some x=>
  have hy:ys[j]?=none:=by
   rcases hend with h | h
   ·rw [hx] at h;cases h
   ·exact h
  refine q8 (wpAny_nextOf_list_item (hc.extBut sa.extBut D.i1z) (ht.extBut sa.extBut D.l1z) hx λkb cb sb=>j3 ?_);have ob:y6 kb TO a b:=sb.extBut _ _ D.TOi1 (sa.extBut _ _ D.TOz hO);refine q8 (wu ob rfl (q8 (u9 ob λkc oc sc=>?_)));refine q8 (uk (j3 (q8 (q8 (QP ?_)))));show wpAny _ _ (jW (.ref d)>>=_) _ _ _;have dc:kc.IsTupleIter d u j:=((hd.extBut sa.extBut D.i2z).extBut sb.extBut D.i12.symm).extBut sc.extBut D.TOi2.symm;have uc:kc.IsTuple u ys:=((hu.extBut sa.extBut D.l2z).extBut sb.extBut D.l2i1).extBut sc.extBut D.l2TO;refine q8 (tup_stop hh dc uc hy λkd e sd he=>?_);obtain ⟨oe,ge,ee⟩:=he;have zd:IsZip kd z TI TO .ellipsis:=sd _ _ D.i2z.symm (sc.extBut _ _ D.TOz.symm (sb.extBut _ _ D.i1z.symm za));have ne:e≠z:=λx=>by rw [x,zd] at ge;cases ge;simp at ee
  exact v0 zd (by simp) λke _ se=>q ke e (λf o n1 n2 n3 n4 g=>se.extBut _ _ n1 (sd _ _ n4 (sc.extBut _ _ n2 (sb.extBut _ _ n3 (sa.extBut _ _ n1 g))))) ⟨oe,se.extBut _ _ ne ge,ee⟩
def next_lt {x:Value} {Q:Option Value->Shared->Prop} (D:ZipApart z TI TO c d t u) (hz:IsZip s.heap z TI TO .none) (hI:y6 s.heap TI (.ref c) (.ref d)) (hO:y6 s.heap TO a b)
  (hc:s.heap.IsListIter c t i) (hd:s.heap.IsTupleIter d u j) (ht:s.heap.IsList t xs) (hu:s.heap.IsTuple u ys) (hx:xs[i]?=some x) (hy:ys[j]?=some y)
  (q:∀ k,IsZip k z TI TO (v7 s.heap.objs.size)->y6 k TO x y->k.IsListIter c t (i+1)->k.IsTupleIter d u (j+1)->y6 k s.heap.objs.size x y->k.objs.size=s.heap.objs.size+1 ->
   (∀ e o,e≠z->e≠TO->e≠c->e≠d->s.heap.get? e=some o->k.get? e=some o)->Q (some (.ref s.heap.objs.size)) { s with heap:=k }):wpAny (model prog w) A (yq (.ref z)) Q E s:=by
 have ty:s.TypeIs (.ref z) "zip" := ⟨_,hz,rfl⟩;unfold yq;exact q8 (yu (j9 (name:=jB "__next__") ty wP (j7 wP ty F.entry_zip_next (b5q D hz hI hO hc hd ht hu hx hy λk a1 a2 a3 a4 a5 a6 a7=>j3 (q k a1 a2 a3 a4 a5 a6 a7)) (F.args_zip_next_1 _))))
def last_lt {Q:Option Value->Shared->Prop} (hh:A.handled=none) (D:ZipApart z TI TO c d t u) (hz:IsZip s.heap z TI TO .none) (hI:y6 s.heap TI (.ref c) (.ref d)) (hO:y6 s.heap TO a b)
  (hc:s.heap.IsListIter c t i) (hd:s.heap.IsTupleIter d u j) (ht:s.heap.IsList t xs) (hu:s.heap.IsTuple u ys) (hend:xs[i]?=none\/ys[j]?=none)
  (q:∀ k,(∀ f o,f≠z->f≠TO->f≠c->f≠d->s.heap.get? f=some o->k.get? f=some o)->Q none { s with heap:=k }):wpAny (model prog w) A (yq (.ref z)) Q E s:=by
 have ty:s.TypeIs (.ref z) "zip" := ⟨_,hz,rfl⟩;unfold yq;refine q8 (yu (j9 (name:=jB "__next__") ty wP (j7 wP ty F.entry_zip_next (b4c hh D hz hI hO hc hd ht hu hend λk e hk he=>?_) (F.args_zip_next_1 _))));obtain ⟨oe,ge,ee⟩:=he;exact q8 (yv (T := "StopIteration") (b:=true) ⟨oe,ge,ee⟩ QI (j3 (q _ hk)))
end
abbrev vAx (h:Heap) (l:Addr):Heap:=h.push { cls:=.type "list_iterator", data:=.fields #[.ref l,.int 0 0] }
abbrev vBx (h:Heap) (l m:Addr):Heap:=(vAx h l).push (itT m)
abbrev vCx (h:Heap) (l m:Addr):Heap:=(vBx h l m).push { cls:=.type "tuple", data:=.seq #[.ref h.objs.size,.ref (vAx h l).objs.size] }
abbrev vDx (h:Heap) (l m:Addr):Heap:=(vCx h l m).push { cls:=.type "tuple", data:=.seq #[.none,.none] }
abbrev vEx (h:Heap) (l m:Addr):Heap:=(vDx h l m).push { cls:=.type "zip", data:=.fields #[.none,.bool false,.bool false,.ref (vBx h l m).objs.size,.ref (vCx h l m).objs.size] }
def b7O (l m:Addr) (xs ys:Array Value):Meets (Builtin.«zip.__new__» ⟨[.type "zip", .ref l,.ref m],[]⟩) (λ_ R s=>s.heap.IsList l xs/\s.heap.IsTuple m ys/\R (.ok (.ret (.ref (vDx s.heap l m).objs.size))) { s with heap:=vEx s.heap l m }):=
 .of_wp λprog w A R s h=>by
  obtain ⟨hp,g,d,tk,os⟩:=s;obtain ⟨ha,hb,h⟩:=h;have sub:=sub_zip;have tA:Heap.IsList (Shared.heap ⟨hp,g,d,tk,os⟩) l xs:=ha;have tB:Heap.IsTuple (Shared.heap ⟨vAx hp l,g,d,tk,os⟩) m ys:=Heap.IsTuple.push hb _
  wp_walk using ui tA,uv tB
  exact ⟨_,rfl,h⟩
def call_lt {m:Addr} (ha:s.heap.IsList l xs) (hb:s.heap.IsTuple m ys)
  (q:∀ k,IsZip k (s.heap.objs.size+4) (s.heap.objs.size+2) (s.heap.objs.size+3) .none->y6 k (s.heap.objs.size+2) (.ref s.heap.objs.size) (.ref (s.heap.objs.size+1))->y6 k (s.heap.objs.size+3) .none .none ->
   k.IsListIter s.heap.objs.size l 0->k.IsTupleIter (s.heap.objs.size+1) m 0->(∀ c o,s.heap.get? c=some o->k.get? c=some o)->Q (.ref (s.heap.objs.size+4)) { s with heap:=k }):
  wpAny (model prog w) A (call (.type "zip") [.ref l,.ref m]) Q E s:=by
 refine callType_new F.called_zip (by decide) (F.typeCall_zip_2 _ _) (F.newCall_zip_2 _ _) (λobj=>F.args_object_init_3 obj _ _) F.entry_zip_new (b7O l m xs ys) ⟨ha,hb,?_⟩;have n1:(vAx s.heap l).objs.size=s.heap.objs.size+1:=qv ..;have n2:(vBx s.heap l m).objs.size=s.heap.objs.size+2:=by rw [qv,n1]
 have n3:(vCx s.heap l m).objs.size=s.heap.objs.size+3:=by rw [qv,n2]
 have n4:(vDx s.heap l m).objs.size=s.heap.objs.size+4:=by rw [qv,n3]
 have v5:(vEx s.heap l m).get? (vDx s.heap l m).objs.size=some _:=qJ _ rfl;have v4:(vEx s.heap l m).get? (vCx s.heap l m).objs.size=some _:=qC _ (qJ _ rfl);have v3:(vEx s.heap l m).get? (vBx s.heap l m).objs.size=some _:=qC _ (qC _ (qJ _ rfl));have v2:(vEx s.heap l m).get? (vAx s.heap l).objs.size=some _:=qC _ (qC _ (qC _ (qJ _ rfl)));have v1:(vEx s.heap l m).get? s.heap.objs.size=some _:=qC _ (qC _ (qC _ (qC _ (qJ _ rfl))));show _/\_;rw [n2,n3,n4] at v5;rw [n1,n2] at v3;rw [n3] at v4;rw [n1] at v2;rw [n4];exact ⟨⟨_,v5,rfl⟩,q _ v5 v3 v4 ⟨_,v1,rfl,rfl⟩ ⟨_,v2,rfl,rfl⟩ λc o g=>qC _ (qC _ (qC _ (qC _ (qC _ g))))⟩
end L2.ZT
namespace L2.L3
open PySem PySem.Spec PyProof.Rows
def c0p (K:qB) (l1 l2:Addr):It:=
 ⟨λi H=>∃ xs ys x y,SqL K H l1 xs/\SqT K H l2 ys/\xs[i]?=some x/\ys[i]?=some y,
 λi H v H'=>∃ T x y,H T=none/\v=.ref T/\H'=upd H T (.tup [x,y])/\(∀ xs,SqL K H l1 xs->xs[i]?=some x)/\∀ ys,SqT K H l2 ys->ys[i]?=some y,
 λi H=>∃ xs ys,SqL K H l1 xs/\SqT K H l2 ys/\(xs.length<=i\/ys.length<=i)⟩
def c0F (z TI TO i1 i2 l1 l2:Addr) (i:Nat) (h:Heap):Prop:=IsZip h z TI TO .none/\y6 h TI (.ref i1) (.ref i2)/\(∃ a b,y6 h TO a b)/\h.IsListIter i1 l1 i/\h.IsTupleIter i2 l2 i
def a2G (fa fb:EF):AF:=λρ=>match fa ρ,fb ρ with
 | some (.ok (.list a)),some (.ok (.tuple b))=>some (.ok (b0H a b))
 | _,_=>none
variable {l1 l2:Addr}
def b3X {K:qB} {TI TO i1 i2:Addr} (D:ZipApart z TI TO i1 i2 l1 l2):Turn P w K (.Tuple pj k0 p0) (c0p K l1 l2) [z,TI,TO,i1,i2] z (c0F z TI TO i1 i2 l1 l2) where
 mem:=by simp
 obj:=λi h ⟨hz,hTI,⟨a,b,hTO⟩,⟨o1,g1,_,d1⟩,⟨o2,g2,_,d2⟩⟩ c hc=>by
  simp only [qI,qp,or_false] at hc;rcases hc with rfl | rfl | rfl | rfl | rfl
  ·exact ⟨_,hz,λv q=>by cases q⟩
  ·exact ⟨_,hTI,λv q=>by cases q⟩
  ·exact ⟨_,hTO,λv q=>by cases q⟩
  ·exact ⟨o1,g1,λv q=>by rw [d1] at q;cases q⟩
  ·exact ⟨o2,g2,λv q=>by rw [d2] at q;cases q⟩
 keep:=λi h h' ⟨hz,hTI,⟨a,b,hTO⟩,h1,h2⟩ kp=>⟨kp z (by simp) _ hz,kp TI (by simp) _ hTI,⟨a,b,kp TO (by simp) _ hTO⟩,h1.at λo e=>kp i1 (by simp) o e,h2.at λo e=>kp i2 (by simp) o e⟩
 item:=by
  intro X hP hw hK hc i pq s σ H E I hf ⟨hz,hTI,⟨a,b,hTO⟩,h1,h2⟩ ⟨xs,ys,x,y,q1,q2,ex,ey⟩;subst hP hw hK;obtain ⟨its,r1,p1,_⟩:=I.list q1;obtain ⟨its2,r2,p2,_⟩:=I.tuple q2;obtain ⟨u,eu,ru⟩:=r1.get ex;obtain ⟨v,ev,rv⟩:=r2.get ey;refine ZT.next_lt D hz hTI hTO h1 h2 p1.isList p2 (x:=u) (y:=v) (by rw [jP];exact eu) (by rw [jP];exact ev) λh' a1 a2 a3 a4 a5 a6 hk=>⟨_,rfl,?_⟩;refine wpAny_letOwnedTupleGo_zip a1 λh2' hz' hs'=>?_;have hk2:∀ c o,c∉[z,TO,i1,i2]->s.heap.get? c=some o->h2'.get? c=some o:=λc o hc e=>by
   simp only [qI,qp,or_false,not_or] at hc;exact hs'.extBut c o hc.1 (hk c o hc.1 hc.2.1 hc.2.2.1 hc.2.2.2 e)
  have nT:s.heap.objs.size≠z:=jS (qN hz);have new:cM X.prog X.w (upd H s.heap.objs.size (.tup [x,y])) h2' s.heap.objs.size (.tup [x,y]):=
   ⟨by show 2<=j5;decide,[u,v],.cons ru (.cons rv .nil),⟨_,hs'.extBut _ _ nT a5,rfl,_,rfl⟩⟩
  have hfT:H s.heap.objs.size=none:=I.hok.fresh (qM _)
  refine ⟨.ref s.heap.objs.size,upd H s.heap.objs.size (.tup [x,y]),Inv.turnNew (s:=s) (h':=h2') (t':=s.toks) [z,TO,i1,i2] I (λc hc=>hf c (by simp only [qI,qp,or_false] at hc ⊢;rcases hc with h | h | h | h<;>simp [h])) hk2 (qM _) new,rfl,
   ⟨_,x,y,hfT,rfl,rfl,λxs' q=>by rw [I.list_inj q q1];exact ex,λys' q=>by rw [I.tuple_inj q q2];exact ey⟩,⟨hz',hs'.extBut _ _ D.TIz (hk _ _ D.TIz D.TITO D.TIi1 D.TIi2 hTI),⟨_,_,hs'.extBut _ _ D.TOz a2⟩,a3.extBut hs'.extBut D.i1z,a4.extBut hs'.extBut D.i2z⟩,λc hc=>?_⟩
  obtain ⟨o,e,_⟩:∃ o,s.heap.get? c=some o/\True:=by
   simp only [qI,qp,or_false] at hc;rcases hc with rfl | rfl | rfl | rfl | rfl
   ·exact ⟨_,hz,trivial⟩
   ·exact ⟨_,hTI,trivial⟩
   ·exact ⟨_,hTO,trivial⟩
   ·obtain ⟨o,g,_⟩:=h1;exact ⟨o,g,trivial⟩
   ·obtain ⟨o,g,_⟩:=h2;exact ⟨o,g,trivial⟩
  rw [aE (qc (qN e))];exact (hf c hc).1
 done:=by
  intro X hP hw hK hc i pq s σ H E I hf ⟨hz,hTI,⟨a,b,hTO⟩,h1,h2⟩ ⟨xs,ys,q1,q2,hend⟩;subst hP hw hK;obtain ⟨its,r1,p1,_⟩:=I.list q1;obtain ⟨its2,r2,p2,_⟩:=I.tuple q2;have l1':=r1.length;have l2':=r2.length;refine ZT.last_lt (I.ok.hd hc) D hz hTI hTO h1 h2 p1.isList p2 ?_ λh' hk=>⟨rfl,Inv.turnAll (t':=s.toks) [z,TO,i1,i2] I (λc hc=>hf c (by simp only [qI,qp,or_false] at hc ⊢;rcases hc with h | h | h | h<;>simp [h])) λc o hc e=>?_⟩
  ·rcases hend with he | he
   ·exact .inl (by rw [jP];exact qd (by omega))
   ·exact .inr (by rw [jP];exact qd (by omega))
  ·simp only [qI,qp,or_false,not_or] at hc
   exact hk c o hc.1 hc.2.1 hc.2.2.1 hc.2.2.2 e
 self:=λA i s Q E st h=>wpAny_pyIter_zip st.1 h
def b3W {K:qB} {ys:List V} {es:T0l} (h1:SqL K G l1 xs) (r1:RepAll K G xs ds) (h2:SqT K G l2 ys) (r2:RepAll K G ys es):Walk K (c0p K l1 l2) G (b0H ds es):=by
 intro i G' H' s1 s2;have a1:=(s1.trans s2).seq h1;have a2:=lI (s1.trans s2) h2;unfold b0H;refine ⟨λd e=>?_,λhl=>⟨xs,ys,a1,a2,?_⟩⟩
 ·rw [qQ] at e
  obtain ⟨⟨p,q⟩,e1,rfl⟩:=qU.mp e;rw [List.getElem?_zip_eq_some] at e1;obtain ⟨v,ev,rv⟩:=r1.get e1.1;obtain ⟨u,eu,ru⟩:=r2.get e1.2;refine ⟨⟨xs,ys,v,u,a1,a2,ev,eu⟩,λx H2 ⟨T,x',y',hT,ex,eH,b1,b2⟩=>?_⟩;subst ex eH;have b3:=b1 xs a1;have b4:=b2 ys a2;rw [ev] at b3;rw [eu] at b4;cases b3;cases b4;have hG:G' T=none:=s2.free hT;exact ⟨upd G' T (.tup [v,u]),.put s2 hT,.tuple (.of aH) (.cons ((rv.mono s1).mono (bF hG)) (.cons ((ru.mono s1).mono (bF hG)) .nil))⟩
 ·rw [qF,List.length_zip] at hl
  have e1:=r1.length;have e2:=r2.length;omega
variable {a:Expr}
def b8E (hm:X.mg "zip" = none) (ha:DE X a fa) (hb:DE X b fb) (hv:yc "zip" = some (.type "zip"):=by decide +kernel) (hs:j4 [a,b] X.env=(false,eval a X.env)::j4 [b] X.env:=by rfl) (hs2:j4 [b] X.env=(false,eval b X.env)::j4 [] X.env:=by rfl)
  (hpl:(v8 pos (j4 [b] X.env)).any (·.1)=false:=by rfl) (hg:Gl X "zip":=by rfl):DI X (.Tuple pj k0 p0) (.Call (.Name "zip" p) [a,b] [] pos) (a2G fa fb):=a3N λρ r e=>by
 unfold a2G at e;split at e
 ·rename_i as bs e1 e3
  refine ⟨_,(qA e).symm,⟨?_⟩⟩;intro pq s σ H R I ⟨H0,Gz,G,S,q⟩;have pa:=gI (ha.pd e1) (gI (hb.pd e3) mR hs2) hs;refine k9 (iV I hg hm hv ?_ (by decide) (by decide));refine jq (thn (pa.run H0 Gz G pos pq s σ H (λvs H'=>∃ G',Grow G H G' H'/\RepAll X.K G' vs [.list as,.tuple bs]) I S λvs G' H' g r=>⟨G',g,r⟩) λus s1 ⟨vs,H1,I1,r1,G1,g1,w1⟩=>?_) hs hpl;cases w1 with
  | cons wa wn=>cases wn with
   | cons wb wn=>
    cases wn;cases wa with
    | list hq ra=>cases wb with
     | tuple hq2 rb=>
      obtain ⟨u,v,rfl,ru,rv⟩:=vals2 r1;cases ru;cases rv;obtain ⟨its,r1',p1,_⟩:=I1.list (g1.sub.seq hq);obtain ⟨its2,r2',p2,_⟩:=I1.tuple (lI g1.sub hq2);refine ZT.call_lt p1.isList p2 λh' z1 z2 z3 z4 z5 hk=>?_;refine wpAny_pyIter_zip z1 ?_;obtain ⟨o1,g1',_⟩:=p1.isList;obtain ⟨o2,g2',_⟩:=p2;refine ⟨s1.heap.objs.size+4,[s1.heap.objs.size+4,s1.heap.objs.size+2,s1.heap.objs.size+3,s1.heap.objs.size,s1.heap.objs.size+1],_,_,H1,rfl,I1.kept (h':=h') (t':=s1.toks) (λb o e=>hk b o e),b3X (zipApart_new (qN g1') (qN g2')),⟨z1,z2,⟨_,_,z3⟩,z4,z5⟩,λc hc=>?_,q _ G1 H1 g1 (b3W hq ra hq2 rb)⟩;have ge:s1.heap.objs.size<=c:=by
       simp only [qI,qp,or_false] at hc;rcases hc with h | h | h | h | h<;>rw [h]<;>first | exact ve _ _ | exact qM _
      exact I1.fpOk ge (I1.hok.fresh ge)
 ·cases e
def b0G {a b:T0l} (ha:fa ρ=some (.ok (.list a))) (hb:fb ρ=some (.ok (.tuple b))):a2G fa fb ρ=some (.ok (b0H a b)):=by
 unfold a2G;rw [ha,hb]
def a2O (x:j0):Option j0:=match x with
 | .list xs=>(match mF intD xs with
  | some ns=>if ns.length<64 then some (.list ((sortI (mB ns)).map .int)) else none
  | none=>none)
 | _=>none
def b6W (K:qB) (t:TA):TE:=λσ H Q=>t σ H λxs H1=>∃ a ns,xs=[.ref a]/\SqL K H1 a (ns.map V.int)/\ns.length<64/\∀ l,H1 l=none->Q (.ref l) (upd H1 l (.lst ((sortI (mB ns)).map V.int)))
section
variable {d:Expr} {fd:EF}
def b1E {t:TA} (hc:X.calm=true) (h1:Gl X "sorted") (m1:X.mg "sorted" = none) (h2:Gl X "set") (m2:X.mg "set" = none) (b2:yc "set" = some (.type "set")) (ha:PA X [e] t) (he:j4 [e] X.env=(false,eval e X.env)::j4 [] X.env)
  (he2:j4 [.Call (.Name "set" p2) [e] [] pos2] X.env=(false,eval (.Call (.Name "set" p2) [e] [] pos2) X.env)::j4 [] X.env) (hpl:∀ q,(v8 q (j4 [] X.env)).any (·.1)=false) (hn:∀ q,v8 q (j4 [] X.env)=[]):
  PE X (.Call (.Name "sorted" p) [.Call (.Name "set" p2) [e] [] pos2] [] pos) (b6W X.K t):=by
 intro pq s σ H Q I h;refine k9 (iV I h1 m1 boot_sorted ?_);refine callWith_builtin1 ?_ he2 (hpl _);rw [he2];show wpAny _ _ (spliced ((false,eval (.Call (.Name "set" p2) [e] [] pos2) X.env)::v8 pos (j4 [] X.env))) _ _ s;rw [hn];refine Calls.spliced_cons (k9 (iV I h2 m2 b2 ?_));refine callWith_type1 (thn (ha pos2 pq s σ H _ I h) λus s1 ⟨vs,H1,I1,r1,qq⟩=>?_) he (hpl _);obtain ⟨a,ns,e1,hq,h64,q⟩:=qq
 ·subst e1
  obtain ⟨u,rfl,rx⟩:=vals1 r1;cases rx;obtain ⟨its,rv,pl,hz⟩:=I1.list hq;have hi:=intsAre_of rv;have hd:=I1.ok.hd hc;have hl:its.length=ns.length:=hi.length;refine SX.set_of (knd:=Qe X.prog X.w) (val:=λi=>ns.getD i 0) hd pl.isList (λi v e=>?_) (λi v A' E' s' Q' e q'=>?_) ?_ λh' tk g kp=>?_
  ·obtain ⟨t,rfl⟩:=a8I hi i v (by simpa using e)
   exact ⟨by simp [Qe,Value.isInt],rfl⟩
  ·obtain ⟨t,rfl⟩:=a8I hi i v (by simpa using e)
   exact (Qe X.prog X.w).pyHash (k:=ns.getD i 0) (by simp [Qe,Value.isInt]) q'
  ·have hsz:its.toArray.size=ns.length:=by rw [qP,hl]
   rw [hsz];exact vF h64 (by decide)
  ·have hsz:its.toArray.size=ns.length:=by rw [qP,hl]
   rw [hsz,yY] at g;refine Calls.spliced_nil (SX.sorted_setI hd g ?_ λh2 d2 tk2 D out ep k2 hs2 ho hout=>?_)
   ·rw [<-yY];exact vF (SX.metK_len _ _) h64
   ·have kk:∀ b o,s1.heap.get? b=some o->h2.get? b=some o:=λb o z=>k2 b o (kp b o (qN z) z)
    obtain ⟨so,_,_,_,hso,_⟩:=g.ex;have lt:s1.heap.objs.size<=D:=qk (jN (qN hso)) hs2;have hf:H1 D=none:=I1.hok.fresh lt;refine ⟨.ref D,_,Inv.draws (I1.laid (t':=tk2) (a:=D) (o:=.lst ((sortI (mB ns)).map V.int)) kk lt ⟨?_,out.toList,ep,xR hout,?_⟩),rfl,q _ hf⟩
    ·rw [qF,(sortI_perm _).length_eq,<-yY]
     exact qk (SX.metK_len _ _) (jN (nU (by omega)))
    ·rw [ho]
def b3o (hc:X.calm=true) (m1:X.mg "sorted" = none) (m2:X.mg "set" = none) (ha:DE X e fa) (h1:Gl X "sorted":=by rfl) (h2:Gl X "set":=by rfl) (he:j4 [e] X.env=(false,eval e X.env)::j4 [] X.env:=by rfl)
  (he2:j4 [.Call (.Name "set" p2) [e] [] pos2] X.env=(false,eval (.Call (.Name "set" p2) [e] [] pos2) X.env)::j4 [] X.env:=by rfl):DE X (.Call (.Name "sorted" p) [.Call (.Name "set" p2) [e] [] pos2] [] pos) (op1 a2O fa):=
 ⟨λpq s σ H Q I ⟨ρ,r,H0,Gz,G,ef,R,q⟩=>b1E hc h1 m1 h2 m2 boot_set (mS ha.run oS he) he he2 (λ_=>rfl) (λ_=>rfl) pq s σ H Q I (bE R ef q.x λx v G1 H1 g1 R1 rv e1=>by
  obtain ⟨d,ed,rfl⟩:=bW e1;unfold a2O at ed;split at ed
  ·split at ed
   ·rename_i xs ns e2
    split at ed
    ·rename_i h64
     cases (qA ed);have:=iN (g:=.int) (λd a q=>sX q) e2;subst this;cases rv with
     | list hq r=>
      have e3:=r.ints;subst e3;exact ⟨_,ns,rfl,g1.sub.seq hq,h64,λl hl=>q _ _ _ (g1.trans (.put g1.sub hl)) (.list (.of aH) (oR _))⟩
    ·cases ed
   ·cases ed
  ·cases ed)⟩
end
end L2.L3
namespace HT
open PySem PySem.Spec PyProof.Rows
def getItem_tuple_whole {t sl:Addr} {vl:Value} {lo hi:Option Int} (ht:IsTup s.heap t items) (hs:s.heap.IsSliceOf sl vl vu .none) (pl:QV vl lo) (pu:QV vu hi)
  (hw:sIx items.size 0 lo=0/\sIx items.size items.size hi=items.size) (h:Q (.ref t) s):wpAny (model prog w) A (Qd (.ref t) (.ref sl)) Q E s:=by
 obtain ⟨os,hos,hcs,hds⟩:=id hs;have hTs:s.TypeIs (.ref sl) "slice" := ⟨os,hos,hcs⟩;unfold Qd
 try with_reducible refine wz ?_
 first | refine q8 (j3 ?_) | skip
 refine q8 (wpAny_sequenceKey ht.typeIs (by decide) ?_)
 refine q8 (j9 (name:=jB "__getitem__") ht.typeIs ja
  (j7 ja ht.typeIs entry_tuple_getitem ?_ (args_tuple_getitem _ _)))
 show wpAny _ _ (vc (.ref t)>>=_) _ _ s;refine q8 (tupleItemsOf_ ht ?_);refine q8 (y0 hTs ?_);rw [if_pos (by decide)];refine q8 (nV hs pl pu ?_);have hyes:(((sIx items.size 0 lo:Nat):Int)==0&&(1:Int)==1&&(sIx items.size items.size hi - sIx items.size 0 lo)==items.size)=true:=by
  rw [hw.1,hw.2];simp
 show wpAny _ _ (if (((sIx items.size 0 lo:Nat):Int)==0&&(1:Int)==1&&(sIx items.size items.size hi - sIx items.size 0 lo)==items.size)=true then _ else _) _ _ s;rw [if_pos hyes];unfold Builtin.Tuple.tupleIsExact;have hT:=ht.typeIs;refine q8 (q8 (y0 hT (j3 ?_)));rw [if_pos (by decide)]
 first
  | exact q8 (yd (q8 (j3 (j3 ⟨_,rfl,j3 h⟩))))
  | exact q8 (yd (j3 ⟨_,rfl,j3 h⟩))
end HT
namespace L2
open PySem PySem.Spec PyProof.Rows
def b4e:SlR X (λx lo hi H Q=>∃ a xs,x=.ref a/\SqT X.K H a xs/\(HT.sIx xs.length 0 lo=0/\HT.sIx xs.length xs.length hi=xs.length)/\Q (.ref a) H):=by
 intro pq s σ H x v vl vu lo hi sl Q I rx hs pl pu h;obtain ⟨a,xs,rfl,hx,hw,q⟩:=h;cases rx;obtain ⟨its,r,ht,hz⟩:=I.tuple hx;have hlen:its.toArray.size=xs.length:=by rw [qP];exact r.length.symm
 refine ⟨"tuple", _,ja.lookup,ht.typeIs,?_⟩;exact HT.getItem_tuple_whole ht hs pl pu (by rw [hlen];exact hw) ⟨.ref a,H,I,rfl,q⟩
end L2
namespace L2.L3
open PySem PySem.Spec PyProof.Rows
variable {a:Expr}
def slX (x:j0) (lo hi:Option Int):Option j0:=match x with
 | .tuple ds=>if HT.sIx ds.length 0 lo=0/\HT.sIx ds.length ds.length hi=ds.length then some x else some (.tuple (cutD ds lo hi))
 | _=>none
def b1c (fa:EF) (lo hi:OF):EF:=λρ=>bnd (fa ρ) λx=>bnd (lo ρ) λl=>bnd (hi ρ) λh=>lft (slX x l h)
def b3r (ha:DE X a fa) (hl:DO X lo fl) (hh:DO X hi fh):DE X (.Subscript a (.Slice lo hi none p2) pos) (b1c fa fl fh):=⟨λpq s σ H Q I ⟨ρ,r,H0,Gz,G,e,R,q⟩=>
 a5z (b4e.or b1b) ha.run hl.run hh.run pq s σ H Q I (bE R e q.x λx v G1 H1 g1 R1 rv e1=>bO R1 e1 (q.more g1).x λl G2 H2 g2 R2 e2=>bO R2 e2 ((q.more g1).more g2).x λh G3 H3 g3 R3 e3=>by
  obtain ⟨d,ed,rfl⟩:=bW e3;have g23:=g2.trans g3;unfold slX at ed;split at ed
  ·split at ed
   ·rename_i hw
    cases (qA ed);cases rv with
    | tuple hq r=>exact .inl ⟨_,_,rfl,lI (g23.gg.trans g23.sub) hq,by rw [r.length];exact hw,q _ _ _ (g1.trans g23) (.tuple (lI g23.gg hq) (r.mono g23.gg))⟩
   ·rename_i hw
    cases (qA ed);cases rv with
    | tuple hq r=>
     refine .inr ⟨_,_,rfl,lI (g23.gg.trans g23.sub) hq,by rw [r.length];exact hw,λl hl=>q _ _ _ ((g1.trans g23).trans (.put g23.sub hl)) ?_⟩;exact .tuple (.of aH) (a2d (r.mono (g23.gg.trans (bF (g23.sub.free hl)))) _ _)
  ·cases ed)⟩
open PySem.AutoSeq1 (wpAny_loadPart')
def b0c (l:Addr) (items:Array Value) (n:Nat) (dct:T0k) (sl:Array (Option Value)):
  Meets (Builtin.«enumerate.__new__» ⟨[.type "enumerate", .ref l],[]⟩) (λ_ R s=>s.heap.get? l=some { cls:=.type "tuple", dict:=dct,data:=.seq items n,slots:=sl } /\
   R (.ok (.ret (.ref (s.heap.push { cls:=.type "tuple_iterator", data:=.fields #[.ref l,.int 0 0] }).objs.size)))
    { s with heap:=(s.heap.push { cls:=.type "tuple_iterator", data:=.fields #[.ref l,.int 0 0] }).push { cls:=.type "enumerate", data:=.fields #[.none,.bool false,.ref s.heap.objs.size,v7 0,.none,.none] } }):=
 .of_wp λprog w A R s h=>by
  obtain ⟨hp,g,d,tk,os⟩:=s;obtain ⟨hl,h⟩:=h;have hsub:=sub_enumerate;have hL:Heap.IsTuple (Shared.heap ⟨hp,g,d,tk,os⟩) l items:=⟨_,hl,rfl,n,rfl⟩
  wp_walk using ut hl
  refine wpAny_stack_any λst=>j3 ?_;split
  ·rename_i c _ _ _ _ _
   cases (c==zH "enumerate")<;>(wp_walk using ut hl,uv hL;exact ⟨_,rfl,h⟩)
  ·wp_walk using ut hl,uv hL
   exact ⟨_,rfl,h⟩
def a7O (hL:s.heap.IsTuple l items)
  (h:∀ h',IsEnum h' (s.heap.objs.size+1) s.heap.objs.size 0 .none->h'.IsTupleIter s.heap.objs.size l 0->(∀ b o,s.heap.get? b=some o->h'.get? b=some o)->Q (.ref (s.heap.objs.size+1)) { s with heap:=h' }):
  wpAny (model prog w) A (call (.type "enumerate") [.ref l]) Q E s:=by
 obtain ⟨⟨c,dct,dt,sl⟩,hl,hc,n,hd⟩:=hL;obtain rfl:c=.type "tuple" := hc;obtain rfl:dt=.seq items n:=hd;refine callType_new F.called_enumerate (by decide) (F.typeCall_enumerate_1 _) (F.newCall_enumerate_1 _) (λobj=>F.args_object_init_2 obj _) F.entry_enumerate_new (b0c l items n dct sl) ⟨hl,?_⟩;generalize hI:s.heap.push { cls:=.type "tuple_iterator", data:=.fields #[.ref l,.int 0 0] }=hh;have hz:hh.objs.size=s.heap.objs.size+1:=by rw [<-hI,qv]
 have it:hh.get? s.heap.objs.size=some { cls:=.type "tuple_iterator", data:=.fields #[.ref l,.int 0 0] }:=by rw [<-hI];exact qJ _ rfl
 have kp:∀ b o,s.heap.get? b=some o->hh.get? b=some o:=λb o e=>by rw [<-hI];exact qC _ e
 show _/\_;rw [hz];have he:IsEnum (hh.push { cls:=.type "enumerate", data:=.fields #[.none,.bool false,.ref s.heap.objs.size,v7 0,.none,.none] }) (s.heap.objs.size+1) s.heap.objs.size 0 .none:=by
  have:=qJ hh (o:={ cls:=.type "enumerate", data:=.fields #[.none,.bool false,.ref s.heap.objs.size,v7 0,.none,.none] }) rfl;rw [hz] at this;exact this
 exact ⟨⟨_,he,rfl⟩,h _ he ⟨_,qC _ it,rfl,rfl⟩ λb o x=>qC _ (kp b o x)⟩
def b8C (hh:A.handled=none) (it l:Addr) (hne:l≠it) (items:Array Value):Draws prog w A it [it,l] items.size (λi v=>items[i]?=some v) (λi h=>h.IsTupleIter it l i/\h.IsTuple l items) where
 live:=λ_ _ st=>let ⟨o,ho,_⟩:=st.1;⟨o,ho⟩
 frame:=λ_ _ _ st hk=>⟨st.1.at λo e=>hk it (by simp) o e,by
  obtain ⟨o,ho,r⟩:=st.2
  exact ⟨o,hk l (by simp) o ho,r⟩⟩
 item:=λi s Q E hi st hQ=>by
  refine L2.ZT.tup_next st.1 st.2 (x:=items[i]) (by simp [hi]) λh' hit' hs'=>?_;obtain ⟨o,ho,r⟩:=st.2;exact hQ _ h' s.toks (by simp [hi]) ⟨hit',⟨o,hs'.extBut l o hne ho,r⟩⟩ hs'
 done:=λs Q E st hE=>L2.ZT.tup_stop hh st.1 st.2 (by simp) hE
def b8D (hh:A.handled=none) (it l:Addr) (items:Array Value) (n:Nat) (hn:items.size<=n):Draws prog w A it [it,l] n (λ_ _=>True) (λi h=>i=n/\h.IsTupleIter it l n/\h.IsTuple l items) where
 live:=λ_ _ st=>let ⟨o,ho,_⟩:=st.2.1;⟨o,ho⟩
 frame:=λ_ _ _ st hk=>⟨st.1,st.2.1.at λo e=>hk it (by simp) o e,by
  obtain ⟨o,ho,r⟩:=st.2.2
  exact ⟨o,hk l (by simp) o ho,r⟩⟩
 item:=λi s Q E hi st hQ=>by have:=st.1;omega
 done:=λs Q E st hE=>L2.ZT.tup_stop hh st.2.1 st.2.2 (by simp;omega) hE
def Itm (K:qB) (l:Addr):It:=
 ⟨λi H=>∃ xs x,SqT K H l xs/\xs[i]?=some x,
 λi H v H'=>∃ T x,H T=none/\v=.ref T/\H'=upd H T (.tup [.int (i:Int),x])/\∀ xs,SqT K H l xs->xs[i]?=some x,
 λi H=>∃ xs,SqT K H l xs/\xs.length<=i⟩
def b3Z (e it l:Addr) (i:Nat) (h:Heap):Prop:=(∃ old,IsEnum h e it i old)/\h.IsTupleIter it l i
def a6R {K:qB} {e:Addr} (hne:e≠it) (hli:l≠it) (hel:e≠l):Turn P w K (.Tuple pj k0 p0) (Itm K l) [e,it] e (b3Z e it l) where
 mem:=by simp
 obj:=λi h ⟨⟨old,he⟩,⟨o1,g1,_,d1⟩⟩ c hc=>by
  simp only [qI,qp,or_false] at hc;rcases hc with rfl | rfl
  ·exact ⟨_,he,λv q=>by cases q⟩
  ·exact ⟨o1,g1,λv q=>by rw [d1] at q;cases q⟩
 keep:=λi h h' ⟨⟨old,he⟩,h1⟩ kp=>⟨⟨old,kp e (by simp) _ he⟩,h1.at λo q=>kp it (by simp) o q⟩
 item:=by
  intro X hP hw hK hc i pq s σ H E I hf ⟨⟨old,he⟩,h1⟩ ⟨xs,x,q1,ex⟩;subst hP hw hK;obtain ⟨its,r1,p1,_⟩:=I.tuple q1;obtain ⟨u,eu,ru⟩:=r1.get ex;have hi:i<its.length:=(qR.mp eu).1;have p1':s.heap.IsTuple l its.toArray:=p1;refine wpAny_pyNext_enum_itemD (b8C (by rw [Around.in1_handled];exact I.ok.hd hc) it l hli its.toArray) he ⟨h1,p1'⟩ (by rw [qP];exact hi) hne (by simp [hne,hel]) λx' h' tk hx a1 a2 a3 a4 hk=>⟨_,rfl,?_⟩;rw [jP,eu] at hx;cases hx;refine wpAny_letOwnedTupleGo_enum a1 λh2' hz' hs'=>?_;have hk2:∀ c o,c∉[e,it]->s.heap.get? c=some o->h2'.get? c=some o:=λc o hc q=>by
   simp only [qI,qp,or_false,not_or] at hc;exact hs'.extBut c o hc.1 (hk c o hc.1 hc.2 q)
  have nT:s.heap.objs.size≠e:=jS (qN he);have new:cM X.prog X.w (upd H s.heap.objs.size (.tup [.int (i:Int),x])) h2' s.heap.objs.size (.tup [.int (i:Int),x]):=
   ⟨by show 2<=j5;decide,[.int i tk,u],.cons ⟨_,rfl⟩ (.cons ru .nil),⟨_,hs'.extBut _ _ nT a3,rfl,_,rfl⟩⟩
  have hfT:H s.heap.objs.size=none:=I.hok.fresh (qM _)
  refine ⟨.ref s.heap.objs.size,upd H s.heap.objs.size (.tup [.int (i:Int),x]),Inv.turnNew (s:=s) (h':=h2') (t':=tk+1) [e,it] I (λc hc=>hf c hc) hk2 (qM _) new,rfl,
   ⟨_,x,hfT,rfl,rfl,λxs' q=>by rw [I.tuple_inj q q1];exact ex⟩,⟨⟨u,hz'⟩,a2.1.extBut hs'.extBut (jT hne)⟩,λc hc=>?_⟩
  obtain ⟨o,q,_⟩:∃ o,s.heap.get? c=some o/\True:=by
   simp only [qI,qp,or_false] at hc;rcases hc with rfl | rfl
   ·exact ⟨_,he,trivial⟩
   ·obtain ⟨o,g,_⟩:=h1;exact ⟨o,g,trivial⟩
  rw [aE (qc (qN q))];exact (hf c hc).1
 done:=by
  intro X hP hw hK hc i pq s σ H E I hf ⟨⟨old,he⟩,h1⟩ ⟨xs,q1,hend⟩;subst hP hw hK;obtain ⟨its,r1,p1,_⟩:=I.tuple q1;have l1':=r1.length;have p1':s.heap.IsTuple l its.toArray:=p1;refine wpAny_pyNext_enum_endD (b8D (by rw [Around.in1_handled];exact I.ok.hd hc) it l its.toArray i (by rw [qP];omega)) he ⟨rfl,h1,p1'⟩ λh' hk=>⟨rfl,Inv.turnAll (t':=s.toks) [e,it] I (λc hc=>hf c hc) λc o hc q=>?_⟩;simp only [qI,qp,or_false,not_or] at hc;exact hk c o hc.2 q
 self:=λA i s Q E ⟨⟨old,he⟩,_⟩ h=>u1 he h
def a6L {K:qB} (h1:SqT K G l xs) (r1:RepAll K G xs ds):Walk K (Itm K l) G (lX ds):=by
 intro i G' H' s1 s2;have a1:=lI (s1.trans s2) h1;refine ⟨λd e=>?_,λhl=>⟨xs,a1,?_⟩⟩
 ·rw [a8R] at e
  obtain ⟨p,e1,rfl⟩:=qU.mp e;obtain ⟨v,ev,rv⟩:=r1.get e1;refine ⟨⟨xs,v,a1,ev⟩,λx H2 ⟨T,x',hT,ex,eH,b1⟩=>?_⟩;subst ex eH;have b3:=b1 xs a1;rw [ev] at b3;cases b3;have hG:G' T=none:=s2.free hT;exact ⟨upd G' T (.tup [.int (i:Int),v]),.put s2 hT,.tuple (.of aH) (.cons (.int _) (.cons ((rv.mono s1).mono (bF hG)) .nil))⟩
 ·unfold lX at hl
  rw [qF,qx] at hl;have e1:=r1.length;omega
def a3J (fa:EF):AF:=λρ=>match fa ρ with
 | some (.ok (.tuple a))=>some (.ok (lX a))
 | _=>none
def a6m (hm:X.mg "enumerate" = none) (ha:DE X a fa) (hs:j4 [a] X.env=(false,eval a X.env)::j4 [] X.env:=by rfl)
  (hpl:(v8 pos (j4 [] X.env)).any (·.1)=false:=by rfl) (hg:Gl X "enumerate":=by rfl):DI X (.Tuple pj k0 p0) (.Call (.Name "enumerate" p) [a] [] pos) (a3J fa):=a3N λρ r e=>by
 unfold a3J at e;split at e
 ·rename_i as e1
  refine ⟨_,(qA e).symm,⟨?_⟩⟩;intro pq s σ H R I ⟨H0,Gz,G,S,q⟩;have pa:=gI (ha.pd e1) mR hs;refine k9 (iV I hg hm boot_enumerate ?_ (by decide) (by decide));refine jq (thn (pa.run H0 Gz G pos pq s σ H (λvs H'=>∃ G',Grow G H G' H'/\RepAll X.K G' vs [.tuple as]) I S λvs G' H' g r=>⟨G',g,r⟩) λus s1 ⟨vs,H1,I1,r1,G1,g1,w1⟩=>?_) hs hpl;cases w1 with
  | cons wa wn=>
   cases wn;cases wa with
   | @tuple l xs _ hq ra=>
    obtain ⟨u,rfl,ru⟩:=vals1 r1;cases ru;obtain ⟨its,r1',p1,_⟩:=I1.tuple (lI g1.sub hq);have lt:l<s1.heap.objs.size:=by obtain ⟨o,ho,_⟩:=p1;exact qN ho
    refine a7O (show s1.heap.IsTuple l its.toArray from p1) λh' z1 z2 hk=>?_;refine u1 z1 ?_;refine ⟨s1.heap.objs.size+1,[s1.heap.objs.size+1,s1.heap.objs.size],_,_,H1,rfl,I1.kept (h':=h') (t':=s1.toks) (λb o e=>hk b o e),a6R (Nat.succ_ne_self _) (qc lt) (jS (jl lt)),⟨⟨_,z1⟩,z2⟩,λc hc=>?_,q _ G1 H1 g1 (a6L hq ra)⟩;have ge:s1.heap.objs.size<=c:=by
     simp only [qI,qp,or_false] at hc;rcases hc with h | h<;>rw [h]<;>first | exact ve _ _ | exact qM _
    exact I1.fpOk ge (I1.hok.fresh ge)
 ·cases e
end L2.L3
namespace L2.L3
def a0H {α:Type} {l:List α} (h:l.length=1):∃ a,l=[a]:=by
 cases l with
 | nil=>cases h
 | cons a l=>cases l with
  | nil=>exact ⟨a,rfl⟩
  | cons b l=>simp at h
def b5i {α:Type} {l:List α} (h:l.length=n+1):∃ a r,l=a::r/\r.length=n:=by
 cases l with
 | nil=>cases h
 | cons a r=>exact ⟨a,r,rfl,by simpa using h⟩
def a5U {α:Type} {l:List α} (h:l.length=2):∃ a b,l=[a,b]:=by
 obtain ⟨a,r,rfl,k⟩:=b5i h;obtain ⟨b,rfl⟩:=a0H k;exact ⟨a,b,rfl⟩
def a2A {α:Type} {l:List α} (h:l.length=3):∃ a b c,l=[a,b,c]:=by
 obtain ⟨a,r,rfl,k⟩:=b5i h;obtain ⟨b,c,rfl⟩:=a5U k;exact ⟨a,b,c,rfl⟩
def b9N {α:Type} {l:List α} (h:l.length=4):∃ a b c d,l=[a,b,c,d]:=by
 obtain ⟨a,r,rfl,k⟩:=b5i h;obtain ⟨b,c,d,rfl⟩:=a2A k;exact ⟨a,b,c,d,rfl⟩
def c1o {α:Type} {l:List α} (h:l.length=5):∃ a b c d e,l=[a,b,c,d,e]:=by
 obtain ⟨a,r,rfl,k⟩:=b5i h;obtain ⟨b,c,d,e,rfl⟩:=b9N k;exact ⟨a,b,c,d,e,rfl⟩
end L2.L3
namespace L2.L3
open PySem PySem.Spec PyProof.Rows
abbrev nE:EF:=eD (.nm 0) [none,some 2] (gC (var 0)) ttT (op2 uU (var 1) (op2 ixD (var 0) (cst (.int 0))))
abbrev tO:EF:=eD (.tp [0,1]) [none,none,some 4,some 5] (b2V (var 1)) (a6z (iC leD (var 3) (var 1)) (orT (isT false (.none) (var 2)) (iC ltD (var 1) (var 2)))) (var 0)
abbrev nM:SF:=aQ (eZ 6 tO) (aQ (uH 3 (mI (aC (var 5) (aC (var 6) aK)))) (eZ 4 (var 5)))
def oZ:SF:=(aQ (a2y 3 aK) (aQ (eZ 4 (cst .none)) (aQ (nZ (.nm 5) (b1n (op1 a2O nE)) nM) (a2D 3 (retS (var 3))))))
def pH:List j0->Mm j0:=bZ 7 3 oZ
abbrev a1N:EF:=eD (.nm 0) [none,some 2,some 4] (gC (var 1)) (iC geD (op2 uU (var 1) (op2 ixD (var 0) (cst (.int 0)))) (var 2)) (var 0)
abbrev a0W:TF:=iC gtD (aX dP (aC a1N aK)) (var 3)
abbrev dF:SF:=aQ (b0A 3 .Add (cJ iQ (aC (var 5) aK))) (ifS a0W (retS (cst (.bool false))) iU)
def yS:SF:=(aQ (eZ 3 (cst (.int 0))) (aQ (nZ (.tp [4,5]) (gC (var 0)) dF) (retS (cst (.bool true)))))
def iE:List j0->Mm j0:=bZ 6 3 yS
def gL:SF:=(retS (mkF (aC (op1 (cS 0) (var 0)) (aC (op1 (cS 1) (var 0)) (aC (slE (op1 (cS 2) (var 0)) (rB (cst (.int 1))) uR) (aC (op2 cR (op1 (cS 3) (var 0)) (b1c (op1 (cS 2) (var 0)) uR (rB (cst (.int 1))))) aK))))))
def bU:List j0->Mm j0:=bZ 1 1 gL
def lU:SF:=(retS (mkF (aC (op1 (cS 0) (var 0)) (aC (op2 cR (op1 (cS 1) (var 0)) (b1c (op1 (cS 2) (var 0)) uR (rB (cst (.int 1))))) (aC (slE (op1 (cS 2) (var 0)) (rB (cst (.int 1))) uR) (aC (op1 (cS 3) (var 0)) aK))))))
def dQ:List j0->Mm j0:=bZ 1 1 lU
abbrev fZ:TF:=a6z (iC ltD (op2 uU (var 1) (op2 ixD (op2 ixD (op1 (cS 2) (var 2)) (cst (.int 0))) (cst (.int 0)))) (var 3)) (tV (aX iE (aC (var 5) (aC (op1 (cS 3) (iP bU (var 2))) (aC (var 1) aK)))))
abbrev fY:TF:=iC leD (aX dP (aC (op1 (cS 1) (iP dQ (var 2))) aK)) (cJ iQ (aC (var 4) aK))
def hX:SF:=(aQ (eZ 3 (op2 ixD (op2 ixD (var 0) (cJ iQ (aC (op1 (cS 0) (var 2)) aK))) (cst (.int 0)))) (aQ (eZ 4 (op2 ixD (op2 ixD (var 0) (cJ iQ (aC (op1 (cS 0) (var 2)) aK))) (cst (.int 1)))) (aQ (eZ 5 (slE (var 0) (rB (op2 cR (cJ iQ (aC (op1 (cS 0) (var 2)) aK)) (cst (.int 1)))) uR)) (aQ (a2y 6 aK) (aQ (ifS fZ (uH 6 (iP bU (var 2))) iU) (aQ (ifS fY (uH 6 (iP dQ (var 2))) iU) (a2D 6 (retS (var 6)))))))))
def eY:List j0->Mm j0:=bZ 7 3 hX
def lV:SF:=(retS (mkF (aC (op2 cR (op1 (cS 0) (var 0)) (mI (aC (op1 (cS 1) (var 0)) aK))) (aC (mI aK) (aC (op1 (cS 3) (var 0)) (aC (mI aK) aK))))))
def mH:List j0->Mm j0:=bZ 1 1 lV
abbrev oI:TF:=tV (op1 (cS 2) (var 2))
abbrev a1L:EF:=eD (.nm 0) [none,some 2,some 3] (gC (op1 (cS 3) (var 2))) ttT (a4Y leD (aX dP (aC (op2 cR (op1 (cS 1) (var 1)) (mI (aC (var 0) aK))) aK)) (cJ iQ (aC (var 2) aK)))
abbrev a0V:TF:=tV (cJ anyB (aC a1L aK))
def yP:SF:=(aQ (ifS oI (retS (aX eY (aC (var 0) (aC (var 1) (aC (var 2) aK))))) iU) (aQ (eZ 3 (op2 ixD (op2 ixD (var 0) (cJ iQ (aC (op1 (cS 0) (var 2)) aK))) (cst (.int 1)))) (aQ (ifS a0V (retS (pR aK)) iU) (retS (pR (aC (iP mH (var 2)) aK))))))
def a0m:List j0->Mm j0:=bZ 4 3 yP
abbrev mU:EF:=mI (aC (op1 b4Y (op2 uU (var 1) (op2 ixD (var 0) (cst (.int 0))))) (aC (var 0) aK))
noncomputable def uF:SF:=(retS (cJ a4f (aC (a1e (var 0) [some 1] mU) aK)))
noncomputable def pK:List j0->Mm j0:=bZ 2 2 uF
def a1W:SF:=(retS (mI (aC (cJ iQ (aC (op1 (cS 0) (var 0)) aK)) (aC (op1 (cS 1) (var 0)) (aC (op1 (cS 2) (var 0)) (aC (op1 (cS 3) (var 0)) aK))))))
def oE:List j0->Mm j0:=bZ 1 1 a1W
abbrev mK:TF:=iC eqD (cJ iQ (aC (op1 (cS 0) (var 5)) aK)) (cJ iQ (aC (var 0) aK))
noncomputable abbrev mJ (w:World):TF:=a5E w 3 (iP oE (var 6))
noncomputable abbrev gQ (w:World):SF:=ifS (mJ w) (aQ (a2Z w 3 (iP oE (var 6)) (cst (.bool true))) (uH 4 (var 6))) iU
noncomputable abbrev cF (w:World):SF:=aQ (a8j 4 5) (aQ (ifS mK (retS (op1 (cS 0) (var 5))) iU) (nZ (.nm 6) (gC (aX a0m (aC (var 0) (aC (var 2) (aC (var 5) aK))))) (gQ w)))
abbrev cY:TF:=thT (tV (var 4))
noncomputable def hZ (w:World):SF:=(aQ (b6w w 3) (aQ (a2y 4 (aC (mkF (aC (mI aK) (aC (mI aK) (aC (aX pK (aC (var 1) (aC (var 2) aK))) (aC (mI aK) aK))))) aK)) (aQ (fM cY (cF w) 20000) (retS (cst .none)))))
noncomputable def dR (w:World):List j0->Mm j0:=bZ 7 3 (hZ w)
abbrev tI:TF:=isT false (.none) (var 4)
abbrev nN:SF:=a3a 5 (var 8) (op2 ixD (op2 ixD (var 6) (cst (.int 1))) (var 9))
abbrev nK:SF:=nZ (.tp [8,9]) (b2u oF (aC (var 7) aK)) nN
noncomputable def gN (w:World):SF:=(aQ (eZ 3 (aX pH (aC (var 0) (aC (var 1) (aC (var 2) aK))))) (aQ (eZ 4 (ifE (tV (aX iE (aC (var 3) (aC (var 0) (aC (var 2) aK))))) (aX (dR w) (aC (var 3) (aC (var 0) (aC (var 2) aK)))) (cst .none))) (aQ (ifS tI (retS (cst .none)) iU) (aQ (b4X 5) (aQ (nZ (.tp [6,7]) (a2G (var 3) (var 4)) nK) (a2D 5 (retS (var 5))))))))
noncomputable def cK (w:World):List j0->Mm j0:=bZ 10 3 (gN w)
abbrev pM:TF:=isT false (.none) (var 5)
noncomputable abbrev bD (w:World):SF:=aQ (eZ 5 (aX (cK w) (aC (aX tE (aC (var 0) (aC (var 4) aK))) (aC (var 1) (aC (var 2) aK))))) (aQ (ifS pM (retS (cst .none)) iU) (a5o 3 (var 5)))
noncomputable def eR (w:World):SF:=(aQ (b4X 3) (aQ (nZ (.nm 4) (gC (aX rY (aC (var 0) aK))) (bD w)) (a2D 3 (retS (var 3)))))
noncomputable def cC (w:World):List j0->Mm j0:=bZ 6 3 (eR w)
def a6i (s:List Mt) (m:Int) (hS:tW S=some (s.map dM)) (h:s.length<=100000):pI [S,.int m]=some (.ok (.list ((fI s m).map .str))):=by
 refine aV rfl ?_;show lT [.val S,.val (.int m)]=_;unfold lT;have:=eX (t:=.tp [0,1,2]) (cap:=[none,none,none,some 1]) (fi:=gC (var 0)) (ft:=b3A leD ltD (var 1) (var 3) (var 2)) (fe:=var 0) (ρ:=[.val S,.val (.int m)]) dM (λx=>[.val (.str x.1),.val (.int x.2.1),.val (.int x.2.2),.val (.int m)]) (cQ m) (λx=>.str x.1) s (oM rfl hS) h (λx _=>rfl) (λx _=>by simp [sV,cQ]) (λx _ _=>rfl);rw [eG,aT this];simp [fI]
def a7I (s:List Mt) (m:Int) (hS:tW S=some (s.map dM)) (h:s.length<=100000):tF [S,.int m]=some (.ok (.int (bB s m))):=by
 refine aV rfl ?_;show oB [.val S,.val (.int m)]=_;unfold oB;rw [eG,gP (ds:=[.list ((fI s m).map .str)]) (by rw [mX,aW (ds:=[S,.int m]) rfl (a6i s m hS h)];rfl) (b2n _)];simp [bB,bns]
def b5H (s:List Mt) (hS:tW S=some (s.map dM)) (hz:s.length<=1000):dP [S]=some (.ok (.int (aY s))):=by
 have k1:iW [.val S]=some (.ok (.list ((s.map λx=>bB s x.2.1).map .int))):=by
  rw [qT];exact cN dM (λx=>[.val (.str x.1),.val (.int x.2.1),.val (.int x.2.2),.val S]) (λx=>.int (bB s x.2.1)) s (oM rfl hS) (by omega) (λx _=>by simp [cU]) (λx _=>aW (ds:=[S,.int x.2.1]) rfl (a7I s x.2.1 hS (by omega)))
 refine aV rfl ?_;show eQ [.val S]=_;unfold eQ
 rw [eG,b6I (x:=.list ((s.map λx=>bB s x.2.1).map .int)) (y:=.int 0) k1 rfl (d:=.int (aY s)) (by
  unfold a5K aY;dsimp only;rw [sW];cases s with
  | nil=>rfl
  | cons a r=>rfl)]
 rfl
abbrev Sf:=Int×List Int
abbrev dSf (f:Sf):j0:=.tuple [.int f.1,.list (f.2.map .int)]
abbrev dSh (sh:List Sf):j0:=.list (sh.map dSf)
def pS (D:j0) (h:Mt->Int) (s:List Mt):Prop:=∀ m∈s,uU D (.str m.1)=some (.int (h m))
def eI (h:Mt->Int) (ms:List Mt):Int->List Sf->Bool
 | _,[]=>true
 | many,f::sh=>if many+(f.2.length:Nat)<aY (ms.filter λm=>decide (f.1<=h m)) then false else eI h ms (many+(f.2.length:Nat)) sh
section
variable {h:Mt->Int}
def b9Q (hd:pS D h ms) (hz:ms.length<=1000) {A:Ent} {n:Int} {f:Sf} {x5:Ent}:a1N [A,.val (dS ms),.val D,.val (.int n),.val (.int f.1),x5]=some (.ok (.list ((ms.filter λm=>decide (f.1<=h m)).map dM))):=
 eX dM (λm=>[.val (dM m),.val D,.val (.int f.1)]) (λm=>decide (f.1<=h m)) dM ms rfl (by omega) (λ_ _=>rfl) (λm hm=>iK (bV rfl rfl (hd m hm)) rfl rfl) (λ_ _ _=>rfl)
def c0m (hd:pS D h ms) (hz:ms.length<=1000) (A:Ent) (n:Int) (f:Sf):dF [A,.val (dS ms),.val D,.val (.int n),.val (.int f.1),.val (.list (f.2.map .int))] =
  if n+(f.2.length:Nat)<aY (ms.filter λm=>decide (f.1<=h m)) then some (.rt (.bool false)) else some (.nx [A,.val (dS ms),.val D,.val (.int (n+(f.2.length:Nat))),.val (.int f.1),.val (.list (f.2.map .int))]):=by
 have s1:b0A 3 .Add (cJ iQ (aC (var 5) aK)) [A,.val (dS ms),.val D,.val (.int n),.val (.int f.1),.val (.list (f.2.map .int))]=some (.nx [A,.val (dS ms),.val D,.val (.int (n+(f.2.length:Nat))),.val (.int f.1),.val (.list (f.2.map .int))]):=by
  show (match c0n .Add (.int n) (.int ((f.2.map jg).length:Nat)) with | some d=>some (So.nx ([A,Ent.val (dS ms),.val D,.val (.int n),.val (.int f.1),.val (.list (f.2.map .int))].set 3 (.val d))) | none=>none)=_;rw [qF];rfl
 have t1:a0W [A,.val (dS ms),.val D,.val (.int (n+(f.2.length:Nat))),.val (.int f.1),.val (.list (f.2.map .int))]=some (.ok (decide (n+(f.2.length:Nat)<aY (ms.filter λm=>decide (f.1<=h m))))):=
  iK (aW (aM (b9Q hd hz) rfl) (b5H _ rfl (qk (zm _ _) hz))) rfl rfl
 show aQ _ _ _=_;rw [aJ s1,lR,aT t1];by_cases c:n+(f.2.length:Nat)<aY (ms.filter λm=>decide (f.1<=h m))
 ·rw [decide_eq_true c,if_pos rfl,if_pos c];rfl
 ·rw [decide_eq_false c,if_neg (by decide),if_neg c];rfl
theorem a5M (hd:pS D h ms) (hz:ms.length<=1000) (A:Ent):∀ (sh:List Sf) (n:Int) (x4 x5:Ent),(eI h ms n sh=true->∃ ρ',bG (.tp [4,5]) dF (sh.map dSf) [A,.val (dS ms),.val D,.val (.int n),x4,x5]=some (.nx ρ')) /\
  (eI h ms n sh=false->bG (.tp [4,5]) dF (sh.map dSf) [A,.val (dS ms),.val D,.val (.int n),x4,x5]=some (.rt (.bool false)))
 | [],n,x4,x5=>⟨λ_=>⟨_,rfl⟩,λz=>by cases z⟩
 | f::sh,n,x4,x5=>by
  have e:=c0m hd hz A n f
  have e1:bG (.tp [4,5]) dF ((f::sh).map dSf) [A,.val (dS ms),.val D,.val (.int n),x4,x5]=(match dF [A,.val (dS ms),.val D,.val (.int n),.val (.int f.1),.val (.list (f.2.map .int))] with
   | some (.nx ρ2)=>bG (.tp [4,5]) dF (sh.map dSf) ρ2
   | some (.ct ρ2)=>bG (.tp [4,5]) dF (sh.map dSf) ρ2
   | some (.bk ρ2)=>some (.nx ρ2)
   | some (.rt d)=>some (.rt d)
   | some (.xc c ρ2)=>some (.xc c ρ2)
   | none=>none):=rfl
  rw [e1,e];unfold eI;by_cases c:n+(f.2.length:Nat)<aY (ms.filter λm=>decide (f.1<=h m))
  ·rw [if_pos c,if_pos c]
   exact ⟨(λz=>nomatch z),λ_=>rfl⟩
  ·rw [if_neg c,if_neg c]
   exact a5M hd hz A sh _ _ _
def a3M (hd:pS D h ms) (hz:ms.length<=1000) (sh:List Sf):iE [dSh sh,dS ms,D]=some (.ok (.bool (eI h ms 0 sh))):=by
 refine aV rfl ?_;show yS [.val (dSh sh),.val (dS ms),.val D,.no,.no,.no]=_;unfold yS;rw [aJ (ρ':=[.val (dSh sh),.val (dS ms),.val D,.val (.int 0),.no,.no]) rfl];obtain ⟨h1,h2⟩:=a5M hd hz (.val (dSh sh)) sh 0 .no .no;have e1:nZ (.tp [4,5]) (gC (var 0)) dF [.val (dSh sh),.val (dS ms),.val D,.val (.int 0),.no,.no]=bG (.tp [4,5]) dF (sh.map dSf) [.val (dSh sh),.val (dS ms),.val D,.val (.int 0),.no,.no]:=rfl;cases c:eI h ms 0 sh with
 | true=>
  obtain ⟨ρ',e⟩:=h1 c;rw [aJ (e1.trans e)];rfl
 | false=>rw [fF (e1.trans (h2 c))]
end
structure Fl where
 fi:List (List Mt)
 tk:List Mt
 wt:List Mt
 lf:List Mt
abbrev dFl (x:Fl):j0:=fD [.tuple (x.fi.map dS),dS x.tk,dS x.wt,dS x.lf]
def Fl.wth (x:Fl):Fl:=⟨x.fi,x.tk++x.wt.take 1,x.wt.drop 1,x.lf⟩
def Fl.wout (x:Fl):Fl:=⟨x.fi,x.tk,x.wt.drop 1,x.lf++x.wt.take 1⟩
def Fl.on (x:Fl):Fl:=⟨x.fi++[x.tk],[],x.lf,[]⟩
def a4C {fA:AF} (h:fA ρ=some (.ok ds)) (hl:ds.length=4):mkF fA ρ=some (.ok (fD ds)):=by
 unfold mkF;rw [h];show (if ds.length=4 then _ else _)=_;rw [if_pos hl]
def a1u {g:j0->Option j0} {x:j0} (ha:fa ρ=some (.ok x)) (h:g x=some d):op1 g fa ρ=some (.ok d):=by
 rw [b9I,ha];show lft (g x)=_;rw [h];rfl
def nX {F:List j0->Mm j0} (ha:fa ρ=some (.ok (fD ds))) (h:F [fD ds]=some (.ok d)):iP F fa ρ=some (.ok d):=by
 unfold iP;rw [ha];dsimp only [bnd];rw [h]
variable {r:List Mt}
def a8d {m:Mt} (ha:fa ρ=some (.ok (dS (m::r)))):slE fa (rB (cst (.int 1))) uR ρ=some (.ok (dS r)):=by
 have e:slD (dS (m::r)) (some 1) none=some (dS r):=by
  show (if HT.sIx ((m::r).map dM).length 0 (some 1)=0/\HT.sIx ((m::r).map dM).length ((m::r).map dM).length none=((m::r).map dM).length then none else some (vd (cutD ((m::r).map dM) (some 1) none)))=_;rw [if_neg,a3P _ (by decide)];· rfl
  intro z;have z1:(if (1:Int)<0 then ((1:Int)+(((m::r).map dM).length:Int)).toNat else min (1:Int).toNat ((m::r).map dM).length)=0:=z.1;rw [if_neg (by decide)] at z1;simp at z1
 unfold slE;rw [ha];show lft (slD (dS (m::r)) (some 1) none)=_;rw [e];rfl
def a8e {m:Mt} (ha:fa ρ=some (.ok (dS (m::r)))):b1c fa uR (rB (cst (.int 1))) ρ=some (.ok (dS [m])):=by
 have e:slX (dS (m::r)) none (some 1)=some (dS [m]):=by
  show (if HT.sIx ((m::r).map dM).length 0 none=0/\HT.sIx ((m::r).map dM).length ((m::r).map dM).length (some 1)=((m::r).map dM).length then some (dS (m::r)) else some (vd (cutD _ none (some 1))))=_;split
  ·rename_i z
   have z1:(if (1:Int)<0 then ((1:Int)+(((m::r).map dM).length:Int)).toNat else min (1:Int).toNat ((m::r).map dM).length)=((m::r).map dM).length:=z.2;rw [if_neg (by decide)] at z1;cases r with
   | nil=>rfl
   | cons a r=>simp at z1
  ·rw [b0k _ (by decide)];rfl
 unfold b1c;rw [ha];show lft (slX (dS (m::r)) none (some 1))=_;rw [e];rfl
def a7V {a b:List Mt} (ha:fa ρ=some (.ok (dS a))) (hb:fb ρ=some (.ok (dS b))) (hz:a.length+b.length<=100000):op2 cR fa fb ρ=some (.ok (dS (a++b))):=
 bV ha hb (by rw [b3P,qF,qF,if_pos hz];show _=some (vd ((a++b).map dM));rw [qZ])
section
variable {x:Fl}
def b2W {m:Mt} (hw:x.wt=m::r) (hz:x.lf.length<=1000):bU [dFl x]=some (.ok (dFl x.wout)):=by
 refine aV rfl ?_;show gL [.val (dFl x)]=_;unfold gL;have w2:op1 (cS 2) (var 0) [.val (dFl x)]=some (.ok (dS (m::r))):=by rw [<-hw];rfl
 rw [eG,a4C (ds:=[.tuple (x.fi.map dS),dS x.tk,dS r,dS (x.lf++[m])]) (aM rfl (aM rfl (aM (a8d w2) (aM (a7V rfl (a8e w2) (by simp;omega)) rfl)))) rfl];unfold Fl.wout dFl;rw [hw];rfl
def b6F {m:Mt} (hw:x.wt=m::r) (hz:x.tk.length<=1000):dQ [dFl x]=some (.ok (dFl x.wth)):=by
 refine aV rfl ?_;show lU [.val (dFl x)]=_;unfold lU;have w2:op1 (cS 2) (var 0) [.val (dFl x)]=some (.ok (dS (m::r))):=by rw [<-hw];rfl
 rw [eG,a4C (ds:=[.tuple (x.fi.map dS),dS (x.tk++[m]),dS r,dS x.lf]) (aM rfl (aM (a7V rfl (a8e w2) (by simp;omega)) (aM (a8d w2) (aM rfl rfl)))) rfl];unfold Fl.wth dFl;rw [hw];rfl
def c1F (hz:x.fi.length<=1000):mH [dFl x]=some (.ok (dFl x.on)):=by
 refine aV rfl ?_;show lV [.val (dFl x)]=_;unfold lV;rw [eG,a4C (ds:=[.tuple ((x.fi++[x.tk]).map dS),dS [],dS x.lf,dS []]) (aM (bV rfl rfl (by rw [b3P,qF,if_pos (by simp;omega)];show _=some (vd ((x.fi++[x.tk]).map dS));rw [qZ];rfl)) (aM rfl (aM rfl (aM rfl rfl)))) rfl];rfl
abbrev Mrk:=Nat×List Mt×List Mt×List Mt
abbrev dMk (k:Mrk):j0:=.tuple [.int (k.1:Nat),dS k.2.1,dS k.2.2.1,dS k.2.2.2]
def Fl.mrk (x:Fl):Mrk:=(x.fi.length,x.tk,x.wt,x.lf)
def b8u:oE [dFl x]=some (.ok (dMk x.mrk)):=by
 refine aV rfl ?_;show a1W [.val (dFl x)]=_;unfold a1W;have l0:cJ iQ (aC (op1 (cS 0) (var 0)) aK) [.val (dFl x)]=some (.ok (.int (x.fi.length:Nat))):=by
  rw [gP (ds:=[.tuple (x.fi.map dS)]) rfl (b2m _),qF]
 rw [eG,a0T,aM l0 (aM (x:=dS x.tk) rfl (aM (x:=dS x.wt) rfl (aM (x:=dS x.lf) rfl rfl)))];rfl
end
def eM (sh:List Sf) (n:Nat):Sf:=sh.getD n (0,[])
variable {sh:List Sf}
def b6r (h:n<sh.length):ixD (dSh sh) (.int (n:Nat))=some (dSf (eM sh n)):=by
 show atI (sh.map dSf) (n:Nat)=_;rw [xJ dSf (by omega) (by omega) (0,[])];rfl
def pL (h:Mt->Int) (sh:List Sf) (x:Fl) (m:Mt):List Fl:=
 (if h m<(eM sh x.fi.length).1/\eI h (x.lf++[m]) 0 (sh.drop (x.fi.length+1))=true then [x.wout] else [])++(if aY (x.tk++[m])<=((eM sh x.fi.length).2.length:Nat) then [x.wth] else [])
def cD (h:Mt->Int) (sh:List Sf) (x:Fl):List Fl:=match x.wt with
 | m::_=>pL h sh x m
 | []=>if x.lf.any (λm=>decide (aY (x.tk++[m])<=((eM sh x.fi.length).2.length:Nat))) then [] else [x.on]
structure FlOk (D:j0) (h:Mt->Int) (sh:List Sf) (x:Fl):Prop where
 le:x.fi.length<=sh.length
 len:x.tk.length+x.wt.length+x.lf.length<=100
 nm:∀ m∈x.tk++x.wt++x.lf,jc m.1=true
 hw:pS D h x.wt
 hl:pS D h x.lf
section
variable {h:Mt->Int} {x:Fl}
theorem FlOk.tk (ok:FlOk D h sh x):x.tk.length<=100:=by have:=ok.len;omega
theorem FlOk.lf (ok:FlOk D h sh x):x.lf.length<=100:=by have:=ok.len;omega
abbrev wA (D:j0) (sh:List Sf) (x:Fl) (f:Sf) (e:T0l):List Ent:=[.val (dSh sh),.val D,.val (dFl x),.val (.int f.1),.val (.list (f.2.map .int)),.val (dSh (sh.drop (x.fi.length+1))),.lst e]
def yV (ok:FlOk D h sh x) (hn:x.fi.length<sh.length) (hs:sh.length<=1000) {m:Mt} (hw:x.wt=m::r):eY [dSh sh,D,dFl x]=some (.ok (.list ((pL h sh x m).map dFl))):=by
 refine aV rfl ?_;show hX [.val (dSh sh),.val D,.val (dFl x),.no,.no,.no,.no]=_;have z1:=ok.tk;have z2:=ok.lf;have ln:∀ a b c d,cJ iQ (aC (op1 (cS 0) (var 2)) aK) [.val (dSh sh),.val D,.val (dFl x),a,b,c,d]=some (.ok (.int (x.fi.length:Nat))):=λa b c d=>by
  rw [gP (ds:=[.tuple (x.fi.map dS)]) rfl (b2m _),qF]
 have i0:∀ a b c d,op2 ixD (var 0) (cJ iQ (aC (op1 (cS 0) (var 2)) aK)) [.val (dSh sh),.val D,.val (dFl x),a,b,c,d]=some (.ok (dSf (eM sh x.fi.length))):=λa b c d=>bV rfl (ln a b c d) (b6r hn);have hh:pS D h (x.lf++[m]):=λy hy=>by
  rcases qg.mp hy with hy | hy
  ·exact ok.hl y hy
  ·exact ok.hw y (by rw [hw,qH.mp hy];simp)
 have gm:uU D (.str m.1)=some (.int (h m)):=ok.hw m (by rw [hw];simp);unfold hX;generalize hf:eM sh x.fi.length=f at i0
 rw [aJ (ρ':=[.val (dSh sh),.val D,.val (dFl x),.val (.int f.1),.no,.no,.no]) (by
  rw [fN,aT (bV (i0 _ _ _ _) rfl rfl)];rfl)]
 rw [aJ (ρ':=[.val (dSh sh),.val D,.val (dFl x),.val (.int f.1),.val (.list (f.2.map .int)),.no,.no]) (by
  rw [fN,aT (bV (i0 _ _ _ _) rfl rfl)];rfl)]
 have sl:slE (var 0) (rB (op2 cR (cJ iQ (aC (op1 (cS 0) (var 2)) aK)) (cst (.int 1)))) uR [.val (dSh sh),.val D,.val (dFl x),.val (.int f.1),.val (.list (f.2.map .int)),.no,.no]=some (.ok (dSh (sh.drop (x.fi.length+1)))):=by
  have o:rB (op2 cR (cJ iQ (aC (op1 (cS 0) (var 2)) aK)) (cst (.int 1))) [.val (dSh sh),.val D,.val (dFl x),.val (.int f.1),.val (.list (f.2.map .int)),.no,.no]=some (.ok (some ((x.fi.length:Int)+1))):=by
   unfold rB;rw [bV (y:=.int 1) (ln _ _ _ _) rfl a0j];rfl
  unfold slE;rw [o];show lft (some (ky (cutD (sh.map dSf) (some ((x.fi.length:Int)+1)) none)))=_;rw [a3P _ (by omega),show ((x.fi.length:Int)+1).toNat=x.fi.length+1 by omega,<-List.map_drop];rfl
 rw [aJ (ρ':=[.val (dSh sh),.val D,.val (dFl x),.val (.int f.1),.val (.list (f.2.map .int)),.val (dSh (sh.drop (x.fi.length+1))),.no]) (by
  rw [fN,aT sl];rfl)]
 rw [aJ (ρ':=wA D sh x f []) rfl];have t1:∀ e,fZ (wA D sh x f e)=some (.ok (decide (h m<f.1/\eI h (x.lf++[m]) 0 (sh.drop (x.fi.length+1))=true))):=λe=>by
  have c1:iC ltD (op2 uU (var 1) (op2 ixD (op2 ixD (op1 (cS 2) (var 2)) (cst (.int 0))) (cst (.int 0)))) (var 3) (wA D sh x f e)=some (.ok (decide (h m<f.1))):=
   iK (bV (y:=.str m.1) rfl (bV (x:=dM m) (y:=.int 0) (bV (y:=.int 0) (a1u rfl (show cS 2 (dFl x)=some (dS (m::r)) by rw [<-hw];rfl)) rfl (c1J _ _)) rfl rfl) gm) rfl rfl
  have c2:tV (aX iE (aC (var 5) (aC (op1 (cS 3) (iP bU (var 2))) (aC (var 1) aK)))) (wA D sh x f e)=some (.ok (eI h (x.lf++[m]) 0 (sh.drop (x.fi.length+1)))):=by
   rw [tT,aW (aM (x:=dSh (sh.drop (x.fi.length+1))) rfl (aM (a1u (nX (ds:=[.tuple (x.fi.map dS),dS x.tk,dS x.wt,dS x.lf]) rfl (b2W hw (by omega))) (show cS 3 (dFl x.wout)=some (dS (x.lf++[m])) by unfold Fl.wout;rw [hw];rfl)) (aM (x:=D) rfl rfl))) (a3M hh (by simp;omega) _)];rfl
  show a6z _ _ _=_;rw [a5i,c1];show (if decide (h m<f.1)=true then _ else _)=_;rw [c2,sV];simp
 have t2:∀ e,fY (wA D sh x f e)=some (.ok (decide (aY (x.tk++[m])<=(f.2.length:Nat)))):=λe=>by
  refine iK (x:=.int (aY (x.tk++[m]))) (y:=.int ((f.2.map jg).length:Nat)) (aW (aM (a1u (nX (ds:=[.tuple (x.fi.map dS),dS x.tk,dS x.wt,dS x.lf]) rfl (b6F hw (by omega))) (show cS 1 (dFl x.wth)=some (dS (x.tk++[m])) by unfold Fl.wth;rw [hw];rfl)) rfl) (b2X _ (by simp;omega))) rfl ?_;rw [qF];rfl
 have a1:∀ e:List j0,e.length<=10->uH 6 (iP bU (var 2)) (wA D sh x f e)=some (.nx (wA D sh x f (e++[dFl x.wout]))):=λe he=>by
  rw [sZ (i:=6) (ds:=e) rfl (nX (ds:=[.tuple (x.fi.map dS),dS x.tk,dS x.wt,dS x.lf]) rfl (b2W hw (by omega))) (by omega)];rfl
 have a2:∀ e:List j0,e.length<=10->uH 6 (iP dQ (var 2)) (wA D sh x f e)=some (.nx (wA D sh x f (e++[dFl x.wth]))):=λe he=>by
  rw [sZ (i:=6) (ds:=e) rfl (nX (ds:=[.tuple (x.fi.map dS),dS x.tk,dS x.wt,dS x.lf]) rfl (b6F hw (by omega))) (by omega)];rfl
 generalize hW:(if h m<f.1/\eI h (x.lf++[m]) 0 (sh.drop (x.fi.length+1))=true then [x.wout] else []).map dFl=W;have s1:ifS fZ (uH 6 (iP bU (var 2))) iU (wA D sh x f [])=some (.nx (wA D sh x f W)):=by
  rw [lR,aT (t1 _),<-hW];by_cases c:h m<f.1/\eI h (x.lf++[m]) 0 (sh.drop (x.fi.length+1))=true
  ·rw [decide_eq_true c,if_pos rfl,if_pos c,a1 _ (by simp)];rfl
  ·rw [decide_eq_false c,if_neg (by decide),if_neg c];rfl
 have l1:W.length<=10:=by rw [<-hW];split<;>simp
 have s2:ifS fY (uH 6 (iP dQ (var 2))) iU (wA D sh x f W)=some (.nx (wA D sh x f ((pL h sh x m).map dFl))):=by
  rw [lR,aT (t2 _)];unfold pL;rw [hf,qZ,hW];by_cases c:aY (x.tk++[m])<=(f.2.length:Nat)
  ·rw [decide_eq_true c,if_pos rfl,a2 _ l1,if_pos c];rfl
  ·rw [decide_eq_false c,if_neg (by decide),if_neg c];simp
 rw [aJ s1,aJ s2];rfl
def b0e (ok:FlOk D h sh x) (hn:x.fi.length<sh.length) (hs:sh.length<=1000):a0m [dSh sh,D,dFl x]=some (.ok (.list ((cD h sh x).map dFl))):=by
 refine aV rfl ?_;show yP [.val (dSh sh),.val D,.val (dFl x),.no]=_;have z1:=ok.tk;have z2:=ok.lf;have z3:=ok.le;unfold yP;cases hw:x.wt with
 | cons m r=>
  have t1:oI [.val (dSh sh),.val D,.val (dFl x),.no]=some (.ok true):=by
   show lft (a2v (dS x.wt))=_;rw [hw];rfl
  have:ifS oI (retS (aX eY (aC (var 0) (aC (var 1) (aC (var 2) aK))))) iU [.val (dSh sh),.val D,.val (dFl x),.no]=some (.rt (.list ((cD h sh x).map dFl))):=by
   rw [lR,aT t1,if_pos rfl,eG,aW (ds:=[dSh sh,D,dFl x]) rfl (yV ok hn hs hw)];unfold cD;rw [hw];rfl
  rw [fF this]
 | nil=>
  have t1:oI [.val (dSh sh),.val D,.val (dFl x),.no]=some (.ok false):=by
   show lft (a2v (dS x.wt))=_;rw [hw];rfl
  rw [ifF t1];have ln:cJ iQ (aC (op1 (cS 0) (var 2)) aK) [.val (dSh sh),.val D,.val (dFl x),.no]=some (.ok (.int (x.fi.length:Nat))):=by
   rw [gP (ds:=[.tuple (x.fi.map dS)]) rfl (b2m _),qF]
  have i0:op2 ixD (var 0) (cJ iQ (aC (op1 (cS 0) (var 2)) aK)) [.val (dSh sh),.val D,.val (dFl x),.no]=some (.ok (dSf (eM sh x.fi.length))):=bV rfl ln (b6r hn);unfold cD;rw [hw];dsimp only;generalize hf:eM sh x.fi.length=f at i0
  rw [aJ (ρ':=[.val (dSh sh),.val D,.val (dFl x),.val (.list (f.2.map .int))]) (by
   rw [fN,aT (bV i0 rfl rfl)];rfl)]
  have k1:a1L [.val (dSh sh),.val D,.val (dFl x),.val (.list (f.2.map .int))]=some (.ok (.list ((x.lf.map λm=>decide (aY (x.tk++[m])<=(f.2.length:Nat))).map .bool))):=by
   rw [qT];refine cN dM (λm=>[.val (dM m),.val (dFl x),.val (.list (f.2.map .int))]) (λm=>.bool (decide (aY (x.tk++[m])<=(f.2.length:Nat)))) x.lf rfl (by omega) (λ_ _=>rfl) (λm hm=>?_);rw [b3y,aW (ds:=[dS (x.tk++[m])]) (aM (a7V (b:=[m]) rfl rfl (by simp;omega)) rfl) (b2X _ (by simp;omega))];show lft (Option.map j0.bool (leD (.int (aY (x.tk++[m]))) (.int ((f.2.map jg).length:Nat))))=_;rw [qF];rfl
  have t2:a0V [.val (dSh sh),.val D,.val (dFl x),.val (.list (f.2.map .int))]=some (.ok (x.lf.any λm=>decide (aY (x.tk++[m])<=(f.2.length:Nat)))):=by
   show tV _ _=_
   rw [tT,gP (ds:=[.list ((x.lf.map λm=>decide (aY (x.tk++[m])<=(f.2.length:Nat))).map .bool)]) (aM k1 rfl) (d:=.bool (x.lf.any λm=>decide (aY (x.tk++[m])<=(f.2.length:Nat)))) (by
    show (mF tR _).map _=_;rw [iS (g:=j0.bool) (λb=>rfl)]
    simp [List.any_map,Function.comp_def])]
   rfl
  have t2':=t2;cases c:(x.lf.any λm=>decide (aY (x.tk++[m])<=(f.2.length:Nat))) with
  | true=>
   rw [c] at t2;rw [fF (d:=.list []) (by rw [lR,aT t2];rfl)];rfl
  | false=>
   rw [c] at t2;rw [ifF t2,eG,b7X,aM (nX (ds:=[.tuple (x.fi.map dS),dS x.tk,dS x.wt,dS x.lf]) rfl (c1F (by omega))) rfl];rfl
end
def dn (m:Mt):Nat:=((m.2.2 - 1) / 48+1 - m.2.1 / 48).toNat
variable {m:Mt}
def b9g {m:Mt} (h:jc m.1=true):qb (dM m)=true:=b1f (n:=1) (λd hd=>by
 have:d=.str m.1\/d=.int m.2.1\/d=.int m.2.2:=by simpa using hd
 rcases this with rfl | rfl | rfl<;>simp [jJ,h]) (λd hd=>by
 have:d=.str m.1\/d=.int m.2.1\/d=.int m.2.2:=by simpa using hd
 rcases this with rfl | rfl | rfl<;>simp [jr]) (by decide)
end L2.L3
variable {sh:List L2.L3.Sf}
namespace L2.L3
open PySem PySem.Spec PyProof.Rows HS
variable {y:Fl}
section
variable {h:Mt->Int} {x:Fl}
theorem FlOk.ways (ok:FlOk D h sh x) (hn:x.fi.length<sh.length) (hy:y∈cD h sh x):FlOk D h sh y:=by
 have len:=ok.len;have nm:=ok.nm;have hw:=ok.hw;have hl:=ok.hl;have le:=ok.le;obtain ⟨fi,tk,wt,lf⟩:=x;dsimp only at *;unfold cD at hy;cases wt with
 | nil=>
  dsimp only at hy;split at hy
  ·cases hy
  ·rw [qH.mp hy]
   refine ⟨by simp [Fl.on];omega,by simp [Fl.on] at *;omega,λm hm=>nm m ?_,hl,λm hm=>by simp [Fl.on] at hm⟩;simp [Fl.on] at hm ⊢;exact .inr hm
 | cons m r=>
  dsimp only at hy;have hm:uU D (.str m.1)=some (.int (h m)):=hw m (by simp);unfold pL at hy;rcases qg.mp hy with hy | hy
  ·split at hy
   ·rw [qH.mp hy]
    refine ⟨le,by simp [Fl.wout] at *;omega,λa ha=>nm a ?_,λa ha=>hw a (qE _ ha),λa ha=>?_⟩
    ·simp [Fl.wout] at ha ⊢
     rcases ha with ha | ha | ha | ha
     ·exact .inl ha
     ·exact .inr (.inr (.inl ha))
     ·exact .inr (.inr (.inr ha))
     ·exact .inr (.inl ha)
    ·rcases qg.mp ha with ha | ha
     ·exact hl a ha
     ·rw [qH.mp ha];exact hm
   ·cases hy
  ·split at hy
   ·rw [qH.mp hy]
    refine ⟨le,by simp [Fl.wth] at *;omega,λa ha=>nm a ?_,λa ha=>hw a (qE _ ha),hl⟩;simp [Fl.wth] at ha ⊢;rcases ha with ha | ha | ha | ha
    ·exact .inl ha
    ·exact .inr (.inl ha)
    ·exact .inr (.inr (.inl ha))
    ·exact .inr (.inr (.inr ha))
   ·cases hy
end
def a8q (c:Prop) [Decidable c] (a:Fl):(if c then [a] else []).length<=1:=by split<;>simp
def b0J (h:Mt->Int) (sh:List Sf) (x:Fl):(cD h sh x).length<=2:=by
 unfold cD;split
 ·unfold pL;rw [qY];exact Nat.add_le_add (a8q _ _) (a8q _ _)
 ·split<;>simp
variable {a b:Mt}
def b8G (e:dM a=dM b):a=b:=by
 obtain ⟨a1,a2,a3⟩:=a;obtain ⟨b1,b2,b3⟩:=b;injection e with e;injection e with h1 e;injection e with h2 e;injection e with h3 e;cases h1;cases h2;cases h3;rfl
def a7M {a b:List Mt} (e:dS a=dS b):a=b:=by
 injection e with e;exact (vG (f:=dM) λa b h=>b8G h).mp e
def b5Q {a b:Mrk} (e:dMk a=dMk b):a=b:=by
 obtain ⟨a1,a2,a3,a4⟩:=a;obtain ⟨b1,b2,b3,b4⟩:=b;injection e with e;injection e with h1 e;injection e with h2 e;injection e with h3 e;injection e with h4 e;injection h1 with h1;have h1:a1=b1:=Int.ofNat.inj h1;have h2:a2=b2:=a7M h2;have h3:a3=b3:=a7M h3;have h4:a4=b4:=a7M h4;rw [h1,h2,h3,h4]
def a9a {k:Mrk} {ks:List Mrk}:dMk k∈ks.map dMk↔k∈ks:=by
 constructor
 ·intro z
  obtain ⟨a,ha,e⟩:=qO.mp z;rw [<-b5Q e];exact ha
 ·exact λz=>qi z
def b8m {m:Mt} (hm:jc m.1=true):hsh 2 (dM m)=true:=by
 show [j0.str m.1,.int m.2.1,.int m.2.2].all (hsh 1)=true;have e1:hsh 1 (.str m.1)=true:=by unfold hsh;simp [jJ,hm]
 have e2:∀ i,hsh 1 (.int i)=true:=λi=>by unfold hsh;rfl
 rw [jG,e1,jG,e2,jG,e2];rfl
variable {s:List Mt}
def a7y (hm:∀ m∈s,jc m.1=true):hsh 3 (dS s)=true:=by
 show (s.map dM).all (hsh 2)=true;rw [qm];intro d hd;obtain ⟨m,hm',rfl⟩:=qO.mp hd;exact b8m (hm m hm')
def b8l {x:Fl} (nm:∀ m∈x.tk++x.wt++x.lf,jc m.1=true):(hsh 4 (dMk x.mrk)&&a9j (dMk x.mrk))=true:=by
 have e:hsh 4 (dMk x.mrk)=true:=by
  show [jg (x.mrk.1:Nat),dS x.mrk.2.1,dS x.mrk.2.2.1,dS x.mrk.2.2.2].all (hsh 3)=true;have e0:hsh 3 (.int (x.mrk.1:Nat))=true:=by unfold hsh;rfl
  have e1:hsh 3 (dS x.mrk.2.1)=true:=a7y (s:=x.tk) λm hm=>nm m (by simp [hm]);have e2:hsh 3 (dS x.mrk.2.2.1)=true:=a7y (s:=x.wt) λm hm=>nm m (by simp [hm]);have e3:hsh 3 (dS x.mrk.2.2.2)=true:=a7y (s:=x.lf) λm hm=>nm m (by simp [hm]);rw [jG,e0,jG,e1,jG,e2,jG,e3];rfl
 rw [e];rfl
def addW:List Mrk×List Fl->List Fl->List Mrk×List Fl
 | p,[]=>p
 | p,y::l=>addW (if y.mrk∈p.1 then p else (p.1++[y.mrk],p.2++[y])) l
def uJ (h:Mt->Int) (sh:List Sf):Nat->List Mrk->List Fl->Option (Option (List (List Mt)))
 | 0,_,_=>none
 | n+1,ks,st=>match st.getLast? with
  | none=>some none
  | some x=>if x.fi.length=sh.length then some (some x.fi) else uJ h sh n (addW (ks,st.dropLast) (cD h sh x)).1 (addW (ks,st.dropLast) (cD h sh x)).2
theorem a6C:∀ (l:List Fl) (p:List Mrk×List Fl),(addW p l).1.length<=p.1.length+l.length/\(addW p l).2.length<=p.2.length+l.length
 | [],p=>⟨qM _,qM _⟩
 | y::l,p=>by
  unfold addW;have:=a6C l (if y.mrk∈p.1 then p else (p.1++[y.mrk],p.2++[y]));rw [qW];split at this
  ·rename_i c;rw [if_pos c];omega
  ·rename_i c;rw [if_neg c];simp at this;omega
theorem xK {z:Fl}:∀ (l:List Fl) (p:List Mrk×List Fl),z∈(addW p l).2->z∈p.2\/z∈l
 | [],p,hz=>.inl hz
 | y::l,p,hz=>by
  unfold addW at hz;rcases xK l _ hz with hz | hz
  ·split at hz
   ·exact .inl hz
   ·rcases qg.mp hz with hz | hz
    ·exact .inl hz
    ·exact .inr (by rw [qH.mp hz];simp)
  ·exact .inr (qE _ hz)
open Classical in
theorem b7N {k:j0} {b:Bool} (hk:fk ρ=some (.ok k)) (hi:ρ[i]?=some (.seen w ks)) (hh:(hsh 4 k&&a9j k)=true) (hb:b=true↔k∉ks):a5E w i fk ρ=some (.ok b):=by
 unfold a5E;rw [hk];dsimp only [bnd];rw [hi];dsimp only;rw [if_pos ⟨rfl,hh⟩];congr 2;cases b with
 | true=>rw [decide_eq_false (hb.mp rfl)];rfl
 | false=>
  have:k∈ks:=zP λz=>by have:=hb.mpr z;cases this
  rw [decide_eq_true this];rfl
open Classical in
theorem b7i {k:j0} (hk:fk ρ=some (.ok k)) (hv:fv ρ=some (.ok d)) (hi:ρ[i]?=some (.seen w ks)) (hh:(hsh 4 k&&a9j k)=true) (ha:alone i ρ=true) (hz:ks.length<=100000) (hn:k∉ks):a2Z w i fk fv ρ=some (.nx (ρ.set i (.seen w (ks++[k])))):=by
 unfold a2Z;rw [hi];dsimp only;rw [if_pos rfl,aT hv,aT hk,if_pos];refine ⟨?_,hn⟩;rw [hh,ha];unfold dU;rw [decide_eq_true hz];rfl
section
variable {h:Mt->Int} {x:Fl}
def b0X (S s D X:j0) (ks:List Mrk) (st:List Fl) (nm:∀ m∈y.tk++y.wt++y.lf,jc m.1=true) (z1:ks.length<=100000) (z2:st.length<=100000):
  gQ w [.val S,.val s,.val D,.seen w (ks.map dMk),.lst (st.map dFl),.val X,.val (dFl y)]=some (.nx [.val S,.val s,.val D,.seen w ((if y.mrk∈ks then (ks,st) else (ks++[y.mrk],st++[y])).1.map dMk),.lst ((if y.mrk∈ks then (ks,st) else (ks++[y.mrk],st++[y])).2.map dFl),.val X,.val (dFl y)]):=by
 have mk:iP oE (var 6) [.val S,.val s,.val D,.seen w (ks.map dMk),.lst (st.map dFl),.val X,.val (dFl y)]=some (.ok (dMk y.mrk)):=nX (ds:=[.tuple (y.fi.map dS),dS y.tk,dS y.wt,dS y.lf]) rfl b8u;have hk:=b8l nm;have t:mJ w [.val S,.val s,.val D,.seen w (ks.map dMk),.lst (st.map dFl),.val X,.val (dFl y)]=some (.ok (!decide (y.mrk∈ks))):=by
  refine b7N mk rfl hk ?_;rw [zJ,decide_eq_false_iff_not,a9a]
 show ifS _ _ _ _=_;rw [lR,aT t];by_cases c:y.mrk∈ks
 ·rw [decide_eq_true c,if_pos c];rfl
 ·rw [decide_eq_false c,if_neg c]
  have p:a2Z w 3 (iP oE (var 6)) (cst (.bool true)) [.val S,.val s,.val D,.seen w (ks.map dMk),.lst (st.map dFl),.val X,.val (dFl y)]=some (.nx [.val S,.val s,.val D,.seen w ((ks++[y.mrk]).map dMk),.lst (st.map dFl),.val X,.val (dFl y)]):=by
   rw [b7i mk rfl rfl hk rfl (by rw [qF];exact z1) (λz=>c (a9a.mp z)),qZ];rfl
  show aQ _ _ _=_;rw [aJ p,sZ (i:=4) (ds:=st.map dFl) rfl rfl (by rw [qF];exact z2)];rw [show (ks++[y.mrk],st++[y]).2.map dFl=st.map dFl++[dFl y] from qZ];rfl
theorem a5L (S s D X:j0):∀ (l:List Fl) (ks:List Mrk) (st:List Fl) (x6:Ent),(∀ y∈l,∀ m∈y.tk++y.wt++y.lf,jc m.1=true)->ks.length+l.length<=100000->st.length+l.length<=100000 ->
  ∃ x6',bG (.nm 6) (gQ w) (l.map dFl) [.val S,.val s,.val D,.seen w (ks.map dMk),.lst (st.map dFl),.val X,x6]=some (.nx [.val S,.val s,.val D,.seen w ((addW (ks,st) l).1.map dMk),.lst ((addW (ks,st) l).2.map dFl),.val X,x6'])
 | [],ks,st,x6,_,_,_=>⟨x6,rfl⟩
 | y::l,ks,st,x6,nm,z1,z2=>by
  rw [qW] at z1 z2;have e:=b0X (w:=w) S s D X ks st (nm y (by simp)) (by omega) (by omega);have l1:(if y.mrk∈ks then (ks,st) else (ks++[y.mrk],st++[y])).1.length+l.length<=100000:=by split<;>simp<;>omega
  have l2:(if y.mrk∈ks then (ks,st) else (ks++[y.mrk],st++[y])).2.length+l.length<=100000:=by split<;>simp<;>omega
  obtain ⟨x6',e2⟩:=a5L S s D X l _ _ (.val (dFl y)) (λa ha=>nm a (qE _ ha)) l1 l2;refine ⟨x6',?_⟩;rw [qK,cW (t:=.nm 6) (ρ1:=[.val S,.val s,.val D,.seen w (ks.map dMk),.lst (st.map dFl),.val X,.val (dFl y)]) rfl e];exact e2
theorem a6h (hs:sh.length<=1000) (s:j0) {r:Option (List (List Mt))}:∀ (n:Nat) (ks:List Mrk) (st:List Fl) (x5 x6:Ent),(∀ y∈st,FlOk D h sh y)->ks.length+2*n<=50000->st.length+2*n<=50000->uJ h sh n ks st=some r ->
  (∃ fi,r=some fi/\fM cY (cF w) n [.val (dSh sh),.val s,.val D,.seen w (ks.map dMk),.lst (st.map dFl),x5,x6]=some (.rt (.tuple (fi.map dS)))) \/
  (r=none/\∃ ρ',fM cY (cF w) n [.val (dSh sh),.val s,.val D,.seen w (ks.map dMk),.lst (st.map dFl),x5,x6]=some (.nx ρ'))
 | 0,ks,st,x5,x6,_,_,_,e=>by cases e
 | n+1,ks,st,x5,x6,ok,z1,z2,e=>by
  have t3:cY [.val (dSh sh),.val s,.val D,.seen w (ks.map dMk),.lst (st.map dFl),x5,x6]=some (.ok (!(st.map dFl).isEmpty)):=b6S rfl;rw [fM];dsimp only;rw [aT t3];unfold uJ at e;rcases zD st with rfl | ⟨st',x,rfl⟩
  ·cases e
   exact .inr ⟨rfl,_,rfl⟩
  ·rw [kB] at *
   rw [zL] at e;dsimp only at e;rw [kX] at e;have hx:=ok x (by simp);have p1:a8j 4 5 [.val (dSh sh),.val s,.val D,.seen w (ks.map dMk),.lst ((st'++[x]).map dFl),x5,x6]=some (.nx [.val (dSh sh),.val s,.val D,.seen w (ks.map dMk),.lst (st'.map dFl),.val (dFl x),x6]):=by
    rw [qZ]
    show (match (st'.map dFl++[dFl x])[(st'.map dFl++[dFl x]).length - 1]? with
     | some d=>if 4≠5 then some (So.nx (([Ent.val (dSh sh),.val s,.val D,.seen w (ks.map dMk),.lst (st'.map dFl++[dFl x]),x5,x6].set 4 (.lst (st'.map dFl++[dFl x]).dropLast)).set 5 (.val d))) else none
     | none=>none)=_
    rw [show (st'.map dFl++[dFl x])[(st'.map dFl++[dFl x]).length - 1]?=some (dFl x) by simp,kX];rfl
   have t1:mK [.val (dSh sh),.val s,.val D,.seen w (ks.map dMk),.lst (st'.map dFl),.val (dFl x),x6]=some (.ok (decide (x.fi.length=sh.length))):=by
    refine iK (x:=.int ((x.fi.map dS).length:Nat)) (y:=.int ((sh.map dSf).length:Nat)) rfl rfl ?_;rw [qF,qF,b6E];exact congrArg some (decide_eq_decide.mpr ⟨λz=>by omega,λz=>by omega⟩)
   have ne:(!((st'++[x]).map dFl).isEmpty)=true:=by simp
   rw [ne,if_pos rfl];by_cases c:x.fi.length=sh.length
   ·rw [if_pos c] at e
    cases e;refine .inl ⟨x.fi,rfl,?_⟩;have b:cF w [.val (dSh sh),.val s,.val D,.seen w (ks.map dMk),.lst ((st'++[x]).map dFl),x5,x6]=some (.rt (.tuple (x.fi.map dS))):=by
     show aQ _ _ _=_;rw [aJ p1,fF (d:=.tuple (x.fi.map dS)) (by rw [lR,aT t1,decide_eq_true c];rfl)]
    rw [b]
   ·rw [if_neg c] at e
    have hn:x.fi.length<sh.length:=by have:=hx.le;omega
    have wl:=b0J h sh x;rw [qY,jO] at z2;obtain ⟨x6',e2⟩:=a5L (w:=w) (dSh sh) s D (dFl x) (cD h sh x) ks st' x6 (λy hy=>(hx.ways hn hy).nm) (by omega) (by omega);have b:cF w [.val (dSh sh),.val s,.val D,.seen w (ks.map dMk),.lst ((st'++[x]).map dFl),x5,x6]=some (.nx [.val (dSh sh),.val s,.val D,.seen w ((addW (ks,st') (cD h sh x)).1.map dMk),.lst ((addW (ks,st') (cD h sh x)).2.map dFl),.val (dFl x),x6']):=by
     show aQ _ _ _=_;rw [aJ p1,ifF (by rw [t1,decide_eq_false c]),iX,oM (aW (ds:=[dSh sh,D,dFl x]) rfl (b0e hx hn hs)) rfl];exact e2
    rw [b];have al:=a6C (cD h sh x) (ks,st')
    exact a6h hs s n _ _ _ _ (λy hy=>by
     rcases xK _ _ hy with hy | hy
     ·exact ok y (jA _ hy)
     ·exact hx.ways hn hy) (by dsimp only at al;omega) (by dsimp only at al;omega) e
end
abbrev kH (h:Mt->Int) (m:Mt):j0:=.tuple [.int (-(h m)),.str m.1]
abbrev kN (h:Mt->Int) (m:Mt):j0:=.tuple [.int (-(h m)),dM m]
theorem a3u {fe:EF} {kf:Mt->j0}:∀ (s:List Mt),(∀ m∈s,fe [.val (dM m)]=some (.ok (kf m)))->nY fe (s.map dM)=some (s.map kf)
 | [],_=>rfl
 | m::s,h=>by
  show (match fe [.val (dM m)] with | some (.ok k)=>(nY fe (s.map dM)).map (k::·) | _=>none)=_;rw [h m (by simp),a3u s λa ha=>h a (qE _ ha)];rfl
def byH (h:Mt->Int) (s:List Mt):List Mt:=a6W (kH h) s
def a7J {h:Mt->Int} (hd:pS D h s) (nd:(s.map (·.1)).Nodup) (nm:∀ m∈s,jc m.1=true) (hz:s.length<64):pK [dS s,D]=some (.ok (dS (byH h s))):=by
 refine aV rfl ?_;show uF [.val (dS s),.val D]=_;have k1:nY (λρ1=>mU (ρ1++cU [some 1] [.val (dS s),.val D])) (s.map dM)=some (s.map (kN h)):=a3u s λm hm=>by
  show mI _ [.val (dM m),.val D]=_;rw [a0T,aM (a1u (bV (y:=.str m.1) rfl rfl (hd m hm)) b9J) (aM (x:=dM m) rfl rfl)];rfl
 have e1:(s.map (kN h)).map flK=s.map (kH h):=by rw [qT];rfl
 have ndk:(s.map (kH h)).Nodup:=by
  rw [zc,jK] at nd ⊢;exact nd.imp λ{a b} n e=>n (by injection e with e;injection e with _ e;injection e with e _;injection e)
 have so:a1c (s.map dM) (s.map (kN h))=some (.list ((byH h s).map dM)):=by
  unfold a1c;rw [e1,if_pos,a8c (g:=[true,false]) (λm=>rfl) ndk];· rfl
  rw [qL,qL,qm];refine ⟨⟨λd hd=>?_,decide_eq_true ndk⟩,decide_eq_true (by rw [qF];exact hz)⟩;obtain ⟨m,hm,rfl⟩:=qO.mp hd;exact b9g (nm m hm)
 have so':a1e (var 0) [some 1] mU [.val (dS s),.val D]=some (.ok (.list ((byH h s).map dM))):=by
  unfold a1e
  show lft (match nY (λρ1=>mU (ρ1++cU [some 1] [.val (dS s),.val D])) (s.map dM) with
   | some nks=>a1c (s.map dM) nks
   | none=>none)=_
  rw [k1];dsimp only;rw [so];rfl
 unfold uF
 rw [eG,gP (ds:=[.list ((byH h s).map dM)]) (aM so' rfl) (d:=dS (byH h s)) (by
  have:(byH h s).length<=100000:=by rw [show (byH h s).length=s.length from (nQ s).length_eq];omega
  unfold a4f
  simp [this])]
 rfl
def xH (h:Mt->Int) (s:List Mt):(byH h s).Perm s:=nQ s
def fiD:Option (List (List Mt))->j0
 | some fi=>.tuple (fi.map dS)
 | none=>.none
def b2Z {h:Mt->Int} (hd:pS D h s) (nd:(s.map (·.1)).Nodup) (nm:∀ m∈s,jc m.1=true) (hz:s.length<64) (hs:sh.length<=1000) {r:Option (List (List Mt))} 
  (e:uJ h sh 20000 [] [⟨[],[],byH h s,[]⟩]=some r):dR w [dSh sh,dS s,D]=some (.ok (fiD r)):=by
 refine aV rfl ?_;show hZ w [.val (dSh sh),.val (dS s),.val D,.no,.no,.no,.no]=_;have hp:=xH h s;have hl:=hp.length_eq;have ok:FlOk D h sh ⟨[],[],byH h s,[]⟩:=⟨qt _,by simp;omega,λm hm=>nm m (hp.mem_iff.mp (by simpa using hm)),λm hm=>hd m (hp.mem_iff.mp hm),λm hm=>by cases hm⟩;unfold hZ;rw [aJ (ρ':=[.val (dSh sh),.val (dS s),.val D,.seen w [],.no,.no,.no]) rfl];have n4:a2y 4 (aC (mkF (aC (mI aK) (aC (mI aK) (aC (aX pK (aC (var 1) (aC (var 2) aK))) (aC (mI aK) aK))))) aK) [.val (dSh sh),.val (dS s),.val D,.seen w [],.no,.no,.no]=some (.nx [.val (dSh sh),.val (dS s),.val D,.seen w [],.lst [dFl ⟨[],[],byH h s,[]⟩],.no,.no]):=by
  rw [b7P,aT (aM (a4C (ds:=[.tuple [],dS [],dS (byH h s),dS []]) (aM rfl (aM rfl (aM (aW (ds:=[dS s,D]) rfl (a7J hd nd nm hz)) (aM rfl rfl)))) rfl) rfl)];rfl
 rw [aJ n4];rcases a6h (w:=w) (D:=D) hs (dS s) 20000 [] [⟨[],[],byH h s,[]⟩] .no .no (λy hy=>by rw [qH.mp hy];exact ok) (by decide) (by simp) e with ⟨fi,rfl,q⟩ | ⟨rfl,ρ',q⟩
 ·exact fF q
 ·rw [show aQ (fM cY (cF w) 20000) (retS (cst .none)) [.val (dSh sh),.val (dS s),.val D,.seen w [],.lst [dFl ⟨[],[],byH h s,[]⟩],.no,.no]=retS (cst .none) ρ' from aJ q]
  rfl
abbrev dZ (z:T0s):j0:=.list (z.map .int)
def pX (sizes:T0s) (ab:Option Int) (l:Int):List Int:=((qV sizes.length).filter λk=>decide (l<=sizes.getD k 0)&&(match ab with | none=>true | some a=>decide (sizes.getD k 0<a))).map λ(k:Nat)=>(k:Int)
def a4p (sizes:T0s):Option Int->List Int->List Sf
 | _,[]=>[]
 | ab,l::ls=>(l,pX sizes ab l)::a4p sizes (some l) ls
def bX (sizes:T0s) (h:Mt->Int) (s:List Mt):List Sf:=a4p sizes none (ssI (s.map h)).reverse
def abE:Option Int->j0
 | none=>.none
 | some a=>.int a
def b5F (ms:T0s):lX (ms.map .int)=(qV ms.length).map λ(k:Nat)=>.tuple [.int (k:Int),.int (ms.getD k 0)]:=by
 unfold lX;rw [qF];refine zQ λk hk=>?_;have:=qo.mp hk;simp [vV,this]
section
variable {h:Mt->Int}
def b5m (A B C:Ent) (ab:Option Int) (l:Int) (y:Ent) (hz:sizes.length<=1000):tO [A,.val (dZ sizes),B,C,.val (abE ab),.val (.int l),y]=some (.ok (.list ((pX sizes ab l).map .int))):=by
 unfold pX;rw [qT];refine eX (λ(k:Nat)=>.tuple [.int (k:Int),.int (sizes.getD k 0)]) (λk=>[.val (.int (k:Int)),.val (.int (sizes.getD k 0)),.val (abE ab),.val (.int l)]) (λk=>decide (l<=sizes.getD k 0)&&(match ab with | none=>true | some a=>decide (sizes.getD k 0<a))) (λk=>.int (k:Int)) (qV sizes.length) ?_ (by rw [qx];omega) (λk _=>by cases ab<;>rfl) (λk _=>?_) (λk _ _=>rfl)
 ·show some (Re.ok (lX (sizes.map .int)))=_
  rw [b5F]
 ·rw [a5i,iK (x:=.int l) (y:=.int (sizes.getD k 0)) rfl rfl b9O]
  show (if decide (l<=sizes.getD k 0)=true then _ else _)=_;cases ab with
  | none=>rw [<-sV];rfl
  | some a=>rw [<-sV];rfl
def b6g (A B:Ent) (done:List Sf) (ab:Option Int) (l:Int) (y:Ent) (hz:sizes.length<=1000) (hd:done.length<=1000):nM [A,.val (dZ sizes),B,.lst (done.map dSf),.val (abE ab),.val (.int l),y] =
  some (.nx [A,.val (dZ sizes),B,.lst ((done++[(l,pX sizes ab l)]).map dSf),.val (abE (some l)),.val (.int l),.val (.list ((pX sizes ab l).map .int))]):=by
 show aQ _ _ _=_;rw [aJ (ρ':=[A,.val (dZ sizes),B,.lst (done.map dSf),.val (abE ab),.val (.int l),.val (.list ((pX sizes ab l).map .int))]) (by rw [fN,aT (b5m A B (.lst (done.map dSf)) ab l y hz)];rfl)];rw [aJ (sZ (i:=3) (ds:=done.map dSf) (d:=dSf (l,pX sizes ab l)) rfl rfl (by rw [qF];omega)),qZ];rfl
theorem a1D (A B:Ent) (hz:sizes.length<=1000):∀ (ls:T0s) (done:List Sf) (ab:Option Int) (x y:Ent),done.length+ls.length<=1000->∃ x4 x5 x6,bG (.nm 5) nM (ls.map .int) [A,.val (dZ sizes),B,.lst (done.map dSf),.val (abE ab),x,y] =
  some (.nx [A,.val (dZ sizes),B,.lst ((done++a4p sizes ab ls).map dSf),x4,x5,x6])
 | [],done,ab,x,y,_=>⟨_,_,_,by rw [a4p,jt];rfl⟩
 | l::ls,done,ab,x,y,hl=>by
  rw [qW] at hl;obtain ⟨x4,x5,x6,e⟩:=a1D A B hz ls (done++[(l,pX sizes ab l)]) (some l) (.val (.int l)) (.val (.list ((pX sizes ab l).map .int))) (by simp;omega);refine ⟨x4,x5,x6,?_⟩;rw [qK,cW (t:=.nm 5) (ρ1:=[A,.val (dZ sizes),B,.lst (done.map dSf),.val (abE ab),.val (.int l),y]) rfl (b6g A B done ab l y hz (by omega)),e,a4p,qy];rfl
def b7c (h:ns.length<64):a2O (.list (ns.map .int))=some (.list ((ssI ns).map .int)):=by
 unfold a2O;dsimp only;rw [sW];dsimp only;rw [if_pos h];rfl
def a3K (hd:pS D h s) (hz:sizes.length<=1000) (hs:s.length<64):pH [dS s,dZ sizes,D]=some (.ok (dSh (bX sizes h s))):=by
 refine aV rfl ?_;show oZ [.val (dS s),.val (dZ sizes),.val D,.no,.no,.no,.no]=_;have k1:nE [.val (dS s),.val (dZ sizes),.val D,.lst [],.val .none,.no,.no]=some (.ok (.list ((s.map h).map .int))):=by
  rw [qT];exact cN dM (λm=>[.val (dM m),.val D]) (λm=>.int (h m)) s rfl (by omega) (λ_ _=>rfl) (λm hm=>bV (y:=.str m.1) rfl rfl (hd m hm))
 have sl:=a8a (s.map h);rw [qF] at sl;unfold oZ;rw [aJ (ρ':=[.val (dS s),.val (dZ sizes),.val D,.lst [],.no,.no,.no]) rfl,aJ (ρ':=[.val (dS s),.val (dZ sizes),.val D,.lst [],.val .none,.no,.no]) rfl];have rv:b1n (op1 a2O nE) [.val (dS s),.val (dZ sizes),.val D,.lst [],.val .none,.no,.no]=some (.ok ((ssI (s.map h)).reverse.map .int)):=by
  unfold b1n;rw [a1u k1 (b7c (by rw [qF];exact hs))];dsimp only;rw [List.map_reverse]
 obtain ⟨x4,x5,x6,e⟩:=a1D (.val (dS s)) (.val D) hz (ssI (s.map h)).reverse [] none .no .no (by simp;omega);rw [aJ (ρ':=[.val (dS s),.val (dZ sizes),.val D,.lst ((bX sizes h s).map dSf),x4,x5,x6]) (by rw [iX,rv];exact e)];rfl
end
theorem a1h (sizes:T0s):∀ (ls:T0s) (ab:Option Int),(a4p sizes ab ls).length=ls.length
 | [],_=>rfl
 | l::ls,ab=>by rw [a4p,qW,a1h sizes ls,qW]
def a9r (sizes:T0s) (h:Mt->Int) (s:List Mt):(bX sizes h s).length<=s.length:=by
 unfold bX;rw [a1h,wI];exact qk (a8a _) (by rw [qF];exact qM _)
def b1p {k:Key} (hi:ρ[i]?=some (.dct kvs)) (hv:fv ρ=some (.ok d)) (hk:fk ρ=some (.ok kd)) (hd:oC kd=some k) (hz:kvs.length<=100000) (hn:k∉kvs.map (·.1)):a3a i fk fv ρ=some (.nx (ρ.set i (.dct (kvs++[(k,d)])))):=by
 unfold a3a;rw [hi];dsimp only;rw [aT hv,aT hk,hd];dsimp only;rw [if_pos (by unfold dU;exact decide_eq_true hz)];unfold a0p;rw [if_neg];intro z;obtain ⟨p,hp,e⟩:=vh.mp z;exact hn (qO.mpr ⟨p,hp,of_decide_eq_true e⟩)
theorem a3t:∀ kvs:List (Key×j0),a1I (kvs.map λp=>(dX p.1,p.2))=some kvs
 | []=>rfl
 | p::r=>by
  show (match oC (dX p.1),a1I (r.map λp=>(dX p.1,p.2)) with | some k,some l=>some ((k,p.2)::l) | _,_=>none)=_;rw [fV,a3t r]
theorem a1x:∀ (more acc:List (Key×j0)),((acc++more).map (·.1)).Nodup->a1y acc more=acc++more
 | [],acc,_=>by simp [a1y]
 | (k,v)::r,acc,h=>by
  have hk:k∉acc.map (·.1):=λz=>by
   rw [qZ,kO] at h;exact h.2.2 k z k (by simp) rfl
  show a1y (a0p acc k v) r=_;have e:a0p acc k v=acc++[(k,v)]:=by
   unfold a0p;rw [if_neg];intro z;obtain ⟨p,hp,e⟩:=vh.mp z;exact hk (qO.mpr ⟨p,hp,of_decide_eq_true e⟩)
  rw [e,a1x r (acc++[(k,v)]) (by simpa using h)];simp
def b0O {more:List (Key×j0)} (hi:ρ[i]?=some (.dct kvs)) (ha:fa ρ=some (.ok (dD more))) (hz:kvs.length+more.length<=100000) (nd:((kvs++more).map (·.1)).Nodup):a5o i fa ρ=some (.nx (ρ.set i (.dct (kvs++more)))):=by
 unfold a5o;rw [hi];dsimp only;rw [aT ha];unfold dD;dsimp only;rw [a3t];dsimp only;rw [if_pos (by unfold dU;exact decide_eq_true hz),a1x _ _ nd]
def iT (l:List (Sf×List Ly)):List (Key×j0):=l.flatMap λq=>q.2.map λp=>(.inr p.1.1,.int (q.1.2.getD p.2 0))
abbrev nmP (P:List Ly):List Key:=P.map λp=>.inr p.1.1
theorem a1E (s sz D S F M:Ent) (f:Sf):∀ (P:List Ly) (kvs:List (Key×j0)) (x8 x9:Ent),(kvs.map (·.1)++nmP P).Nodup->(∀ p∈P,p.2<f.2.length)->kvs.length+P.length<=1000 ->
  ∃ x8' x9',bG (.tp [8,9]) nN (P.map λp=>.tuple [.str p.1.1,.int (p.2:Nat)]) [s,sz,D,S,F,.dct kvs,.val (dSf f),M,x8,x9]=some (.nx [s,sz,D,S,F,.dct (kvs++P.map λp=>(.inr p.1.1,.int (f.2.getD p.2 0))),.val (dSf f),M,x8',x9'])
 | [],kvs,x8,x9,_,_,_=>⟨x8,x9,by simp [bG]⟩
 | p::P,kvs,x8,x9,nd,hl,hz=>by
  rw [qW] at hz;have hk:(zY p.1.1:Key)∉kvs.map (·.1):=λz=>by
   rw [kO] at nd;exact nd.2.2 _ z _ (by simp [nmP]) rfl
  have hp:=hl p (by simp);have b:nN [s,sz,D,S,F,.dct kvs,.val (dSf f),M,.val (.str p.1.1),.val (.int (p.2:Nat))]=some (.nx [s,sz,D,S,F,.dct (kvs++[(.inr p.1.1,.int (f.2.getD p.2 0))]),.val (dSf f),M,.val (.str p.1.1),.val (.int (p.2:Nat))]):=by
   have ix:ixD (.list (f.2.map .int)) (.int (p.2:Nat))=some (.int (f.2.getD p.2 0)):=by
    rw [sU (by omega) (by omega)];rfl
   show a3a 5 (var 8) (op2 ixD (op2 ixD (var 6) (cst (.int 1))) (var 9)) _=_;rw [b1p (i:=5) (k:=.inr p.1.1) (kd:=.str p.1.1) (d:=.int (f.2.getD p.2 0)) (kvs:=kvs) rfl (bV (x:=.list (f.2.map .int)) (y:=.int (p.2:Nat)) rfl rfl ix) rfl rfl (by omega) hk];rfl
  obtain ⟨x8',x9',e⟩:=a1E s sz D S F M f P (kvs++[(.inr p.1.1,.int (f.2.getD p.2 0))]) (.val (.str p.1.1)) (.val (.int (p.2:Nat))) (by simpa [nmP] using nd) (λq hq=>hl q (qE _ hq)) (by simp;omega);refine ⟨x8',x9',?_⟩;rw [qK,cW (t:=.tp [8,9]) (ρ1:=[s,sz,D,S,F,.dct kvs,.val (dSf f),M,.val (.str p.1.1),.val (.int (p.2:Nat))]) rfl b,e];simp
structure ShP (f:Sf) (ms:List Mt) (P:List Ly):Prop where
 col:oF [dS ms]=some (.ok (b5R P))
 low:∀ p∈P,p.2<f.2.length
variable {f:Sf}
def b8O {s sz D S F:Ent} {P:List Ly} {x8 x9:Ent} (hP:ShP f ms P) (nd:(kvs.map (·.1)++nmP P).Nodup) (hz:kvs.length+P.length<=1000):
  ∃ x8' x9',nK [s,sz,D,S,F,.dct kvs,.val (dSf f),.val (dS ms),x8,x9]=some (.nx [s,sz,D,S,F,.dct (kvs++P.map λp=>(.inr p.1.1,.int (f.2.getD p.2 0))),.val (dSf f),.val (dS ms),x8',x9']):=by
 obtain ⟨x8',x9',e⟩:=a1E s sz D S F (.val (dS ms)) f P kvs x8 x9 nd hP.low hz;refine ⟨x8',x9',?_⟩;have i:b2u oF (aC (var 7) aK) [s,sz,D,S,F,.dct kvs,.val (dSf f),.val (dS ms),x8,x9]=some (.ok (P.map λp=>.tuple [.str p.1.1,.int (p.2:Nat)])):=by
  unfold b2u;rw [show aC (var 7) aK [s,sz,D,S,F,.dct kvs,.val (dSf f),.val (dS ms),x8,x9]=some (.ok [dS ms]) from rfl];dsimp only;rw [hP.col];unfold b5R dD;dsimp only
  rw [if_pos (qm.mpr λq hq=>by
   rw [qT] at hq
   obtain ⟨p,_,rfl⟩:=qO.mp hq;rfl),qT,qT]
  rfl
 show nZ _ _ _ _=_;rw [iX,aT i];exact e
theorem a3k (s sz D S F:Ent):∀ (l:List (Sf×List Mt×List Ly)) (kvs:List (Key×j0)) (x6 x7 x8 x9:Ent),(∀ q∈l,ShP q.1 q.2.1 q.2.2)->(kvs.map (·.1)++l.flatMap λq=>nmP q.2.2).Nodup->kvs.length+(l.flatMap λq=>nmP q.2.2).length<=1000 ->
  ∃ x6' x7' x8' x9',bG (.tp [6,7]) nK (l.map λq=>.tuple [dSf q.1,dS q.2.1]) [s,sz,D,S,F,.dct kvs,x6,x7,x8,x9]=some (.nx [s,sz,D,S,F,.dct (kvs++iT (l.map λq=>(q.1,q.2.2))),x6',x7',x8',x9'])
 | [],kvs,x6,x7,x8,x9,_,_,_=>⟨x6,x7,x8,x9,by simp [bG,iT]⟩
 | q::l,kvs,x6,x7,x8,x9,hq,nd,hz=>by
  rw [kP] at nd hz;rw [<-qy] at nd;rw [qY] at hz;have hl:(nmP q.2.2).length=q.2.2.length:=qF _;obtain ⟨y8,y9,e1⟩:=b8O (s:=s) (sz:=sz) (D:=D) (S:=S) (F:=F) (x8:=x8) (x9:=x9) (hq q (by simp)) (kvs:=kvs) (kD (List.sublist_append_left _ _) nd) (by omega);have ek:(kvs++q.2.2.map λp=>((zY p.1.1:Key),jg (q.1.2.getD p.2 0))).map (·.1)=kvs.map (·.1)++nmP q.2.2:=by rw [qZ,qT];rfl
  obtain ⟨x6',x7',x8',x9',e2⟩:=a3k s sz D S F l (kvs++q.2.2.map λp=>(.inr p.1.1,.int (q.1.2.getD p.2 0))) (.val (dSf q.1)) (.val (dS q.2.1)) y8 y9 (λa ha=>hq a (qE _ ha)) (by rw [ek];exact nd) (by rw [qY,qF];omega);refine ⟨x6',x7',x8',x9',?_⟩;rw [qK,cW (t:=.tp [6,7]) (ρ1:=[s,sz,D,S,F,.dct kvs,.val (dSf q.1),.val (dS q.2.1),x8,x9]) rfl e1,e2,qy];rfl
section
variable {h:Mt->Int}
abbrev gA (s:List Mt) (sizes:T0s) (D:j0) (h:Mt->Int) (x4 x5:Ent):List Ent:=[.val (dS s),.val (dZ sizes),.val D,.val (dSh (bX sizes h s)),x4,x5,.no,.no,.no,.no]
def lE (h:Mt->Int) (sizes:T0s) (s:List Mt):Option (Option (List (List Mt))):=
 if eI h s 0 (bX sizes h s)=true then uJ h (bX sizes h s) 20000 [] [⟨[],[],byH h s,[]⟩] else some none
def a8S (hd:pS D h s) (nd:(s.map (·.1)).Nodup) (nm:∀ m∈s,jc m.1=true) (hs:s.length<64) (sz:Ent) {r:Option (List (List Mt))} (e:lE h sizes s=some r) (x5 x6 x7 x8 x9 x4:Ent):
  ifE (tV (aX iE (aC (var 3) (aC (var 0) (aC (var 2) aK))))) (aX (dR w) (aC (var 3) (aC (var 0) (aC (var 2) aK)))) (cst .none) [.val (dS s),sz,.val D,.val (dSh (bX sizes h s)),x4,x5,x6,x7,x8,x9]=some (.ok (fiD r)):=by
 have t:tV (aX iE (aC (var 3) (aC (var 0) (aC (var 2) aK)))) [.val (dS s),sz,.val D,.val (dSh (bX sizes h s)),x4,x5,x6,x7,x8,x9]=some (.ok (eI h s 0 (bX sizes h s))):=by
  rw [tT,aW (ds:=[dSh (bX sizes h s),dS s,D]) rfl (a3M hd (by omega) _)];rfl
 have:=a9r sizes h s;rw [b9X,t];unfold lE at e;cases c:eI h s 0 (bX sizes h s) with
 | true=>
  rw [if_pos c] at e;show aX (dR w) (aC (var 3) (aC (var 0) (aC (var 2) aK))) [.val (dS s),sz,.val D,.val (dSh (bX sizes h s)),x4,x5,x6,x7,x8,x9]=_;exact aW (ds:=[dSh (bX sizes h s),dS s,D]) rfl (b2Z hd nd nm hs (by omega) e)
 | false=>
  rw [if_neg (by rw [c];decide)] at e;cases e;rfl
def a4U (hd:pS D h s) (nd:(s.map (·.1)).Nodup) (nm:∀ m∈s,jc m.1=true) (hs:s.length<64) (hz:sizes.length<=1000) (e:lE h sizes s=some none):cK w [dS s,dZ sizes,D]=some (.ok .none):=by
 refine aV rfl ?_;show gN w [.val (dS s),.val (dZ sizes),.val D,.no,.no,.no,.no,.no,.no,.no]=_;unfold gN;rw [aJ (ρ':=gA s sizes D h .no .no) (by rw [fN,aT (aW (ds:=[dS s,dZ sizes,D]) rfl (a3K hd hz hs))];rfl)];rw [aJ (ρ':=gA s sizes D h (.val .none) (.no)) (by rw [fN,aT (a8S hd nd nm hs _ e _ _ _ _ _ _)];rfl)];rfl
def a4T (hd:pS D h s) (nd:(s.map (·.1)).Nodup) (nm:∀ m∈s,jc m.1=true) (hs:s.length<64) (hz:sizes.length<=1000) {l:List (Sf×List Mt×List Ly)} (e:lE h sizes s=some (some (l.map (·.2.1)))) (hl:l.map (·.1)=bX sizes h s) (hq:∀ q∈l,ShP q.1 q.2.1 q.2.2)
  (ndP:(l.flatMap λq=>nmP q.2.2).Nodup) (hp:(l.flatMap λq=>nmP q.2.2).length<=1000):cK w [dS s,dZ sizes,D]=some (.ok (dD (iT (l.map λq=>(q.1,q.2.2))))):=by
 refine aV rfl ?_;show gN w [.val (dS s),.val (dZ sizes),.val D,.no,.no,.no,.no,.no,.no,.no]=_;unfold gN;rw [aJ (ρ':=gA s sizes D h .no .no) (by rw [fN,aT (aW (ds:=[dS s,dZ sizes,D]) rfl (a3K hd hz hs))];rfl)];rw [aJ (ρ':=gA s sizes D h (.val (.tuple ((l.map (·.2.1)).map dS))) (.no)) (by rw [fN,aT (a8S hd nd nm hs _ e _ _ _ _ _ _)];rfl)];rw [ifF (t:=tI) rfl,aJ (ρ':=gA s sizes D h (.val (.tuple ((l.map (·.2.1)).map dS))) (.dct [])) rfl];obtain ⟨x6,x7,x8,x9,e2⟩:=a3k (.val (dS s)) (.val (dZ sizes)) (.val D) (.val (dSh (bX sizes h s))) (.val (.tuple ((l.map (·.2.1)).map dS))) l [] .no .no .no .no hq (by simpa using ndP) (by simpa using hp);have z:a2G (var 3) (var 4) (gA s sizes D h (.val (.tuple ((l.map (·.2.1)).map dS))) (.dct []))=some (.ok (l.map λq=>.tuple [dSf q.1,dS q.2.1])):=by
  rw [b0G (a:=(bX sizes h s).map dSf) (b:=(l.map (·.2.1)).map dS) rfl rfl,<-hl,qT,qT];unfold b0H;rw [List.zip_map',qT];rfl
 rw [aJ (by rw [iX,aT z];exact e2)];rfl
theorem ShP.of (nd:(ms.map (·.1)).Nodup) (hz:ms.length<64) (hp:∀ m∈ms,m.2.1<m.2.2) (hm:aY ms<=(f.2.length:Nat)):∃ P,LayOf ms P/\ShP f ms P:=by
 obtain ⟨P,L,_,e⟩:=b0i nd hz;refine ⟨P,L,e,λp hP=>?_⟩;have:=(L.used hp p.2).mp (qi hP);omega
def pZ (s:List Mt) (A:List Mt):List Mt:=s.filter λm=>decide (m.1∈tJ (A.map (·.1)))
def plD:Option (List (Key×j0))->j0
 | none=>.none
 | some kvs=>dD kvs
abbrev fA (s:List Mt) (sizes:T0s) (D:j0) (kvs:List (Key×j0)) (x4 x5:Ent):List Ent:=[.val (dS s),.val (dZ sizes),.val D,.dct kvs,x4,x5]
theorem a5O (hz:s.length<=1000) (pl:List Mt->Option (List (Key×j0))):∀ (Gs:List (List Mt)) (kvs:List (Key×j0)) (x4 x5:Ent),(∀ A∈Gs,cK w [dS (pZ s A),dZ sizes,D]=some (.ok (plD (pl A)))) ->
  (kvs.map (·.1)++Gs.flatMap λA=>((pl A).getD []).map (·.1)).Nodup->kvs.length+(Gs.flatMap λA=>((pl A).getD []).map (·.1)).length<=1000 ->
  ((∃ A∈Gs,pl A=none)->bG (.nm 4) (bD w) (Gs.map gD) (fA s sizes D kvs x4 x5)=some (.rt .none)) /\
  ((∀ A∈Gs,pl A≠none)->∃ x4' x5',bG (.nm 4) (bD w) (Gs.map gD) (fA s sizes D kvs x4 x5)=some (.nx (fA s sizes D (kvs++Gs.flatMap λA=>(pl A).getD []) x4' x5')))
 | [],kvs,x4,x5,_,_,_=>⟨λ⟨A,hA,_⟩=>(nomatch hA),λ_=>⟨x4,x5,by simp [bG]⟩⟩
 | A::Gs,kvs,x4,x5,hG,nd,hl=>by
  have s1:eZ 5 (aX (cK w) (aC (aX tE (aC (var 0) (aC (var 4) aK))) (aC (var 1) (aC (var 2) aK)))) (fA s sizes D kvs (.val (gD A)) x5)=some (.nx (fA s sizes D kvs (.val (gD A)) (.val (plD (pl A))))):=by
   rw [fN,aT (aW (ds:=[dS (pZ s A),dZ sizes,D]) (aM (aW (ds:=[dS s,gD A]) rfl (b0f s _ hz)) rfl) (hG A (by simp)))];rfl
  rw [kP] at nd hl;rw [qK];cases c:pl A with
  | none=>
   rw [c] at s1;have b:bD w (fA s sizes D kvs (.val (gD A)) x5)=some (.rt .none):=by
    show aQ _ _ _=_;rw [aJ s1,fF (d:=.none) rfl]
   refine ⟨λ_=>?_,λz=>absurd c (z A (by simp))⟩
   show (match bD w (fA s sizes D kvs (.val (gD A)) x5) with
    | some (.nx ρ2)=>bG (.nm 4) (bD w) (Gs.map gD) ρ2
    | some (.ct ρ2)=>bG (.nm 4) (bD w) (Gs.map gD) ρ2
    | some (.bk ρ2)=>some (.nx ρ2)
    | some (.rt d)=>some (.rt d)
    | some (.xc c ρ2)=>some (.xc c ρ2)
    | none=>none)=_
   rw [b]
  | some more=>
   rw [c] at s1 nd hl;rw [<-qy] at nd;rw [qY] at hl;have hm:(((some more:Option (List (Key×j0))).getD []).map (·.1)).length=more.length:=by simp
   have b:bD w (fA s sizes D kvs (.val (gD A)) x5)=some (.nx (fA s sizes D (kvs++more) (.val (gD A)) (.val (dD more)))):=by
    show aQ _ _ _=_;rw [aJ s1,ifF (t:=pM) rfl,b0O (i:=3) (kvs:=kvs) (more:=more) rfl rfl (by omega) (by rw [qZ];exact kD (List.sublist_append_left _ _) nd)];rfl
   obtain ⟨h1,h2⟩:=a5O hz pl Gs (kvs++more) (.val (gD A)) (.val (dD more)) (λB hB=>hG B (qE _ hB)) (by rw [qZ];exact nd) (by rw [qY];omega);rw [cW (t:=.nm 4) (ρ1:=(fA s sizes D kvs (.val (gD A)) x5)) rfl b];refine ⟨λ⟨B,hB,e⟩=>?_,λz=>?_⟩
   ·rcases qI.mp hB with rfl | hB
    ·rw [c] at e;cases e
    ·exact h1 ⟨B,hB,e⟩
   ·obtain ⟨x4',x5',e⟩:=h2 λB hB=>z B (qE _ hB)
    refine ⟨x4',x5',?_⟩;rw [e,kP,c,qy];rfl
def b0h (nd:(s.map (·.1)).Nodup) (hz:s.length<64) (pl:List Mt->Option (List (Key×j0))) (hG:∀ A∈bL (cI s),cK w [dS (pZ s A),dZ sizes,D]=some (.ok (plD (pl A))))
  (nk:((bL (cI s)).flatMap λA=>((pl A).getD []).map (·.1)).Nodup) (hl:((bL (cI s)).flatMap λA=>((pl A).getD []).map (·.1)).length<=1000):
  ((∃ A∈bL (cI s),pl A=none)->cC w [dS s,dZ sizes,D]=some (.ok .none)) /\
  ((∀ A∈bL (cI s),pl A≠none)->cC w [dS s,dZ sizes,D]=some (.ok (dD ((bL (cI s)).flatMap λA=>(pl A).getD [])))):=by
 obtain ⟨h1,h2⟩:=a5O (w:=w) (sizes:=sizes) (D:=D) (s:=s) (by omega) pl (bL (cI s)) [] .no .no hG (by simpa using nk) (by simpa using hl);have g:nZ (.nm 4) (gC (aX rY (aC (var 0) aK))) (bD w) (fA s sizes D [] .no .no)=bG (.nm 4) (bD w) ((bL (cI s)).map gD) (fA s sizes D [] .no .no):=by
  rw [iX,oM (aW (ds:=[dS s]) rfl (b2Y nd hz)) rfl];rfl
 have n:eR w [.val (dS s),.val (dZ sizes),.val D,.no,.no,.no]=aQ (nZ (.nm 4) (gC (aX rY (aC (var 0) aK))) (bD w)) (a2D 3 (retS (var 3))) (fA s sizes D [] .no .no):=by
  unfold eR;exact aJ rfl
 refine ⟨λz=>aV rfl ?_,λz=>aV rfl ?_⟩
 ·show eR w [.val (dS s),.val (dZ sizes),.val D,.no,.no,.no]=_
  rw [n,fF (g.trans (h1 z))]
 ·obtain ⟨x4,x5,e⟩:=h2 z
  show eR w [.val (dS s),.val (dZ sizes),.val D,.no,.no,.no]=_;rw [n,aJ (g.trans e)];rfl
end
section
variable {h:Mt->Int} {x z:Fl} {k:Mrk}
def b0I (e:x.mrk=y.mrk):(cD h sh x).map Fl.mrk=(cD h sh y).map Fl.mrk:=by
 obtain ⟨fi,tk,wt,lf⟩:=x;obtain ⟨fi',tk',wt',lf'⟩:=y;simp only [Fl.mrk,Prod.mk.injEq] at e;obtain ⟨e1,rfl,rfl,rfl⟩:=e;unfold cD;cases wt with
 | nil=>
  dsimp only;rw [e1];split<;>simp [Fl.on,Fl.mrk,e1]
 | cons m r=>
  dsimp only;unfold pL;dsimp only;rw [e1,qZ,qZ];congr 1<;>(split<;>simp [Fl.wout,Fl.wth,Fl.mrk,e1])
theorem a5k:∀ (l:List Fl) (p:List Mrk×List Fl),k∈p.1->k∈(addW p l).1
 | [],p,hk=>hk
 | y::l,p,hk=>by
  unfold addW;refine a5k l _ ?_;split
  ·exact hk
  ·exact jA _ hk
theorem a5j:∀ (l:List Fl) (p:List Mrk×List Fl),z∈p.2->z∈(addW p l).2
 | [],p,hk=>hk
 | y::l,p,hk=>by
  unfold addW;refine a5j l _ ?_;split
  ·exact hk
  ·exact jA _ hk
theorem a2m:∀ (l:List Fl) (p:List Mrk×List Fl),y∈l->y.mrk∈(addW p l).1
 | a::l,p,hy=>by
  unfold addW;rcases qI.mp hy with rfl | hy
  ·refine a5k l _ ?_
   split
   ·assumption
   ·simp
  ·exact a2m l _ hy
theorem a6B:∀ (l:List Fl) (p:List Mrk×List Fl),k∈(addW p l).1->k∈p.1\/∃ y∈(addW p l).2,y.mrk=k
 | [],p,hk=>.inl hk
 | a::l,p,hk=>by
  unfold addW at hk ⊢;rcases a6B l _ hk with q | q
  ·split at q
   ·exact .inl q
   ·rename_i c
    rcases qg.mp q with q | q
    ·exact .inl q
    ·rw [qH.mp q]
     refine .inr ⟨a,a5j l _ ?_,rfl⟩;rw [if_neg c];simp
  ·exact .inr q
theorem a6A (f:Fl->Nat):∀ (l:List Fl) (p:List Mrk×List Fl),((addW p l).2.map f).sum<=(p.2.map f).sum+(l.map f).sum
 | [],p=>by simp [addW]
 | a::l,p=>by
  unfold addW;have:=a6A f l (if a.mrk∈p.1 then p else (p.1++[a.mrk],p.2++[a]));rw [qK,kT];split at this
  ·rename_i c;rw [if_pos c];omega
  ·rename_i c
   rw [if_neg c];simp only [qZ,List.sum_append,qK,zj,kT,wZ] at this;omega
def Done (h:Mt->Int) (sh:List Sf) (ks:List Mrk) (x:Fl):Prop:=x.fi.length≠sh.length/\∀ y∈cD h sh x,y.mrk∈ks
theorem Done.same {ks:List Mrk} (d:Done h sh ks x) (e:y.mrk=x.mrk):Done h sh ks y:=by
 have e1:y.fi.length=x.fi.length:=congrArg Prod.fst e;refine ⟨by rw [e1];exact d.1,λz hz=>?_⟩;have:=qi (f:=Fl.mrk) hz;rw [b0I e] at this;obtain ⟨z',hz',ez⟩:=qO.mp this;rw [<-ez];exact d.2 z' hz'
theorem a2R:∀ (n:Nat) (ks:List Mrk) (st:List Fl),(∀ k∈ks,(∃ x∈st,x.mrk=k)\/∀ x:Fl,x.mrk=k->Done h sh ks x)->uJ h sh n ks st=some none ->
  ∃ ks',(∀ k∈ks,k∈ks')/\(∀ x∈st,Done h sh ks' x)/\∀ k∈ks',∀ x:Fl,x.mrk=k->Done h sh ks' x
 | 0,ks,st,_,e=>by cases e
 | n+1,ks,st,inv,e=>by
  unfold uJ at e;rcases zD st with rfl | ⟨st',x,rfl⟩
  ·refine ⟨ks,λ_ z=>z,(λx hx=>nomatch hx),λk hk=>?_⟩
   rcases inv k hk with ⟨x,hx,_⟩ | q
   ·cases hx
   ·exact q
  ·rw [kB,zL] at e
   dsimp only at e;rw [kX] at e;split at e
   ·cases e
   ·rename_i hn
    have dx:Done h sh (addW (ks,st') (cD h sh x)).1 x:=⟨hn,λy hy=>a2m _ _ hy⟩
    obtain ⟨ks',h0,h1,h2⟩:=a2R n _ _ (λk hk=>by
     rcases a6B _ _ hk with q | q
     ·rcases inv k q with ⟨z,hz,ez⟩ | q
      ·rw [kB] at hz
       rcases qg.mp hz with hz | hz
       ·exact .inl ⟨z,a5j _ _ hz,ez⟩
       ·rw [qH.mp hz] at ez
        exact .inr λy ey=>dx.same (ey.trans ez.symm)
      ·exact .inr λy ey=>⟨(q y ey).1,λw hw=>a5k _ _ ((q y ey).2 w hw)⟩
     ·exact .inl q) e
    refine ⟨ks',λk hk=>h0 k (a5k _ _ hk),λz hz=>?_,h2⟩;rw [kB] at hz;rcases qg.mp hz with hz | hz
    ·exact h1 z (a5j _ _ hz)
    ·rw [qH.mp hz]
     exact ⟨hn,λy hy=>h0 _ (a2m _ _ hy)⟩
inductive Path (h:Mt->Int) (sh:List Sf):Fl->Fl->Prop
 | refl (x:Fl):Path h sh x x
 | step {x y z:Fl}:y∈cD h sh x->Path h sh y z->Path h sh x z
theorem Path.trans (p:Path h sh x y) (q:Path h sh y z):Path h sh x z:=by
 induction p with
 | refl=>exact q
 | step hy _ ih=>exact .step hy (ih q)
def b4T (e:uJ h sh n [] [x]=some none) (p:Path h sh x z):z.fi.length≠sh.length:=by
 obtain ⟨ks,_,h1,h2⟩:=a2R n [] [x] (λk hk=>nomatch hk) e;have hx:=h1 x (by simp)
 clear h1 e
 induction p with
 | refl=>exact hx.1
 | step hy _ ih=>exact ih (h2 _ (hx.2 _ hy) _ rfl)
def wg (f:Nat->Nat):Nat->Nat->Nat
 | 0,l=>1+f l
 | w+1,l=>1+wg f w (l+1)+wg f w l
def wgt:Nat->Nat->Nat->Nat
 | 0=>λ_ _=>1
 | r+1=>wg λl=>wgt r l 0
def wx (sh:List Sf) (x:Fl):Nat:=wgt (sh.length - x.fi.length) x.wt.length x.lf.length
def b3V (hn:x.fi.length<sh.length) (hy:y∈cD h sh x):y.fi.length<=sh.length:=by
 unfold cD at hy;split at hy
 ·unfold pL at hy
  rcases qg.mp hy with hy | hy<;>(split at hy<;>simp at hy;rw [hy];simp [Fl.wout,Fl.wth];omega)
 ·split at hy<;>simp at hy
  rw [hy];simp [Fl.on];omega
def b3U (hn:x.fi.length<sh.length):((cD h sh x).map (wx sh)).sum+1<=wx sh x:=by
 obtain ⟨fi,tk,wt,lf⟩:=x;dsimp only at hn;obtain ⟨r,hr⟩:∃ r,sh.length - fi.length=r+1:=⟨sh.length - fi.length - 1,by omega⟩;have e1:∀ a b c,wx sh ⟨fi,a,b,c⟩=wg (λl=>wgt r l 0) b.length c.length:=λa b c=>by unfold wx;dsimp only;rw [hr];rfl
 rw [e1];unfold cD;cases wt with
 | nil=>
  dsimp only;have e2:wx sh ⟨fi++[tk],[],lf,[]⟩=wgt r lf.length 0:=by
   unfold wx;dsimp only;rw [qY,jO,show sh.length - (fi.length+1)=r by omega];rfl
  show _<=1+wgt r lf.length 0;split
  ·simp
  ·simp only [Fl.on,qK,zj,kT,wZ]
   rw [e2];omega
 | cons m w=>
  dsimp only;unfold pL;show _<=1+wg _ w.length (lf.length+1)+wg _ w.length lf.length;have e3:wx sh (Fl.wout ⟨fi,tk,m::w,lf⟩)=wg (λl=>wgt r l 0) w.length (lf.length+1):=by
   unfold Fl.wout;rw [e1];simp
  have e4:wx sh (Fl.wth ⟨fi,tk,m::w,lf⟩)=wg (λl=>wgt r l 0) w.length lf.length:=by
   unfold Fl.wth;rw [e1];simp
  rw [qZ,List.sum_append];have a:∀ (c:Prop) [Decidable c] (f:Fl),((if c then [f] else []).map (wx sh)).sum<=wx sh f:=λc _ f=>by split<;>simp
  refine qk (Nat.add_le_add_right (Nat.add_le_add (a _ _) (a _ _)) 1) ?_;rw [e3,e4];omega
theorem a2Q:∀ (n:Nat) (ks:List Mrk) (st:List Fl),(∀ x∈st,x.fi.length<=sh.length)->(st.map (wx sh)).sum<n->∃ r,uJ h sh n ks st=some r
 | 0,ks,st,_,hs=>by omega
 | n+1,ks,st,ok,hs=>by
  unfold uJ;rcases zD st with rfl | ⟨st',x,rfl⟩
  ·exact ⟨_,rfl⟩
  ·rw [kB] at *
   rw [zL];dsimp only;rw [kX];split
   ·exact ⟨_,rfl⟩
   ·rename_i hn
    have hx:=ok x (by simp);have hn':x.fi.length<sh.length:=by omega
    have w:=b3U (h:=h) hn';have a:=a6A (wx sh) (cD h sh x) (ks,st');simp only [qZ,List.sum_append,qK,zj,kT,wZ] at hs;dsimp only at a
    exact a2Q n _ _ (λy hy=>by
     rcases xK _ _ hy with hy | hy
     ·exact ok y (jA _ hy)
     ·exact b3V hn' hy) (by omega)
theorem a1a {V:Fl->Prop} (hv:∀ x,V x->x.fi.length≠sh.length->∀ y∈cD h sh x,V y) {fi:List (List Mt)}:∀ (n:Nat) (ks:List Mrk) (st:List Fl),(∀ x∈st,V x)->uJ h sh n ks st=some (some fi)->∃ x,V x/\x.fi=fi/\x.fi.length=sh.length
 | 0,ks,st,_,e=>by cases e
 | n+1,ks,st,ok,e=>by
  unfold uJ at e;rcases zD st with rfl | ⟨st',x,rfl⟩
  ·cases e
  ·rw [kB] at *
   rw [zL] at e;dsimp only at e;rw [kX] at e;split at e
   ·rename_i hl
    injection e with e;injection e with e;exact ⟨x,ok x (by simp),e,hl⟩
   ·rename_i hn
    exact a1a hv n _ _ (λy hy=>by
     rcases xK _ _ hy with hy | hy
     ·exact ok y (jA _ hy)
     ·exact hv x (ok x (by simp)) hn y hy) e
end
def b2l (a b:List Mt) (d:Int):bB (a++b) d=bB a d+bB b d:=by
 unfold bB fI;rw [List.filter_append,qZ,qY];omega
def rJ {a b:List Mt} (nd:a.Nodup) (hs:∀ m∈a,m∈b) (d:Int):bB a d<=bB b d:=by
 unfold bB fI;rw [qF,qF];have:=gZ (l:=a.filter (cQ d)) (m:=b.filter (cQ d)) (nd.filter _) λx hx=>by
  rw [qX] at hx ⊢;exact ⟨hs x hx.1,hx.2⟩
 omega
def a4A {c:Nat}:aY L<=(c:Nat)↔∀ d,bB L d<=(c:Nat):=by
 constructor
 ·intro z d
  have:=a8w L d;omega
 ·intro z
  rcases a8x L with e | ⟨m,hm,e⟩
  ·omega
  ·rw [e];exact z _
structure ShOk (h:Mt->Int) (sh:List Sf) (t:List Mt):Prop where
 dec:∀ i j,i<j->j<sh.length->(eM sh j).1<(eM sh i).1
 mem:∀ m∈t,∃ j<sh.length,h m=(eM sh j).1
variable {t:List Mt}
theorem ShOk.le {h:Mt->Int} (S:ShOk h sh t) (hij:i<=j) (hj:j<sh.length):(eM sh j).1<=(eM sh i).1:=by
 rcases vE hij with z | z
 ·exact zF (S.dec i j z hj)
 ·rw [z];exact jd _
variable {σ:Mt->Nat}
section
variable {h:Mt->Int} {x:Fl}
structure Vd (h:Mt->Int) (sh:List Sf) (t:List Mt) (x:Fl):Prop where
 perm:(x.fi.flatten++(x.tk++(x.wt++x.lf))).Perm t
 len:x.fi.length<=sh.length
 fit:∀ i A,x.fi[i]?=some A->aY A<=((eM sh i).2.length:Nat)/\∀ m∈A,h m<=(eM sh i).1
 cur:x.fi.length<sh.length->aY x.tk<=((eM sh x.fi.length).2.length:Nat)/\(∀ m∈x.tk++x.wt,h m<=(eM sh x.fi.length).1)/\∀ m∈x.lf,h m<(eM sh x.fi.length).1
 fin:x.fi.length=sh.length->x.tk=[]/\x.wt=[]/\x.lf=[]
def Vd.step (S:ShOk h sh t) (v:Vd h sh t x) (hn:x.fi.length≠sh.length) (hy:y∈cD h sh x):Vd h sh t y:=by
 have hl:=v.len;have hlt:x.fi.length<sh.length:=by omega
 obtain ⟨c1,c2,c3⟩:=v.cur hlt;have vp:=v.perm;have vf:=v.fit;obtain ⟨fi,tk,wt,lf⟩:=x;dsimp only at *;unfold cD at hy;cases wt with
 | nil=>
  dsimp only at hy;split at hy
  ·cases hy
  ·rw [qH.mp hy]
   have inT:∀ m∈lf,m∈t:=λm hm=>vp.mem_iff.mp (by simp [hm]);refine ⟨?_,by simp [Fl.on];omega,λi A hA=>?_,λz=>?_,λz=>?_⟩
   ·simpa [Fl.on] using vp
   ·simp only [Fl.on] at hA
    rcases wY i fi.length with q | q
    ·rw [jH q] at hA
     exact vf i A hA
    ·rw [jQ q] at hA
     have:i - fi.length=0:=by
      rcases Nat.eq_zero_or_pos (i - fi.length) with z | z
      ·exact z
      ·rw [qd (by simp;omega)] at hA;cases hA
     rw [this] at hA;injection hA with hA;subst hA;have e:i=fi.length:=by omega
     rw [e];exact ⟨c1,λm hm=>c2 m (by simp [hm])⟩
   ·have z:fi.length+1<sh.length:=by simpa [Fl.on] using z
    have eL:(Fl.on ⟨fi,tk,[],lf⟩).fi.length=fi.length+1:=by simp [Fl.on]
    rw [eL];refine ⟨by show aY []<=_;unfold aY;rw [if_pos rfl];omega,λm hm=>?_,(λm hm=>nomatch hm)⟩;have hm:m∈lf:=by simpa [Fl.on] using hm
    obtain ⟨j,hj,ej⟩:=S.mem m (inT m hm);have h3:=c3 m hm;have:fi.length<j:=by
     rcases wY fi.length j with q | q
     ·exact q
     ·have:=S.le q hlt;omega
    rw [ej];exact S.le this hj
   ·have z:fi.length+1=sh.length:=by simpa [Fl.on] using z
    refine ⟨rfl,?_,rfl⟩;show lf=[];rw [wc];intro m hm;obtain ⟨j,hj,ej⟩:=S.mem m (inT m hm);have h3:=c3 m hm;have:=S.le (show j<=fi.length by omega) hlt;omega
 | cons m r=>
  dsimp only at hy;unfold pL at hy;dsimp only at hy;rcases qg.mp hy with hy | hy
  ·split at hy
   ·rename_i c
    rw [qH.mp hy];refine ⟨vt ?_ vp,hl,vf,λz=>⟨c1,λa ha=>c2 a ?_,λa ha=>?_⟩,λz=>absurd z hn⟩
    ·refine zE _ (zE _ ?_)
     show (r++(lf++[m])).Perm (m::(r++lf));rw [<-qy];exact zK _ _
    ·simp [Fl.wout] at ha ⊢
     rcases ha with ha | ha
     ·exact .inl ha
     ·exact .inr (.inr ha)
    ·rcases qg.mp ha with ha | ha
     ·exact c3 a ha
     ·rw [qH.mp ha];exact c.1
   ·cases hy
  ·split at hy
   ·rename_i c
    rw [qH.mp hy];refine ⟨vt ?_ vp,hl,vf,λz=>⟨c,λa ha=>c2 a ?_,c3⟩,λz=>absurd z hn⟩
    ·refine zE _ ?_
     show ((tk++[m])++(r++lf)).Perm (tk++(m::r++lf));rw [qy];exact .refl _
    ·simp [Fl.wth] at ha ⊢
     rcases ha with ha | ha | ha
     ·exact .inl ha
     ·exact .inr (.inl ha)
     ·exact .inr (.inr ha)
   ·cases hy
def Vd.start (S:ShOk h sh t) (hB:B.Perm t):Vd h sh t ⟨[],[],B,[]⟩:=by
 refine ⟨by simpa using hB,qt _,(λi A e=>nomatch e),λz=>⟨by show aY []<=_;unfold aY;rw [if_pos rfl];omega,λm hm=>?_,(λm hm=>nomatch hm)⟩,λz=>⟨rfl,?_,rfl⟩⟩
 ·obtain ⟨j,hj,ej⟩:=S.mem m (hB.mem_iff.mp (by simpa using hm))
  rw [ej];exact S.le (qt _) hj
 ·show B=[]
  rw [wc];intro m hm;obtain ⟨j,hj,_⟩:=S.mem m (hB.mem_iff.mp hm);have z:0=sh.length:=z;omega
structure Asg (h:Mt->Int) (sh:List Sf) (t:List Mt) (σ:Mt->Nat):Prop where
 lt:∀ m∈t,σ m<sh.length
 le:∀ m∈t,h m<=(eM sh (σ m)).1
 most:∀ i<sh.length,∀ d,bB (t.filter λm=>decide (σ m=i)) d<=((eM sh i).2.length:Nat)
def b6j (sh:List Sf) (t:List Mt) (σ:Mt->Nat):Prop:=∀ m∈t,∀ i<σ m,∃ d,((eM sh i).2.length:Int)<bB (t.filter (λm=>decide (σ m=i))++[m]) d
theorem a5q {f g:Mt->Nat}:∀ {l:List Mt},(∀ m∈l,f m<=g m)->(∃ m∈l,f m<g m)->(l.map f).sum<(l.map g).sum
 | [],_,⟨m,hm,_⟩=>by cases hm
 | a::l,hle,⟨m,hm,hlt⟩=>by
  rw [qK,qK,kT,kT];have h1:=hle a (by simp);have h2:(l.map f).sum<=(l.map g).sum:=by
   clear hlt hm h1
   induction l with
   | nil=>simp
   | cons b l ih=>
    rw [qK,qK,kT,kT];have:=hle b (by simp);have:=ih λm hm=>hle m (by rcases qI.mp hm with z | z<;>simp [z]);omega
  rcases qI.mp hm with rfl | hm
  ·omega
  ·have:=a5q (λm hm=>hle m (qE _ hm)) ⟨m,hm,hlt⟩
   omega
theorem a8A {σ:Mt->Nat} {m:Mt}:∀ {l:List Mt},m∈l->σ m<=(l.map σ).sum
 | a::l,hm=>by
  rw [qK,kT];rcases qI.mp hm with rfl | hm
  ·omega
  ·have:=a8A (σ:=σ) hm;omega
theorem Asg.full (S:ShOk h sh t) (nd:t.Nodup):∀ (n:Nat) (σ:Mt->Nat),Asg h sh t σ->(t.map σ).sum<=n->∃ σ',Asg h sh t σ'/\b6j sh t σ':=by
 intro n
 induction n with
 | zero=>
  intro σ A hs;refine ⟨σ,A,λm hm i hi=>?_⟩;have:=a8A (σ:=σ) hm;omega
 | succ n ih=>
  intro σ A hs;by_cases F:b6j sh t σ
  ·exact ⟨σ,A,F⟩
  ·unfold b6j at F
   have F:∃ m∈t,∃ i<σ m,∀ d,bB (t.filter (λm=>decide (σ m=i))++[m]) d<=((eM sh i).2.length:Int):=by
    apply zP;intro z;refine F λm hm i hi=>zP λq=>z ⟨m,hm,i,hi,λd=>?_⟩;exact wW.mp λw=>q ⟨d,w⟩
   obtain ⟨m,hm,i,hi,hd⟩:=F;have hmk:=A.lt m hm;refine ih (λa=>if a=m then i else σ a) ⟨λa ha=>?_,λa ha=>?_,λj hj d=>?_⟩ ?_
   ·split
    ·omega
    ·exact A.lt a ha
   ·split
    ·rename_i e
     rw [e];exact km (A.le m hm) (zF (S.dec i _ hi hmk))
    ·exact A.le a ha
   ·by_cases c:j=i
    ·refine km (rJ (b:=t.filter (λm=>decide (σ m=i))++[m]) (nd.filter _) (λa ha=>?_) d) (by rw [c];exact hd d)
     rw [qX,decide_eq_true_eq] at ha;rw [qg,qX,decide_eq_true_eq,qH];by_cases e:a=m
     ·exact .inr e
     ·rw [if_neg e] at ha
      exact .inl ⟨ha.1,by omega⟩
    ·refine km (rJ (b:=t.filter λm=>decide (σ m=j)) (nd.filter _) (λa ha=>?_) d) (A.most j hj d)
     rw [qX,decide_eq_true_eq] at ha ⊢;refine ⟨ha.1,?_⟩;by_cases e:a=m
     ·rw [if_pos e] at ha;omega
     ·rw [if_neg e] at ha;exact ha.2
   ·have:=a5q (f:=λa=>if a=m then i else σ a) (g:=σ) (l:=t) (λa ha=>by
     split
     ·rename_i e;rw [e];omega
     ·exact qM _) ⟨m,hm,by rw [if_pos rfl];exact hi⟩
    omega
def b4i (hj:j<sh.length):sh.drop j=eM sh j::sh.drop (j+1):=by
 rw [List.drop_eq_getElem_cons hj];unfold eM;rw [qG,qD hj];rfl
def b2e (S:ShOk h sh t) (A:Asg h sh t σ) (nL:L.Nodup) (hL:∀ m∈L,m∈t) {lo:Nat} (hlo:∀ m∈L,lo<=σ m):∀ (n j:Nat) (M:List Mt) (many:Nat),n=sh.length - j->j<=sh.length->(∀ m∈t,lo<=σ m->σ m<j->m∈M)->(∀ d,bB M d<=(many:Nat))->eI h L (many:Nat) (sh.drop j)=true:=by
 intro n
 induction n with
 | zero=>
  intro j M many hn hj _ _;rw [ku (by omega)];rfl
 | succ n ih=>
  intro j M many hn hj hM hd;have hj:j<sh.length:=by omega
  rw [b4i hj];unfold eI;have e:((many:Nat):Int)+((eM sh j).2.length:Nat)=((many+(eM sh j).2.length:Nat):Int):=by omega
  have hM':∀ m∈t,lo<=σ m->σ m<j+1->m∈M++t.filter λm=>decide (σ m=j):=λm hm h1 h2=>by
   rw [qg,qX,decide_eq_true_eq];by_cases c:σ m=j
   ·exact .inr ⟨hm,c⟩
   ·exact .inl (hM m hm h1 (by omega))
  have hd':∀ d,bB (M++t.filter λm=>decide (σ m=j)) d<=((many+(eM sh j).2.length:Nat):Int):=λd=>by
   rw [b2l];have:=hd d;have:=A.most j hj d;omega
  rw [e,if_neg]
  ·exact ih (j+1) _ _ (by omega) hj hM' hd'
  ·rw [wW,a4A]
   intro d;refine km (rJ (nL.filter _) (λm hm=>?_) d) (hd' d);rw [qX,decide_eq_true_eq] at hm;have hmt:=hL m hm.1;refine hM' m hmt (hlo m hm.1) ?_;rcases wY (σ m) (j+1) with q | q
   ·exact q
   ·have:=S.dec j (σ m) (by omega) (A.lt m hmt)
    have:=A.le m hmt;omega
theorem uC (S:ShOk h sh t) (A:Asg h sh t σ) (fi:List (List Mt)) (hi:fi.length<sh.length):∀ (w tk lf:List Mt),(tk++(w++lf)).Nodup->(∀ m∈tk++(w++lf),m∈t)->(∀ m∈tk,σ m=fi.length)->(∀ m∈w,fi.length<=σ m)->(∀ m∈lf,fi.length<σ m) ->
  Path h sh ⟨fi,tk,w,lf⟩ ⟨fi,tk++w.filter (λm=>decide (σ m=fi.length)),[],lf++w.filter λm=>decide (fi.length<σ m)⟩
 | [],tk,lf,_,_,_,_,_=>by simp;exact .refl _
 | m::w,tk,lf,nd,hT,h1,h2,h3=>by
  have hm:=h2 m (by simp);have hmt:=hT m (by simp);by_cases c:σ m=fi.length
  ·have st:(⟨fi,tk++[m],w,lf⟩:Fl)∈cD h sh ⟨fi,tk,m::w,lf⟩:=by
    unfold cD pL;dsimp only;refine qu _ ?_;rw [if_pos]
    ·simp [Fl.wth]
    ·rw [a4A]
     intro d;refine km (rJ (b:=t.filter λm=>decide (σ m=fi.length)) ?_ (λa ha=>?_) d) (A.most _ hi d)
     ·refine kD ?_ nd
      exact List.Sublist.append_left (by simp) tk
     ·rw [qX,decide_eq_true_eq]
      rcases qg.mp ha with ha | ha
      ·exact ⟨hT a (by simp [ha]),h1 a ha⟩
      ·rw [qH.mp ha];exact ⟨hmt,c⟩
   have:=uC S A fi hi w (tk++[m]) lf (by simpa using nd) (λa ha=>hT a (by simpa using ha)) (λa ha=>by
    rcases qg.mp ha with ha | ha
    ·exact h1 a ha
    ·rw [qH.mp ha];exact c) (λa ha=>h2 a (qE _ ha)) h3
   rw [qr (by simpa using c),jF (by simp;omega)];rw [qy] at this;exact .step st this
  ·have hlt:fi.length<σ m:=by omega
   have nL:(lf++[m]).Nodup:=by
    have:(m::lf).Nodup:=kD (List.Sublist.trans (List.Sublist.cons₂ m (List.sublist_append_right w lf)) (List.sublist_append_right tk _)) nd;exact (zK m lf).nodup_iff.mpr this
   have hL:∀ a∈lf++[m],a∈t/\fi.length+1<=σ a:=λa ha=>by
    rcases qg.mp ha with ha | ha
    ·exact ⟨hT a (by simp [ha]),h3 a ha⟩
    ·rw [qH.mp ha];exact ⟨hmt,hlt⟩
   have st:(⟨fi,tk,w,lf++[m]⟩:Fl)∈cD h sh ⟨fi,tk,m::w,lf⟩:=by
    unfold cD pL;dsimp only;refine jA _ ?_;rw [if_pos]
    ·simp [Fl.wout]
    ·refine ⟨?_,b2e S A nL (λa ha=>(hL a ha).1) (lo:=fi.length+1) (λa ha=>(hL a ha).2) _ _ [] 0 rfl hi (λa _ z1 z2=>by omega) (λd=>jd _)⟩
     have:=A.le m hmt;have:=S.dec _ _ hlt (A.lt m hmt);omega
   have:=uC S A fi hi w tk (lf++[m]) (by
    refine List.Perm.nodup_iff ?_ |>.mp nd;refine zE tk ?_;show (m::(w++lf)).Perm (w++(lf++[m]));rw [<-qy]
    exact (zK _ _).symm) (λa ha=>hT a (by
     simp at ha ⊢;rcases ha with ha | ha | ha | ha
     ·exact .inl ha
     ·exact .inr (.inr (.inl ha))
     ·exact .inr (.inr (.inr ha))
     ·exact .inr (.inl ha))) h1 (λa ha=>h2 a (qE _ ha)) (λa ha=>(hL a ha).2)
   rw [jF (by simpa using c),qr (by simpa using hlt)];rw [qy] at this;exact .step st this
def b1M (S:ShOk h sh t) (ndt:t.Nodup) (A:Asg h sh t σ) (F:b6j sh t σ):∀ (n:Nat) (fi:List (List Mt)) (w:List Mt),n=sh.length - fi.length->fi.length<=sh.length->w.Nodup->(∀ m∈w,m∈t)->(∀ m∈w,fi.length<=σ m)->(∀ m∈t,fi.length<=σ m->m∈w)->∃ z,Path h sh ⟨fi,[],w,[]⟩ z/\z.fi.length=sh.length:=by
 intro n
 induction n with
 | zero=>
  intro fi w hn hf _ _ _ _;exact ⟨_,.refl _,by show fi.length=_;omega⟩
 | succ n ih=>
  intro fi w hn hf nd h1 h2 h3;have hi:fi.length<sh.length:=by omega
  have p:=uC S A fi hi w [] [] (by simpa using nd) (by simpa using h1) (λm hm=>nomatch hm) h2 (λm hm=>nomatch hm);rw [zB,zB] at p;have hT:∀ m,m∈w.filter (λm=>decide (σ m=fi.length))↔m∈t.filter λm=>decide (σ m=fi.length):=λm=>by
   rw [qX,qX,decide_eq_true_eq];exact ⟨λq=>⟨h1 m q.1,q.2⟩,λq=>⟨h3 m q.1 (by omega),q.2⟩⟩
  have st:(⟨fi++[w.filter λm=>decide (σ m=fi.length)],[],w.filter (λm=>decide (fi.length<σ m)),[]⟩:Fl)∈cD h sh ⟨fi,w.filter (λm=>decide (σ m=fi.length)),[],w.filter λm=>decide (fi.length<σ m)⟩:=by
   unfold cD;dsimp only;rw [if_neg]
   ·simp [Fl.on]
   ·rw [vh]
    rintro ⟨m,hm,e⟩;rw [qX,decide_eq_true_eq] at hm;rw [decide_eq_true_eq,a4A] at e;obtain ⟨d,hd⟩:=F m (h1 m hm.1) _ hm.2;have:=rJ (a:=t.filter (λm=>decide (σ m=fi.length))++[m]) (b:=w.filter (λm=>decide (σ m=fi.length))++[m]) ?_ (λa ha=>?_) d
    ·have:=e d
     omega
    ·refine (zK _ _).nodup_iff.mpr (kA.mpr ⟨λz=>?_,?_⟩)
     ·rw [qX,decide_eq_true_eq] at z;omega
     ·exact ndt.filter _
    ·rcases qg.mp ha with ha | ha
     ·exact jA _ ((hT a).mpr ha)
     ·exact qu _ ha
  obtain ⟨z,pz,ez⟩:=ih (fi++[w.filter λm=>decide (σ m=fi.length)]) (w.filter λm=>decide (fi.length<σ m)) (by simp;omega) (by simp;omega) (nd.filter _) (λm hm=>h1 m (qX.mp hm).1) (λm hm=>by
   rw [qX,decide_eq_true_eq] at hm
   simp;omega) (λm hm hs=>by
   rw [qY,jO] at hs;rw [qX,decide_eq_true_eq]
   exact ⟨h3 m hm (by omega),by omega⟩)
  exact ⟨z,p.trans (.step st pz),ez⟩
end
def b7y {d:Int} (ha:cQ d a=true) (hb:cQ d b=true):ov a b:=by
 have h1:=gK.mp ha;have h2:=gK.mp hb;unfold ov;omega
variable {l:Int}
def b2d {x:Int}:x∈pX sizes ab l↔∃ k:Nat,x=(k:Int)/\k<sizes.length/\l<=sizes.getD k 0/\∀ a,ab=some a->sizes.getD k 0<a:=by
 unfold pX;rw [qO];constructor
 ·rintro ⟨k,hk,rfl⟩
  rw [qX,qL,decide_eq_true_eq,qo] at hk;refine ⟨k,rfl,hk.1,hk.2.1,λa e=>?_⟩;subst e;exact of_decide_eq_true hk.2.2
 ·rintro ⟨k,rfl,h1,h2,h3⟩
  refine ⟨k,?_,rfl⟩;rw [qX,qL,decide_eq_true_eq,qo];refine ⟨h1,h2,?_⟩;cases ab with
  | none=>rfl
  | some a=>exact decide_eq_true (h3 a rfl)
def b1k:(pX sizes ab l).Nodup:=by
 unfold pX;rw [zc,jK];exact (List.nodup_range.filter _).imp λ{a b} n e=>n (Int.ofNat.inj e)
theorem a8h (sizes:T0s):∀ (ls:T0s) (ab:Option Int) (i:Nat),i<ls.length->eM (a4p sizes ab ls) i=(ls.getD i 0,pX sizes (if i=0 then ab else some (ls.getD (i - 1) 0)) (ls.getD i 0))
 | l::ls,ab,0,_=>rfl
 | l::ls,ab,i+1,hi=>by
  have hi:i<ls.length:=by simpa using hi
  show eM (a4p sizes (some l) ls) i=_;rw [a8h sizes ls (some l) i hi];cases i with
  | zero=>rfl
  | succ i=>rfl
def eP (h:Mt->Int) (t:List Mt):List Int:=(ssI (t.map h)).reverse
variable {r:Mt->Nat}
section
variable {h:Mt->Int}
def a4J (hij:i<j) (hj:j<(eP h t).length):(eP h t).getD j 0<(eP h t).getD i 0:=by
 have p:(eP h t).Pairwise λa b=>b<a:=List.pairwise_reverse.mpr (b0Y _);have:=jy.mp p i j (by omega) hj hij;rw [qG,qD hj,qG,qD (show i<(eP h t).length by omega)];exact this
def b2j {m:Mt} (hm:m∈t):∃ j<(eP h t).length,h m=(eP h t).getD j 0:=by
 have:h m∈eP h t:=List.mem_reverse.mpr ((a4D _ _).mpr (qi hm));obtain ⟨j,hj,e⟩:=kI.mp this;exact ⟨j,hj,by rw [qG,qD hj];exact e.symm⟩
def sH:(bX sizes h t).length=(eP h t).length:=a1h _ _ _
def tK (hi:i<(eP h t).length):eM (bX sizes h t) i=((eP h t).getD i 0,pX sizes (if i=0 then none else some ((eP h t).getD (i - 1) 0)) ((eP h t).getD i 0)):=a8h sizes _ none i hi
def b9h (sizes:T0s) (h:Mt->Int) (t:List Mt):ShOk h (bX sizes h t) t:=by
 refine ⟨λi j hij hj=>?_,λm hm=>?_⟩
 ·rw [sH] at hj
  rw [tK hj,tK (show i<(eP h t).length by omega)];exact a4J hij hj
 ·obtain ⟨j,hj,e⟩:=b2j (h:=h) hm
  exact ⟨j,by rw [sH];exact hj,by rw [tK hj];exact e⟩
structure Fits (s:List Mt) (sizes:T0s) (h:Mt->Int) (r:Mt->Nat):Prop where
 lt:∀ m∈s,r m<sizes.length
 big:∀ m∈s,h m<=sizes.getD (r m) 0
 ne:∀ m∈s,∀ m'∈s,m≠m'->ov m m'->r m≠r m'
theorem Fits.sub (F:Fits s sizes h r) (hs:∀ m∈t,m∈s):Fits t sizes h r:=
 ⟨λm hm=>F.lt m (hs m hm),λm hm=>F.big m (hs m hm),λm hm m' hm'=>F.ne m (hs m hm) m' (hs m' hm')⟩
def mO (h:Mt->Int) (t:List Mt) (z:Int):Nat:=(eP h t).findIdx λl=>decide (l<=z)
theorem Fits.asg (nd:t.Nodup) (F:Fits t sizes h r):Asg h (bX sizes h t) t (λm=>mO h t (sizes.getD (r m) 0)):=by
 have lt:∀ m∈t,mO h t (sizes.getD (r m) 0)<(eP h t).length:=λm hm=>by
  refine List.findIdx_lt_length_of_exists ⟨h m,List.mem_reverse.mpr ((a4D _ _).mpr (qi hm)),?_⟩;exact decide_eq_true (F.big m hm)
 have at':∀ m∈t,(eP h t).getD (mO h t (sizes.getD (r m) 0)) 0<=sizes.getD (r m) 0:=λm hm=>by
  have:=List.findIdx_getElem (xs:=eP h t) (p:=λl=>decide (l<=sizes.getD (r m) 0)) (w:=lt m hm);rw [qG,qD (lt m hm)];exact of_decide_eq_true this
 have bef:∀ m∈t,∀ j<mO h t (sizes.getD (r m) 0),sizes.getD (r m) 0<(eP h t).getD j 0:=λm hm j hj=>by
  have:=List.not_of_lt_findIdx (xs:=eP h t) (p:=λl=>decide (l<=sizes.getD (r m) 0)) hj;have hl:=lt m hm;have e:(eP h t).getD j 0=(eP h t)[j]:=by rw [qG,qD (show j<(eP h t).length by omega)];rfl
  rw [e];exact Int.not_le.mp (of_decide_eq_false this)
 refine ⟨λm hm=>by rw [sH];exact lt m hm,λm hm=>?_,λi hi d=>?_⟩
 ·rw [tK (lt m hm)]
  obtain ⟨j,hj,e⟩:=b2j (h:=h) hm;have:mO h t (sizes.getD (r m) 0)<=j:=by
   rcases wY j (mO h t (sizes.getD (r m) 0)) with q | q
   ·have:=bef m hm j q
    have:=F.big m hm;omega
   ·exact q
  rw [e];show (eP h t).getD j 0<=(eP h t).getD _ 0;rcases vE this with q | q
  ·exact zF (a4J q hj)
  ·rw [q];exact jd _
 ·rw [sH] at hi
  rw [tK hi];have nA:((t.filter λm=>decide (mO h t (sizes.getD (r m) 0)=i)).filter (cQ d)).Nodup:=(nd.filter _).filter _;have:=gZ (l:=((t.filter λm=>decide (mO h t (sizes.getD (r m) 0)=i)).filter (cQ d)).map λm=>(r m:Int)) (m:=pX sizes (if i=0 then none else some ((eP h t).getD (i - 1) 0)) ((eP h t).getD i 0)) ?_ (λx hx=>?_)
  ·rw [qF] at this
   unfold bB fI;rw [qF];exact Int.ofNat_le.mpr this
  ·rw [zc,jK]
   refine List.Pairwise.imp_of_mem (λ{a b} ha hb n e=>?_) nA;rw [qX,qX] at ha hb;exact F.ne a ha.1.1 b hb.1.1 n (b7y ha.2 hb.2) (Int.ofNat.inj e)
  ·obtain ⟨m,hm,rfl⟩:=qO.mp hx
   rw [qX,qX,decide_eq_true_eq] at hm;obtain ⟨⟨hmt,he⟩,_⟩:=hm;refine b2d.mpr ⟨r m,rfl,F.lt m hmt,?_,λa e=>?_⟩
   ·have:=at' m hmt;rw [he] at this;exact this
   ·by_cases c:i=0
    ·rw [if_pos c] at e;cases e
    ·rw [if_neg c] at e
     cases e;exact bef m hmt (i - 1) (by omega)
structure Pl (t:List Mt) (sizes:T0s) (h:Mt->Int) (kvs:List (Key×j0)):Prop where
 keys:(kvs.map (·.1)).Perm (t.map λm=>.inr m.1)
 has:∀ m∈t,∃ k:Nat,(.inr m.1,.int (k:Nat))∈kvs/\k<sizes.length/\h m<=sizes.getD k 0
 ne:∀ m∈t,∀ m'∈t,m≠m'->ov m m'->∀ k k':Nat,(.inr m.1,.int (k:Nat))∈kvs->(.inr m'.1,.int (k':Nat))∈kvs->k≠k'
theorem mkL:∀ (sh:List Sf) (fi:List (List Mt)),fi.length=sh.length->(∀ i A,fi[i]?=some A->∃ P,LayOf A P/\ShP (eM sh i) A P)->∃ l:List (Sf×List Mt×List Ly),l.map (·.1)=sh/\l.map (·.2.1)=fi/\∀ q∈l,LayOf q.2.1 q.2.2/\ShP q.1 q.2.1 q.2.2
 | [],[],_,_=>⟨[],rfl,rfl,λq hq=>nomatch hq⟩
 | [],_::_,e,_=>by simp at e
 | _::_,[],e,_=>by simp at e
 | f::sh,A::fi,e,hP=>by
  obtain ⟨P,hP1,hP2⟩:=hP 0 A rfl;obtain ⟨l,h1,h2,h3⟩:=mkL sh fi (by simpa using e) λi B hB=>hP (i+1) B hB;refine ⟨(f,A,P)::l,by rw [qK,h1],by rw [qK,h2],λq hq=>?_⟩;rcases qI.mp hq with rfl | hq
  ·exact ⟨hP1,hP2⟩
  ·exact h3 q hq
def a1z {l:List (Sf×List Ly)} {x:Key}:(x,d)∈iT l↔∃ q∈l,∃ p∈q.2,x=.inr p.1.1/\d=.int (q.1.2.getD p.2 0):=by
 unfold iT;rw [kG];constructor
 ·rintro ⟨q,hq,hx⟩
  obtain ⟨p,hp,e⟩:=qO.mp hx;injection e with e1 e2;exact ⟨q,hq,p,hp,e1.symm,e2.symm⟩
 ·rintro ⟨q,hq,p,hp,rfl,rfl⟩
  exact ⟨q,hq,qO.mpr ⟨p,hp,rfl⟩⟩
end
structure TOk (D:j0) (h:Mt->Int) (t:List Mt):Prop where
 nd:(t.map (·.1)).Nodup
 nm:∀ m∈t,jc m.1=true
 pos:∀ m∈t,m.2.1<m.2.2
 len:t.length<=5
 hd:pS D h t
 few:∀ m∈t,h m∈[1,2,3,4]
section
variable {h:Mt->Int}
def a8u (nd:(t.map (·.1)).Nodup):t.Nodup:=by
 rw [zc,jK] at nd;exact nd.imp λ{a b} n e=>n (by rw [e])
theorem TOk.sub (T:TOk D h s) {c:Mt->Bool}:TOk D h (s.filter c):=by
 have hm:∀ m∈s.filter c,m∈s:=λm hm=>(qX.mp hm).1;exact ⟨kD (List.filter_sublist.map _) T.nd,λm q=>T.nm m (hm m q),λm q=>T.pos m (hm m q),qk (zm _ _) T.len,λm q=>T.hd m (hm m q),λm q=>T.few m (hm m q)⟩
def TOk.shelves (T:TOk D h t):(bX sizes h t).length<=4:=by
 rw [sH];unfold eP;rw [wI];refine gZ (m:=[1,2,3,4]) ((b0Y _).imp λ{a b} z=>by omega) λx hx=>?_;obtain ⟨m,hm,rfl⟩:=qO.mp ((a4D _ _).mp hx);exact T.few m hm
def b3T:∀ r<5,∀ k<6,wgt r k 0<20000:=by decide +kernel
theorem TOk.ends (T:TOk D h t):∃ r,uJ h (bX sizes h t) 20000 [] [⟨[],[],byH h t,[]⟩]=some r:=by
 refine a2Q 20000 [] _ (λx hx=>by rw [qH.mp hx];exact qt _) ?_;have e:wx (bX sizes h t) ⟨[],[],byH h t,[]⟩=wgt (bX sizes h t).length t.length 0:=by
  unfold wx;dsimp only;rw [(xH h t).length_eq];rfl
 rw [qK,zj,kT,wZ,e];have h1:=T.shelves (sizes:=sizes);have h2:=T.len;have:=b3T _ (show (bX sizes h t).length<5 by omega) _ (show t.length<6 by omega);omega
def TOk.place (T:TOk D h t) (F:Fits t sizes h r):lE h sizes t≠some none:=by
 have nt:=a8u T.nd;have S:=b9h sizes h t;have A:=F.asg nt;unfold lE;have m:eI h t ((0:Nat):Int) ((bX sizes h t).drop 0)=true:=b2e S A nt (λm hm=>hm) (lo:=0) (λ_ _=>qt _) _ 0 [] 0 rfl (qt _) (λa _ _ z=>by omega) (λd=>jd _);rw [List.drop_zero] at m;rw [if_pos (show eI h t 0 (bX sizes h t)=true from m)];obtain ⟨σ,A',Fu⟩:=Asg.full S nt _ _ A (qM _);intro e;have hp:=xH h t;obtain ⟨z,p,ez⟩:=b1M S nt A' Fu _ [] (byH h t) rfl (qt _) (hp.nodup_iff.mpr nt) (λm hm=>hp.mem_iff.mp hm) (λ_ _=>qt _) (λm hm _=>hp.mem_iff.mpr hm);exact b4T e p ez
def room_in (hf:f.2=pX sizes ab l) {p:Nat} (hp:p<f.2.length):∃ k:Nat,f.2.getD p 0=(k:Int)/\k<sizes.length/\l<=sizes.getD k 0/\∀ a,ab=some a->sizes.getD k 0<a:=by
 have:f.2.getD p 0∈f.2:=by rw [qG,qD hp];exact jZ hp
 rw [hf] at this;rw [<-hf] at this;rw [hf] at this;obtain ⟨k,e,h1⟩:=b2d.mp this;exact ⟨k,by rw [<-e,hf],h1⟩
def b9z (T:TOk D h t) {l:List (Sf×List Mt×List Ly)} (h1:l.map (·.1)=bX sizes h t) (h3:∀ q∈l,LayOf q.2.1 q.2.2/\ShP q.1 q.2.1 q.2.2) (hp:(l.map (·.2.1)).flatten.Perm t) (hf:∀ (i:Nat) (q:Sf×List Mt×List Ly),l[i]?=some q->∀ m∈q.2.1,h m<=q.1.1):Pl t sizes h (iT (l.map λq=>(q.1,q.2.2))):=by
 have at':∀ (i:Nat) q,l[i]?=some q->i<(eP h t).length/\q.1=eM (bX sizes h t) i:=λi q hq=>by
  have e:(bX sizes h t)[i]?=some q.1:=by rw [<-h1,qQ,hq];rfl
  obtain ⟨hi,ei⟩:=qR.mp e;refine ⟨by rw [<-sH (sizes:=sizes)];exact hi,?_⟩;unfold eM;rw [qG,e];rfl
 have inT:∀ q∈l,∀ m∈q.2.1,m∈t:=λq hq m hm=>hp.mem_iff.mp (zp.mpr ⟨_,qi hq,hm⟩);have inP:∀ q∈l,∀ m,m∈q.2.1↔∃ p∈q.2.2,p.1=m:=λq hq m=>by
  rw [<-(h3 q hq).1.perm.mem_iff,qO]
 refine ⟨?_,λm hm=>?_,λm hm m' hm' hn ho k k' hk hk'=>?_⟩
 ·refine vt ?_ (hp.map λm=>(zY m.1:Key))
  clear inP inT at' hf hp h1
  induction l with
  | nil=>exact .refl _
  | cons q l ih=>
   have e1:(iT ((q::l).map λq=>(q.1,q.2.2))).map (·.1)=q.2.2.map (λp=>(zY p.1.1:Key))++(iT (l.map λq=>(q.1,q.2.2))).map (·.1):=by
    show (_++iT (l.map λq=>(q.1,q.2.2))).map (·.1)=_;rw [qZ,qT];rfl
   rw [e1,qK,wT,qZ];refine List.Perm.append ?_ (ih λa ha=>h3 a (qE _ ha));have:=(h3 q (by simp)).1.perm.map λm=>(zY m.1:Key)
   rwa [qT] at this
 ·obtain ⟨A,hA,hmA⟩:=zp.mp (hp.mem_iff.mpr hm)
  obtain ⟨q,hq,rfl⟩:=qO.mp hA;obtain ⟨p,hpP,rfl⟩:=(inP q hq m).mp hmA;obtain ⟨i,hi⟩:=zM hq;obtain ⟨hil,eq⟩:=at' i q hi;obtain ⟨k,e1,k1,k2,_⟩:=room_in (sizes:=sizes) (f:=q.1) (by rw [eq,tK hil]) ((h3 q hq).2.low p hpP);refine ⟨k,a1z.mpr ⟨(q.1,q.2.2),qO.mpr ⟨q,hq,rfl⟩,p,hpP,rfl,by rw [e1]⟩,k1,km (hf i q hi _ hmA) ?_⟩;rw [eq,tK hil];exact k2
 ·obtain ⟨_,hq0,p,hpP,e1,e2⟩:=a1z.mp hk
  obtain ⟨_,hq0',p',hpP',e1',e2'⟩:=a1z.mp hk';obtain ⟨q,hq,rfl⟩:=qO.mp hq0;obtain ⟨q',hq',rfl⟩:=qO.mp hq0';have pm:p.1=m:=lW T.nd (inT q hq _ ((inP q hq _).mpr ⟨p,hpP,rfl⟩)) hm (zw e1).symm;have pm':p'.1=m':=lW T.nd (inT q' hq' _ ((inP q' hq' _).mpr ⟨p',hpP',rfl⟩)) hm' (zw e1').symm;injection e2 with e2;injection e2' with e2';obtain ⟨i,hi⟩:=zM hq;obtain ⟨j,hj⟩:=zM hq';obtain ⟨hil,eq⟩:=at' i q hi;obtain ⟨hjl,eq'⟩:=at' j q' hj;have lw:=(h3 q hq).2.low p hpP;have lw':=(h3 q' hq').2.low p' hpP';obtain ⟨a,ea,_,a2,a3⟩:=room_in (sizes:=sizes) (f:=q.1) (by rw [eq,tK hil]) lw;obtain ⟨b,eb,_,b2,b3⟩:=room_in (sizes:=sizes) (f:=q'.1) (by rw [eq',tK hjl]) lw';dsimp only at e2 e2';have ka:k=a:=by omega
  have kb:k'=b:=by omega
  rw [ka,kb];rcases vS i j with z | z | z
  ·intro eab
   subst eab;have:=b3 ((eP h t).getD (j - 1) 0) (by rw [if_neg (by omega)]);have:(eP h t).getD (j - 1) 0<=(eP h t).getD i 0:=by
    rcases vE (show i<=j - 1 by omega) with y | y
    ·exact zF (a4J y (by omega))
    ·rw [y];exact jd _
   omega
  ·subst z
   rw [hi] at hj;injection hj with hj;subst hj;have nA:(q.2.1.map (·.1)).Nodup:=by
    refine kD ((zA (qi (f:=λq:Sf×List Mt×List Ly=>q.2.1) hq)).map _) ((hp.map (·.1)).nodup_iff.mpr T.nd)
   have La:Laid q.2.1 q.2.2:=⟨(h3 q hq).1,λm hm=>T.pos m (inT q hq m hm),nA⟩;have hmq:m∈q.2.1:=(inP q hq m).mpr ⟨p,hpP,pm⟩;have hmq':m'∈q.2.1:=(inP q hq m').mpr ⟨p',hpP',pm'⟩;have ne:=La.col_ne hmq hmq' hn ho;have c1:cl q.2.2 m=(p.2:Nat):=by rw [<-pm];exact congrArg Int.ofNat (La.of hpP).2.symm
   have c2:cl q.2.2 m'=(p'.2:Nat):=by rw [<-pm'];exact congrArg Int.ofNat (La.of hpP').2.symm
   intro eab;rw [c1,c2] at ne;have nR:q.1.2.Nodup:=by rw [eq,tK hil];exact b1k
   have e5:q.1.2[p.2]=q.1.2[p'.2]:=by
    have u:q.1.2.getD p.2 0=q.1.2[p.2]:=by rw [qG,qD lw];rfl
    have v:q.1.2.getD p'.2 0=q.1.2[p'.2]:=by rw [qG,qD lw'];rfl
    rw [<-u,<-v,ea,eb,eab]
   have:=(vg (h₀:=lw) (h₁:=lw') nR).mp e5;exact ne (by rw [this])
  ·intro eab
   subst eab;have:=a3 ((eP h t).getD (i - 1) 0) (by rw [if_neg (by omega)]);have:(eP h t).getD (i - 1) 0<=(eP h t).getD j 0:=by
    rcases vE (show j<=i - 1 by omega) with y | y
    ·exact zF (a4J y (by omega))
    ·rw [y];exact jd _
   omega
def a9Y (T:TOk D h t) (hz:sizes.length<=1000):∃ res:Option (List (Key×j0)),cK w [dS t,dZ sizes,D]=some (.ok (plD res))/\(res=none->∀ r,¬Fits t sizes h r)/\∀ kvs,res=some kvs->Pl t sizes h kvs:=by
 have tl:=T.len;have:∃ r,lE h sizes t=some r:=by
  unfold lE;split
  ·exact T.ends
  ·exact ⟨none,rfl⟩
 obtain ⟨r,e⟩:=this;cases r with
 | none=>exact ⟨none,a4U T.hd T.nd T.nm (by omega) hz e,λ_ r F=>T.place F e,(λkvs z=>nomatch z)⟩
 | some fi=>
  have S:=b9h sizes h t;have es:uJ h (bX sizes h t) 20000 [] [⟨[],[],byH h t,[]⟩]=some (some fi):=by
   unfold lE at e;split at e
   ·exact e
   ·cases e
  obtain ⟨x,v,rfl,xl⟩:=a1a (V:=Vd h (bX sizes h t) t) (λx v hn y hy=>v.step S hn hy) 20000 [] _ (λx hx=>by rw [qH.mp hx];exact Vd.start S (xH h t)) es;obtain ⟨f1,f2,f3⟩:=v.fin xl;have vp:=v.perm;rw [f1,f2,f3,jt,jt,jt] at vp;have sub:∀ A∈x.fi,A.Sublist x.fi.flatten:=λA hA=>zA hA;obtain ⟨l,h1,h2,h3⟩:=mkL (bX sizes h t) x.fi xl λi A hA=>by
   have hm:=List.mem_of_getElem? hA;exact ShP.of (kD ((sub A hm).map _) ((vp.map (·.1)).nodup_iff.mpr T.nd)) (by have:=(sub A hm).length_le;have:=vp.length_eq;omega) (λm hmA=>T.pos m (vp.mem_iff.mp ((sub A hm).mem hmA))) (v.fit i A hA).1
  have P:=b9z T h1 h3 (by rw [h2];exact vp) (λi q hq m hm=>by
   have e1:x.fi[i]?=some q.2.1:=by rw [<-h2,qQ,hq];rfl
   have e2:(bX sizes h t)[i]?=some q.1:=by rw [<-h1,qQ,hq];rfl
   have:=(v.fit i _ e1).2 m hm;have e3:eM (bX sizes h t) i=q.1:=by unfold eM;rw [qG,e2];rfl
   rwa [e3] at this)
  have ek:(iT (l.map λq=>(q.1,q.2.2))).map (·.1)=l.flatMap λq=>nmP q.2.2:=by
   unfold iT;rw [wo,List.flatMap_map];congr 1
   funext q
   rw [qT];rfl
  have nk:(l.flatMap λq=>nmP q.2.2).Nodup:=by
   rw [<-ek,P.keys.nodup_iff];have:=T.nd;rw [zc,jK] at this ⊢;exact this.imp λ{a b} n z=>n (zw z)
  refine ⟨some (iT (l.map λq=>(q.1,q.2.2))),?_,(λz=>nomatch z),λkvs z=>by cases z;exact P⟩;refine a4T T.hd T.nd T.nm (by omega) hz (by rw [h2];exact e) h1 (λq hq=>(h3 q hq).2) nk ?_;rw [<-ek,P.keys.length_eq,qF];omega
end
theorem a1V {α β:Type} {f g:α->List β}:∀ {l:List α},(l.flatMap g).Nodup->(∀ a∈l,(f a).Nodup/\∀ x∈f a,x∈g a)->(l.flatMap f).Nodup
 | [],_,_=>.nil
 | a::l,nd,h=>by
  rw [kP,kO] at nd ⊢;refine ⟨(h a (by simp)).1,a1V nd.2.1 λb hb=>h b (qE _ hb),λx hx y hy=>?_⟩;obtain ⟨b,hb,hy⟩:=kG.mp hy;exact nd.2.2 x ((h a (by simp)).2 x hx) y (kG.mpr ⟨b,hb,(h b (qE _ hb)).2 y hy⟩)
theorem a3I {α β:Type} {f g:α->List β}:∀ {l:List α},(∀ a∈l,(f a).Perm (g a))->(l.flatMap f).Perm (l.flatMap g)
 | [],_=>.refl _
 | a::l,h=>by
  rw [kP,kP];exact (h a (by simp)).append (a3I λb hb=>h b (qE _ hb))
variable {A:List Mt}
section
variable {h:Mt->Int}
def part_mem (nd:(s.map (·.1)).Nodup) (hA:A∈bL (cI s)) {m:Mt}:m∈pZ s A↔m∈A:=by
 unfold pZ;rw [qX,decide_eq_true_eq,(oJ _).mem_iff];constructor
 ·rintro ⟨hm,hn⟩
  obtain ⟨a,ha,e⟩:=qO.mp hn;rw [<-lW nd (a1A hA ha) hm e];exact ha
 ·exact λhm=>⟨a1A hA hm,qi hm⟩
abbrev kM (m:Mt):Key:=.inr m.1
def a1T:(bL (cI s)).flatMap (λA=>A.map kM)=(cI s).map kM:=by
 rw [<-wo,List.flatMap_id',hV]
def a3c (nd:(s.map (·.1)).Nodup) (hA:A∈bL (cI s)):(pZ s A).Perm A:=by
 have ns:=a8u nd;have nA:A.Nodup:=kD (zA hA) (by rw [hV];exact (dJ s).nodup_iff.mpr ns);exact (List.perm_ext_iff_of_nodup (ns.filter _) nA).mpr λm=>part_mem nd hA
def a0N (nd:(t.map (·.1)).Nodup):(t.map kM).Nodup:=by
 rw [zc,jK] at nd ⊢;exact nd.imp λ{a b} n z=>n (zw z)
def a8M (T:TOk D h s) (hz:sizes.length<=1000):∃ res:Option (List (Key×j0)),cC w [dS s,dZ sizes,D]=some (.ok (plD res))/\(res=none->∀ r,¬Fits s sizes h r)/\∀ kvs,res=some kvs->Pl s sizes h kvs:=by
 have sl:=T.len;have G:∀ A:List Mt,∃ res:Option (List (Key×j0)),cK w [dS (pZ s A),dZ sizes,D]=some (.ok (plD res))/\(res=none->∀ r,¬Fits (pZ s A) sizes h r)/\∀ kvs,res=some kvs->Pl (pZ s A) sizes h kvs:=λA=>a9Y T.sub hz;obtain ⟨pl,hpl⟩:=Classical.axiomOfChoice G;have kn:((bL (cI s)).flatMap λA=>A.map kM).Nodup:=by
  rw [a1T];exact ((dJ s).map kM).nodup_iff.mpr (a0N T.nd)
 have sub:∀ A∈bL (cI s),(((pl A).getD []).map (·.1)).Nodup/\∀ x∈((pl A).getD []).map (·.1),x∈A.map kM:=λA hA=>by
  cases c:pl A with
  | none=>exact ⟨.nil,λx hx=>nomatch hx⟩
  | some kvs=>
   have P:=(hpl A).2.2 kvs c;exact ⟨P.keys.nodup_iff.mpr (a0N (T.sub (c:=_)).nd),λx hx=>((a3c T.nd hA).map kM).mem_iff.mp (P.keys.mem_iff.mp hx)⟩
 have nk:=a1V kn sub;have ln:((bL (cI s)).flatMap λA=>((pl A).getD []).map (·.1)).length<=1000:=by
  have:=gZ nk λx hx=>by
   obtain ⟨A,hA,hx⟩:=kG.mp hx;exact kG.mpr ⟨A,hA,(sub A hA).2 x hx⟩
  rw [a1T,qF,(dJ s).length_eq] at this;omega
 obtain ⟨h1,h2⟩:=b0h (w:=w) (sizes:=sizes) (D:=D) T.nd (by omega) pl (λA hA=>(hpl A).1) nk ln;by_cases c:∃ A∈bL (cI s),pl A=none
 ·refine ⟨none,h1 c,λ_ r F=>?_,(λkvs z=>nomatch z)⟩
  obtain ⟨A,hA,e⟩:=c;exact (hpl A).2.1 e r (F.sub λm hm=>(qX.mp hm).1)
 ·have al:∀ A∈bL (cI s),∃ kvs,pl A=some kvs:=λA hA=>by
   cases e:pl A with
   | none=>exact absurd ⟨A,hA,e⟩ c
   | some kvs=>exact ⟨kvs,rfl⟩
  have PA:∀ A∈bL (cI s),Pl (pZ s A) sizes h ((pl A).getD []):=λA hA=>by
   obtain ⟨kvs,e⟩:=al A hA;rw [e];exact (hpl A).2.2 kvs e
  refine ⟨some ((bL (cI s)).flatMap λA=>(pl A).getD []),h2 (λA hA e=>c ⟨A,hA,e⟩),(λz=>nomatch z),λkvs z=>?_⟩;cases z;refine ⟨?_,λm hm=>?_,λm hm m' hm' hn ho k k' hk hk'=>?_⟩
  ·rw [wo]
   refine (a3I (g:=λA=>A.map kM) λA hA=>(PA A hA).keys.trans ((a3c T.nd hA).map kM)).trans ?_;rw [a1T];exact (dJ s).map kM
  ·obtain ⟨g1,g2⟩:=b2I hm
   obtain ⟨k,e,r⟩:=(PA _ g1).has m ((part_mem T.nd g1).mpr g2);exact ⟨k,kG.mpr ⟨_,g1,e⟩,r⟩
  ·obtain ⟨A,hA,eA⟩:=kG.mp hk
   obtain ⟨B,hB,eB⟩:=kG.mp hk';have inn:∀ C∈bL (cI s),∀ a∈s,∀ d,(.inr a.1,d)∈(pl C).getD []->a∈pZ s C:=λC hC a ha d q=>by
    have:=(PA C hC).keys.mem_iff.mp (qi (f:=(·.1)) q);obtain ⟨b,hb,e⟩:=qO.mp this;rw [<-lW T.nd (qX.mp hb).1 ha (zw e)];exact hb
   have a1:=inn A hA m hm _ eA;have b1:=inn B hB m' hm' _ eB;have e:=b8n hA hB ((part_mem T.nd hA).mp a1) ((part_mem T.nd hB).mp b1) ho;subst e;exact (PA A hA).ne m a1 m' b1 hn ho k k' eA eB
theorem a7C {x:Str} {d:j0}:∀ {kvs:List (Key×j0)},(kvs.map (·.1)).Nodup->(.inr x,d)∈kvs->uU (dD kvs) (.str x)=some d
 | [],_,hm=>nomatch hm
 | (k,v)::r,nd,hm=>by
  rw [qK,kA] at nd;show (if oC (dX k)=some (zY x) then some v else uU (dD r) (.str x))=_;rw [fV];rcases qI.mp hm with e | hm
  ·injection e with e1 e2
   rw [if_pos (by rw [e1]),e2]
  ·rw [if_neg,a7C nd.2 hm]
   intro e;injection e with e;exact nd.1 (by rw [e];exact qi (f:=(·.1)) hm)
end
def b2R:SF:=(retS (a4Y ltD (cJ a7r (aC (op2 ixD (var 0) (cst (.int 1))) (aC (op2 ixD (var 1) (cst (.int 1))) aK))) (cJ b2c (aC (op2 ixD (var 0) (cst (.int 2))) (aC (op2 ixD (var 1) (cst (.int 2))) aK)))))
def a2o:List j0->Mm j0:=bZ 2 2 b2R
abbrev a2M:TF:=iC ltD (op2 ixD (var 1) (op2 ixD (var 3) (var 4))) (op2 uU (var 2) (op2 ixD (var 5) (cst (.int 0))))
abbrev a3B:EF:=eD (.nm 0) [none,some 4,some 5,some 3,some 0] (a1n (var 4)) (a6z (iC eqD (op2 ixD (var 3) (var 0)) (op2 ixD (var 3) (var 1))) (tV (aX a2o (aC (op2 ixD (var 4) (var 0)) (aC (var 2) aK))))) (var 0)
abbrev a2L:TF:=iC neD a3B (pR aK)
abbrev eF:SF:=aQ (ifS a2M (retS (cst (.bool false))) iU) (ifS a2L (retS (cst (.bool false))) iU)
def a1Z:SF:=(aQ (nZ (.tp [4,5]) (a3J (var 0)) eF) (retS (cst (.bool true))))
def a2p:List j0->Mm j0:=bZ 6 4 a1Z
abbrev a3A:EF:=eD (.nm 0) [none,some 0] (a1n (aX dC (aC (var 0) (aC (cst (.int 99)) (aC (cst (.int 4)) aK))))) ttT (op2 cR (cst (.int 1)) (aX dC (aC (var 1) (aC (op2 cR (cst (.int 100)) (var 0)) (aC (cst (.int 4)) aK)))))
abbrev yL:EF:=eD (.tp [0,1]) [none,none,some 0] (a3J (var 1)) ttT (mI (aC (op2 ixD (var 1) (cst (.int 0))) (aC (op2 cR (cst (.int 1)) (aX dC (aC (var 2) (aC (op2 cR (cst (.int 110)) (var 0)) (aC (cst (.int 4)) aK))))) aK)))
abbrev sS:EF:=eD (.nm 0) [none,some 7] (a1n (cJ iQ (aC (var 2) aK))) ttT (op2 cR (var 1) (pR (aC (var 0) aK)))
abbrev a0h:SF:=b2S 6 sS
abbrev a0f:SF:=aQ (a2y 6 aK) (aQ (nZ (.nm 7) (gC (var 4)) a0h) (a2D 6 (eZ 4 (var 6))))
abbrev a3z:EF:=eD (.nm 0) [none,some 3,some 1,some 2] (gC (var 4)) (tV (aX a2p (aC (var 2) (aC (var 3) (aC (var 1) (aC (var 0) aK)))))) (var 0)
abbrev xT:TF:=iC neD (isE false (.none) (var 9)) (a4Y eqD (var 8) (pR aK))
abbrev xS:TF:=isT false (.none) (var 9)
abbrev a3y:EF:=eD (.nm 0) [none] (gC (var 1)) ttT (op2 ixD (var 0) (cst (.int 0)))
abbrev a3x:EF:=eD (.nm 0) [none,some 9] (gC (var 1)) ttT (op2 uU (var 1) (op2 ixD (var 0) (cst (.int 0))))
abbrev a2K:TF:=orT (iC neD (cJ a4i (aC (cJ lstK (aC (var 9) aK)) aK)) a3y) (iC b4V a3x (var 8))
noncomputable abbrev a2J (w:World):TF:=isT false (.none) (aX (cC w) (aC (var 1) (aC (op2 cR (var 2) (pR (aC (cst (.int 1)) aK))) (aC (var 3) aK))))
abbrev a3w:EF:=eD (.nm 0) [none] (gC (var 2)) ttT (op2 cR (var 0) (cst (.int 1)))
noncomputable def a1Y (w:World):SF:=(aQ (eZ 1 (aX tG (aC (var 0) (aC (cst (.int 0)) (aC (cst (.int 5)) aK))))) (aQ (eZ 2 a3A) (aQ (eZ 3 (cJ mV (aC yL aK))) (aQ (eZ 4 (pR (aC (pR aK) aK))) (aQ (nZ (.nm 5) (gC (var 1)) a0f) (aQ (eZ 8 a3z) (aQ (eZ 9 (aX (cC w) (aC (var 1) (aC (var 2) (aC (var 3) aK))))) (aQ (ifS xT (retS (cst (.bool false))) iU) (aQ (ifS xS (retS (cst (.bool true))) iU) (aQ (ifS a2K (retS (cst (.bool false))) iU) (aQ (ifS (a2J w) (retS (cst (.bool false))) iU) (retS (isE true (.none) (aX (cC w) (aC (var 1) (aC a3w (aC (var 3) aK)))))))))))))))))
noncomputable def xN (w:World):List j0->Mm j0:=bZ 10 1 (a1Y w)
abbrev b2t:EF:=eD (.nm 0) [none,some 1] (gC (var 0)) ttT (op2 cR (var 0) (op2 nW (cst (.int 7919)) (var 1)))
noncomputable abbrev b0V (w:World):TF:=b4S (tV (aX (xN w) (aC b2t aK)))
abbrev b0U:TF:=iC eqD (var 0) (pR aK)
noncomputable abbrev a0g (w:World):SF:=aQ (ifS (b0V w) (retS (cst (.bool false))) iU) (ifS b0U c0l iU)
noncomputable def b2Q (w:World):SF:=(aQ (nZ (.nm 1) (a1n (cst (.int 3))) (a0g w)) (retS (cst (.bool true))))
noncomputable def F_law (w:World):List j0->Mm j0:=bZ 2 1 (b2Q w)
theorem a6y {α β:Type} (c:α->Bool) (f:α->β):∀ l:List α,(!((l.filter c).map f).isEmpty)=l.any c
 | []=>rfl
 | a::l=>by
  rw [jz];cases e:c a with
  | true=>rw [qr e];rfl
  | false=>rw [jF (by rw [e];decide),a6y c f l];rfl
abbrev iL (p:T0t):List Int:=p.map λ(k:Nat)=>(k:Int)
abbrev dPl (p:T0t):j0:=.list ((iL p).map .int)
def df0:Mt:=("", 0,0)
def b8s (a b:Mt):a2o [dM a,dM b]=some (.ok (.bool (decide (ov a b)))):=a3L a b
def a8Q (s:List Mt):lX (s.map dM)=(qV s.length).map λ(k:Nat)=>.tuple [.int (k:Int),dM (s.getD k df0)]:=by
 unfold lX;rw [qF];refine zQ λk hk=>?_;have hk:=qo.mp hk;rw [qG,qQ,qD hk,qG,qD hk];rfl
variable {p:List Nat}
def b3M (hk:k<p.length):ixD (dPl p) (.int (k:Nat))=some (.int (p.getD k 0:Nat)):=by
 rw [sU (by omega) (by rw [qF];omega)];show some (jg ((iL p).getD ((k:Int).toNat) 0))=_;rw [qz,qG,qQ,qD hk,qG,qD hk];rfl
def c0o (hk:k<s.length):ixD (dS s) (.int (k:Nat))=some (dM (s.getD k df0)):=by
 show atI (s.map dM) (k:Nat)=_;rw [xJ dM (by omega) (by omega) df0];rfl
def rN (s:List Mt) (sizes:T0s) (h:Mt->Int) (p:T0t) (k:Nat):Bool:=!decide (sizes.getD (p.getD k 0) 0<h (s.getD k df0))&&!(qV k).any λj=>decide (p.getD j 0=p.getD k 0)&&decide (ov (s.getD j df0) (s.getD k df0))
def iR (s:List Mt) (sizes:T0s) (h:Mt->Int) (p:T0t):Bool:=(qV s.length).all (rN s sizes h p)
section
variable {h:Mt->Int}
def getD_mem (hk:k<s.length):s.getD k df0∈s:=by rw [qG,qD hk];exact jZ hk
def b8P (hd:pS D h s) (hl:p.length=s.length) (hr:∀ r∈p,r<sizes.length) (hz:s.length<=1000) (hk:k<s.length):eF [.val (dS s),.val (dZ sizes),.val D,.val (dPl p),.val (.int (k:Nat)),.val (dM (s.getD k df0))] =
  if rN s sizes h p k=true then some (.nx [.val (dS s),.val (dZ sizes),.val D,.val (dPl p),.val (.int (k:Nat)),.val (dM (s.getD k df0))]) else some (.rt (.bool false)):=by
 have pk:p.getD k 0<sizes.length:=hr _ (by rw [qG,qD (show k<p.length by omega)];exact jZ _);have t1:a2M [.val (dS s),.val (dZ sizes),.val D,.val (dPl p),.val (.int (k:Nat)),.val (dM (s.getD k df0))]=some (.ok (decide (sizes.getD (p.getD k 0) 0<h (s.getD k df0)))):=
  iK (bV (x:=dZ sizes) rfl (bV (x:=dPl p) (y:=.int (k:Nat)) rfl rfl (b3M (by omega))) (by rw [sU (by omega) (by omega)];rfl)) (bV (x:=D) (y:=.str (s.getD k df0).1) rfl rfl (hd _ (getD_mem hk))) b9L
 have k1:a3B [.val (dS s),.val (dZ sizes),.val D,.val (dPl p),.val (.int (k:Nat)),.val (dM (s.getD k df0))]=some (.ok (.list (((qV k).filter λj=>decide (p.getD j 0=p.getD k 0)&&decide (ov (s.getD j df0) (s.getD k df0))).map λ(j:Nat)=>.int (j:Int)))):=by
  refine eX (λ(j:Nat)=>.int (j:Int)) (λj=>[.val (.int (j:Int)),.val (.int (k:Nat)),.val (dM (s.getD k df0)),.val (dPl p),.val (dS s)]) (λj=>decide (p.getD j 0=p.getD k 0)&&decide (ov (s.getD j df0) (s.getD k df0))) (λ(j:Nat)=>.int (j:Int)) (qV k) ?_ (by rw [qx];omega) (λ_ _=>rfl) (λj hj=>?_) (λ_ _ _=>rfl)
  ·rw [uN (n:=(k:Nat)) rfl (by omega) (by omega),qz]
   simp [pY]
  ·have hj:=qo.mp hj
   rw [a5i,iK (bV (x:=dPl p) (y:=.int (j:Nat)) rfl rfl (b3M (by omega))) (bV (x:=dPl p) (y:=.int (k:Nat)) rfl rfl (b3M (by omega))) b6E];show (if decide (((p.getD j 0:Nat):Int)=((p.getD k 0:Nat):Int))=true then _ else _)=_;rw [tT,aW (ds:=[dM (s.getD j df0),dM (s.getD k df0)]) (aM (bV (x:=dS s) (y:=.int (j:Nat)) rfl rfl (c0o (by omega))) rfl) (b8s _ _)];show (if _ then (some (Re.ok (decide (ov (s.getD j df0) (s.getD k df0)))):Mm Bool) else some (.ok false))=_;rw [sV];congr 3;exact decide_eq_decide.mpr ⟨λz=>by omega,λz=>by omega⟩
 have t2:a2L [.val (dS s),.val (dZ sizes),.val D,.val (dPl p),.val (.int (k:Nat)),.val (dM (s.getD k df0))]=some (.ok ((qV k).any λj=>decide (p.getD j 0=p.getD k 0)&&decide (ov (s.getD j df0) (s.getD k df0)))):=by
  refine a8t k1 (y:=.list []) rfl ?_;rw [show (((qV k).filter λj=>decide (p.getD j 0=p.getD k 0)&&decide (ov (s.getD j df0) (s.getD k df0))).map λ(j:Nat)=>jg (j:Int))=(iL ((qV k).filter λj=>decide (p.getD j 0=p.getD k 0)&&decide (ov (s.getD j df0) (s.getD k df0)))).map .int by rw [qT];rfl,b7R (sI _)];rw [qT,a6y]
 show aQ _ _ _=_;unfold rN;cases c1:decide (sizes.getD (p.getD k 0) 0<h (s.getD k df0)) with
 | true=>
  rw [c1] at t1;rw [fF (d:=.bool false) (by rw [lR,aT t1];rfl)];rfl
 | false=>
  rw [c1] at t1;rw [ifF t1,lR,aT t2];cases (qV k).any λj=>decide (p.getD j 0=p.getD k 0)&&decide (ov (s.getD j df0) (s.getD k df0)) with
  | true=>rfl
  | false=>rfl
theorem a3m (hd:pS D h s) (hl:p.length=s.length) (hr:∀ r∈p,r<sizes.length) (hz:s.length<=1000):∀ (ks:T0t) (x4 x5:Ent),(∀ k∈ks,k<s.length) ->
  (ks.all (rN s sizes h p)=true->∃ ρ',bG (.tp [4,5]) eF (ks.map λ(k:Nat)=>.tuple [.int (k:Int),dM (s.getD k df0)]) [.val (dS s),.val (dZ sizes),.val D,.val (dPl p),x4,x5]=some (.nx ρ')) /\
  (ks.all (rN s sizes h p)=false->bG (.tp [4,5]) eF (ks.map λ(k:Nat)=>.tuple [.int (k:Int),dM (s.getD k df0)]) [.val (dS s),.val (dZ sizes),.val D,.val (dPl p),x4,x5]=some (.rt (.bool false)))
 | [],x4,x5,_=>⟨λ_=>⟨_,rfl⟩,λz=>by cases z⟩
 | k::ks,x4,x5,hk=>by
  have e:=b8P hd hl hr hz (hk k (by simp))
  have e1:bG (.tp [4,5]) eF ((k::ks).map λ(k:Nat)=>.tuple [.int (k:Int),dM (s.getD k df0)]) [.val (dS s),.val (dZ sizes),.val D,.val (dPl p),x4,x5]=(match eF [.val (dS s),.val (dZ sizes),.val D,.val (dPl p),.val (.int (k:Nat)),.val (dM (s.getD k df0))] with
   | some (.nx ρ2)=>bG (.tp [4,5]) eF (ks.map λ(k:Nat)=>.tuple [.int (k:Int),dM (s.getD k df0)]) ρ2
   | some (.ct ρ2)=>bG (.tp [4,5]) eF (ks.map λ(k:Nat)=>.tuple [.int (k:Int),dM (s.getD k df0)]) ρ2
   | some (.bk ρ2)=>some (.nx ρ2)
   | some (.rt d)=>some (.rt d)
   | some (.xc c ρ2)=>some (.xc c ρ2)
   | none=>none):=rfl
  rw [e1,e,jG];cases c:rN s sizes h p k with
  | true=>exact a3m hd hl hr hz ks _ _ λa ha=>hk a (qE _ ha)
  | false=>exact ⟨(λz=>nomatch z),λ_=>rfl⟩
def b8w (hd:pS D h s) (hl:p.length=s.length) (hr:∀ r∈p,r<sizes.length) (hz:s.length<=1000):a2p [dS s,dZ sizes,D,dPl p]=some (.ok (.bool (iR s sizes h p))):=by
 refine aV rfl ?_;show a1Z [.val (dS s),.val (dZ sizes),.val D,.val (dPl p),.no,.no]=_;have en:a3J (var 0) [.val (dS s),.val (dZ sizes),.val D,.val (dPl p),.no,.no]=some (.ok ((qV s.length).map λ(k:Nat)=>.tuple [.int (k:Int),dM (s.getD k df0)])):=by
  show some (Re.ok (lX (s.map dM)))=_;rw [a8Q]
 obtain ⟨h1,h2⟩:=a3m hd hl hr hz (qV s.length) .no .no λk hk=>qo.mp hk;unfold a1Z;have g:nZ (.tp [4,5]) (a3J (var 0)) eF [.val (dS s),.val (dZ sizes),.val D,.val (dPl p),.no,.no]=bG (.tp [4,5]) eF ((qV s.length).map λ(k:Nat)=>.tuple [.int (k:Int),dM (s.getD k df0)]) [.val (dS s),.val (dZ sizes),.val D,.val (dPl p),.no,.no]:=by rw [iX,en];rfl
 unfold iR;cases c:(qV s.length).all (rN s sizes h p) with
 | true=>
  obtain ⟨ρ',e⟩:=h1 c;rw [aJ (g.trans e)];rfl
 | false=>rw [fF (g.trans (h2 c))]
def b7x (o:ov a b):ov b a:=by unfold ov at *;omega
def fits_of (nd:(s.map (·.1)).Nodup) (hl:p.length=s.length) (hr:∀ r∈p,r<sizes.length) (F:iR s sizes h p=true):Fits s sizes h (λm=>p.getD (s.idxOf m) 0):=by
 have al:∀ k<s.length,rN s sizes h p k=true:=λk hk=>qm.mp F k (qo.mpr hk);have ix:∀ m∈s,s.idxOf m<s.length/\s.getD (s.idxOf m) df0=m:=λm hm=>by
  have:=vU.mpr hm;refine ⟨this,?_⟩;rw [qG,qD this];exact List.getElem_idxOf this
 refine ⟨λm hm=>?_,λm hm=>?_,λm hm m' hm' hn ho=>?_⟩
 ·have:=(ix m hm).1
  refine hr _ ?_;rw [qG,qD (show s.idxOf m<p.length by omega)];exact jZ _
 ·have:=al _ (ix m hm).1
  unfold rN at this;rw [qL,(ix m hm).2] at this;simpa using this.1
 ·have key:∀ a∈s,∀ b∈s,s.idxOf a<s.idxOf b->ov a b->p.getD (s.idxOf a) 0≠p.getD (s.idxOf b) 0:=λa ha b hb hab ho e=>by
   have:=al _ (ix b hb).1;unfold rN at this;rw [qL,zJ (b:=List.any _ _),wV] at this;have:=this.2 (s.idxOf a) (qo.mpr hab);rw [(ix a ha).2,(ix b hb).2,decide_eq_true e,decide_eq_true ho] at this;exact this rfl
  rcases vS (s.idxOf m) (s.idxOf m') with z | z | z
  ·exact key m hm m' hm' z ho
  ·exact absurd (by rw [<-(ix m hm).2,z,(ix m' hm').2]) hn
  ·exact λe=>key m' hm' m hm z (b7x ho) e.symm
def b4R (ns:s.Nodup) (F:Fits s sizes h r):iR s sizes h (s.map r)=true:=by
 refine qm.mpr λk hk=>?_;have hk:=qo.mp hk;have ge:∀ j<s.length,(s.map r).getD j 0=r (s.getD j df0):=λj hj=>by
  rw [qG,qQ,qD hj,qG,qD hj];rfl
 unfold rN;rw [qL,ge k hk];refine ⟨?_,?_⟩
 ·have:=F.big _ (getD_mem hk)
  simpa using this
 ·rw [zJ,wV]
  intro j hj;have hj:=qo.mp hj;rw [ge j (by omega)];intro z;rw [qL,decide_eq_true_eq,decide_eq_true_eq] at z;refine F.ne _ (getD_mem (show j<s.length by omega)) _ (getD_mem hk) (λe=>?_) z.2 z.1;rw [qG,qD (show j<s.length by omega),qG,qD hk] at e;have:=(vg (h₀:=show j<s.length by omega) (h₁:=hk) ns).mp e;omega
end
def dW (k:Nat):Nat->List (List Nat)
 | 0=>[[]]
 | n+1=>(dW k n).flatMap λp=>(qV k).map λr=>p++[r]
theorem sR {k:Nat}:∀ {n:Nat} {p:T0t},p∈dW k n↔p.length=n/\∀ r∈p,r<k
 | 0,p=>by
  show p∈[[]]↔_;rw [qH,vY];exact ⟨λe=>⟨e,by rw [e];simp⟩,λe=>e.1⟩
 | n+1,p=>by
  show p∈(dW k n).flatMap _↔_;rw [kG];constructor
  ·rintro ⟨q,hq,hp⟩
   obtain ⟨r,hr,rfl⟩:=qO.mp hp;obtain ⟨h1,h2⟩:=sR.mp hq;refine ⟨by simp [h1],λa ha=>?_⟩;rcases qg.mp ha with ha | ha
   ·exact h2 a ha
   ·rw [qH.mp ha];exact qo.mp hr
  ·rintro ⟨h1,h2⟩
   rcases zD p with rfl | ⟨q,r,rfl⟩
   ·simp at h1
   ·rw [kB] at *
    exact ⟨q,sR.mpr ⟨by simpa using h1,λa ha=>h2 a (jA _ ha)⟩,qO.mpr ⟨r,qo.mpr (h2 r (by simp)),rfl⟩⟩
theorem yC {k:Nat} (hk:k<=3):∀ n,(dW k n).length<=3 ^ n
 | 0=>qM _
 | n+1=>by
  have e:∀ l:List (List Nat),(l.flatMap λp=>(qV k).map λr=>p++[r]).length=l.length*k:=λl=>by
   induction l with
   | nil=>simp
   | cons a l ih=>rw [kP,qY,ih,qF,qx,qW,Nat.add_mul];omega
  show (List.flatMap _ _).length<=_;rw [e,Nat.pow_succ];exact Nat.mul_le_mul (yC hk n) hk
variable {N:j0} {P:List (List Nat)}
abbrev oA (N S D:j0) (sizes:T0s) (P:List (List Nat)) (x5 x6 x7:Ent):List Ent:=[.val N,.val S,.val (dZ sizes),.val D,.val (.list (P.map dPl)),x5,x6,x7,.no,.no]
def b9R {x5 x6:Ent} (hz:sizes.length<=3) (hp:p.length<=10):sS (oA N S D sizes P x5 x6 (.val (dPl p)))=some (.ok (.list (((qV sizes.length).map λr=>p++[r]).map dPl))):=by
 rw [qT];refine cN (λ(k:Nat)=>.int (k:Int)) (λk=>[.val (.int (k:Int)),.val (dPl p)]) (λr=>dPl (p++[r])) (qV sizes.length) ?_ (by rw [qx];omega) (λ_ _=>rfl) (λk _=>?_)
 ·rw [uN (n:=(sizes.length:Nat)) (by
   rw [gP (ds:=[dZ sizes]) rfl (b2n _),qF]) (by omega) (by omega),qz,uA]
 ·refine bV (x:=dPl p) (y:=.list [.int (k:Int)]) rfl rfl ?_
  rw [b3Q,if_pos (by simp;omega)];simp
theorem a5P {P:List (List Nat)} {x5:Ent} (hz:sizes.length<=3):∀ (ps done:List (List Nat)) (x7:Ent),(∀ p∈ps,p.length<=10)->done.length+3*ps.length<=1000 ->
  ∃ x7',bG (.nm 7) a0h (ps.map dPl) (oA N S D sizes P x5 (.lst (done.map dPl)) x7)=some (.nx (oA N S D sizes P x5 (.lst ((done++ps.flatMap λp=>(qV sizes.length).map λr=>p++[r]).map dPl)) x7'))
 | [],done,x7,_,_=>⟨x7,by simp [bG]⟩
 | p::ps,done,x7,hp,hl=>by
  rw [qW] at hl;have b:a0h (oA N S D sizes P x5 (.lst (done.map dPl)) (.val (dPl p)))=some (.nx (oA N S D sizes P x5 (.lst ((done++(qV sizes.length).map λr=>p++[r]).map dPl)) (.val (dPl p)))):=by
   show b2S 6 sS _=_;unfold b2S;show bns (sS _) _ _=_;rw [aT (b9R hz (hp p (by simp)))];show (if dU ((done.map dPl).length+(((qV sizes.length).map λr=>p++[r]).map dPl).length) then _ else none)=_;rw [if_pos (by unfold dU;simp;omega),qZ];rfl
  obtain ⟨x7',e⟩:=a5P (P:=P) (x5:=x5) hz ps (done++(qV sizes.length).map λr=>p++[r]) (.val (dPl p)) (λq hq=>hp q (qE _ hq)) (by rw [qY,qF,qx];omega);refine ⟨x7',?_⟩;rw [qK,cW (t:=.nm 7) (ρ1:=oA N S D sizes P x5 (.lst (done.map dPl)) (.val (dPl p))) rfl b,e,kP,qy]
theorem a5Q (hz:sizes.length<=3):∀ (l:List Mt) (n:Nat) (x5 x6 x7:Ent),n+l.length<=5->∃ x5' x6' x7',bG (.nm 5) a0f (l.map dM) (oA N S D sizes (dW sizes.length n) x5 x6 x7)=some (.nx (oA N S D sizes (dW sizes.length (n+l.length)) x5' x6' x7'))
 | [],n,x5,x6,x7,_=>⟨x5,x6,x7,rfl⟩
 | m::l,n,x5,x6,x7,hl=>by
  rw [qW] at hl;have pn:=yC (k:=sizes.length) hz n;have p4:3 ^ n<=3 ^ 4:=Nat.pow_le_pow_right (by omega) (by omega);have p4':(3:Nat) ^ 4=81:=rfl;obtain ⟨y7,e1⟩:=a5P (N:=N) (S:=S) (D:=D) (P:=dW sizes.length n) (x5:=.val (dM m)) hz (dW sizes.length n) [] x7 (λp hp=>by rw [(sR.mp hp).1];omega) (by rw [zz];omega);have b:a0f (oA N S D sizes (dW sizes.length n) (.val (dM m)) x6 x7)=some (.nx (oA N S D sizes (dW sizes.length (n+1)) (.val (dM m)) (.val (.list ((dW sizes.length (n+1)).map dPl))) y7)):=by
   show aQ _ _ _=_;rw [aJ (ρ':=oA N S D sizes (dW sizes.length n) (.val (dM m)) (.lst []) x7) rfl];rw [aJ (ρ':=oA N S D sizes (dW sizes.length n) (.val (dM m)) (.lst ((dW sizes.length (n+1)).map dPl)) y7) (by rw [iX];exact e1)];rfl
  obtain ⟨x5',x6',x7',e2⟩:=a5Q hz l (n+1) (.val (dM m)) (.val (.list ((dW sizes.length (n+1)).map dPl))) y7 (by omega);refine ⟨x5',x6',x7',?_⟩;rw [qK,cW (t:=.nm 5) (ρ1:=oA N S D sizes (dW sizes.length n) (.val (dM m)) x6 x7) rfl b,e2,qW,show n+1+l.length=n+(l.length+1) by omega]
def b7d (P:List (List Nat)):qb (.list (P.map dPl))=true:=a4o (n:=2) (λd hd=>by
 obtain ⟨p,_,rfl⟩:=qO.mp hd
 exact jj (sI _)) (λd hd=>by
 obtain ⟨p,_,rfl⟩:=qO.mp hd;rw [jr];have:zO ((iL p).map .int)<=1:=rQ λd hd=>by obtain ⟨i,_,rfl⟩:=qO.mp hd;simp [jr]
 omega) (by decide)
def b7M {q:T0t} (h:q∈P):b4V (dPl q) (.list (P.map dPl))=some false:=by
 show (a6e (dPl q) (P.map dPl)).map (!·)=_;unfold a6e
 rw [if_pos (by
  rw [qL]
  exact ⟨sI _,qm.mpr λd hd=>by obtain ⟨p,_,rfl⟩:=qO.mp hd;exact sI _⟩)]
 have:((P.map dPl).any λd=>qw d (dPl q))=true:=vh.mpr ⟨dPl q,qi h,by rw [a2c,a0y];exact decide_eq_true rfl⟩;rw [this];rfl
def nmK:Key->Str
 | .inr x=>x
 | .inl _ => ""
def b0Z {ns:T0q} (h:ns.length<64):a4i [.list (ns.map .str)]=some (.list ((tJ ns).map .str)):=by
 unfold a4i;dsimp only;rw [iS (g:=.str) (λ_=>rfl) ns];dsimp only;rw [if_pos h]
def b9U (neg:Bool) (h:fa ρ=some (.ok (dD kvs))):isT neg .none fa ρ=some (.ok neg):=by
 rw [b9T,h];cases neg<;>rfl
section
variable {h:Mt->Int}
def Pl.room (P:Pl s sizes h kvs):∃ r:Mt->Nat,Fits s sizes h r/\∀ m∈s,(.inr m.1,.int (r m:Nat))∈kvs:=by
 have:∀ m:Mt,∃ k:Nat,m∈s->(.inr m.1,.int (k:Nat))∈kvs/\k<sizes.length/\h m<=sizes.getD k 0:=λm=>by
  by_cases hm:m∈s
  ·obtain ⟨k,q⟩:=P.has m hm
   exact ⟨k,λ_=>q⟩
  ·exact ⟨0,λz=>absurd z hm⟩
 obtain ⟨r,hr⟩:=Classical.axiomOfChoice this;exact ⟨r,⟨λm hm=>(hr m hm).2.1,λm hm=>(hr m hm).2.2,λm hm m' hm' hn ho=>P.ne m hm m' hm' hn ho _ _ (hr m hm).1 (hr m' hm').1⟩,λm hm=>(hr m hm).1⟩
def a5I {z:T0s} (T:TOk D h s) (hz:z.length<=1000) (F:Fits s z h r):∃ kvs,cC w [dS s,dZ z,D]=some (.ok (dD kvs)):=by
 obtain ⟨res,e,h1,_⟩:=a8M (w:=w) (sizes:=z) T hz;cases res with
 | none=>exact absurd F (h1 rfl r)
 | some kvs=>exact ⟨kvs,e⟩
def a9C (T:TOk D h s) (S:SheetOk s) (hz:sizes.length<=3) (e1:tG [N,.int 0,.int 5]=some (.ok (dS s))) (e2:a3A [.val N,.val (dS s),.no,.no,.no,.no,.no,.no,.no,.no]=some (.ok (dZ sizes)))
  (e3:cJ mV (aC yL aK) [.val N,.val (dS s),.val (dZ sizes),.no,.no,.no,.no,.no,.no,.no]=some (.ok D)):xN w [N]=some (.ok (.bool true)):=by
 have sl:=T.len;have ns:=a8u T.nd;refine aV rfl ?_;show a1Y w [.val N,.no,.no,.no,.no,.no,.no,.no,.no,.no]=_;unfold a1Y;rw [aJ (ρ':=[.val N,.val (dS s),.no,.no,.no,.no,.no,.no,.no,.no]) (by rw [fN,aT (aW (ds:=[N,.int 0,.int 5]) rfl e1)];rfl)];rw [aJ (ρ':=[.val N,.val (dS s),.val (dZ sizes),.no,.no,.no,.no,.no,.no,.no]) (by rw [fN,aT e2];rfl)];rw [aJ (ρ':=[.val N,.val (dS s),.val (dZ sizes),.val D,.no,.no,.no,.no,.no,.no]) (by rw [fN,aT e3];rfl)];rw [aJ (ρ':=oA N (dS s) D sizes (dW sizes.length 0) .no .no .no) rfl];obtain ⟨x5,x6,x7,el⟩:=a5Q (N:=N) (S:=dS s) (D:=D) hz s 0 .no .no .no (by omega);rw [aJ (ρ':=oA N (dS s) D sizes (dW sizes.length s.length) x5 x6 x7) (by rw [iX];rw [wX] at el;exact el)];generalize hP:dW sizes.length s.length=P;have mP:∀ p,p∈P↔p.length=s.length/\∀ r∈p,r<sizes.length:=λp=>by rw [<-hP];exact sR
 have lP:P.length<=1000:=by
  have:=yC (k:=sizes.length) hz s.length;have p5:3 ^ s.length<=3 ^ 5:=Nat.pow_le_pow_right (by omega) sl;have p5':(3:Nat) ^ 5=243:=rfl;rw [<-hP];omega
 have k4:a3z (oA N (dS s) D sizes P x5 x6 x7)=some (.ok (.list ((P.filter (iR s sizes h)).map dPl))):=
  eX dPl (λp=>[.val (dPl p),.val D,.val (dS s),.val (dZ sizes)]) (iR s sizes h) dPl P rfl (by omega) (λ_ _=>rfl) (λp hp=>by
   obtain ⟨a,b⟩:=(mP p).mp hp
   rw [tT,aW (ds:=[dS s,dZ sizes,D,dPl p]) rfl (b8w T.hd a b (by omega))];rfl) (λ_ _ _=>rfl)
 obtain ⟨res,ef,r1,r2⟩:=a8M (w:=w) (sizes:=sizes) T (by omega);rw [aJ (ρ':=[.val N,.val (dS s),.val (dZ sizes),.val D,.val (.list (P.map dPl)),x5,x6,x7,.val (.list ((P.filter (iR s sizes h)).map dPl)),.no]) (by rw [fN,aT k4];rfl)];rw [aJ (ρ':=[.val N,.val (dS s),.val (dZ sizes),.val D,.val (.list (P.map dPl)),x5,x6,x7,.val (.list ((P.filter (iR s sizes h)).map dPl)),.val (plD res)]) (by rw [fN,aT (aW (ds:=[dS s,dZ sizes,D]) rfl ef)];rfl)];generalize hρ:[Ent.val N,.val (dS s),.val (dZ sizes),.val D,.val (.list (P.map dPl)),x5,x6,x7,.val (.list ((P.filter (iR s sizes h)).map dPl)),.val (plD res)]=ρ;have eqn:a4Y eqD (var 8) (pR aK) ρ=some (.ok (.bool (P.filter (iR s sizes h)).isEmpty)):=by
  subst hρ;rw [b3y];show lft (Option.map j0.bool (eqD (.list ((P.filter (iR s sizes h)).map dPl)) (.list [])))=_;rw [a4R (b7d _)];cases P.filter (iR s sizes h)<;>rfl
 cases res with
 | none=>
  have em:P.filter (iR s sizes h)=[]:=by
   rw [List.filter_eq_nil_iff];intro p hp z;obtain ⟨a,b⟩:=(mP p).mp hp;exact r1 rfl _ (fits_of T.nd a b z)
  rw [em] at eqn;have t1:xT ρ=some (.ok false):=a8t (x:=.bool true) (y:=.bool true) (by subst hρ;rfl) eqn rfl;have t2:xS ρ=some (.ok true):=by subst hρ;rfl
  rw [ifF t1,fF (d:=.bool true) (by rw [lR,aT t2];rfl)]
 | some kvs=>
  have PL:=r2 kvs rfl;obtain ⟨r,F,hr⟩:=PL.room;have kn:(kvs.map (·.1)).Nodup:=PL.keys.nodup_iff.mpr (a0N T.nd);have inn:s.map r∈P.filter (iR s sizes h):=by
   rw [qX,mP];refine ⟨⟨qF _,λk hk=>?_⟩,b4R ns F⟩;obtain ⟨m,hm,rfl⟩:=qO.mp hk;exact F.lt m hm
  have em:(P.filter (iR s sizes h)).isEmpty=false:=by
   cases e:P.filter (iR s sizes h) with
   | nil=>rw [e] at inn;cases inn
   | cons a l=>rfl
  rw [em] at eqn;have t1:xT ρ=some (.ok false):=a8t (x:=.bool false) (y:=.bool false) (by subst hρ;rfl) eqn rfl;have t2:xS ρ=some (.ok false):=by subst hρ;rfl
  have v9:var 9 ρ=some (.ok (dD kvs)):=by subst hρ;rfl
  have ks:kvs.map (λp=>dX p.1)=(kvs.map λp=>nmK p.1).map .str:=by
   rw [qT];refine zQ λp hp=>?_;obtain ⟨m,_,e⟩:=qO.mp (PL.keys.mem_iff.mp (qi (f:=(·.1)) hp));show dX p.1=.str (nmK p.1);rw [<-e];rfl
  have np:(kvs.map λp=>nmK p.1).Perm (s.map (·.1)):=by
   have:=PL.keys.map nmK;rw [qT,qT] at this;exact this
  have so:tJ (kvs.map λp=>nmK p.1)=s.map (·.1):=tZ ((oJ _).trans np) (uK _) S.pw;have nl:(kvs.map λp=>nmK p.1).length<64:=by rw [np.length_eq,qF];omega
  have a1:cJ a4i (aC (cJ lstK (aC (var 9) aK)) aK) ρ=some (.ok (.list ((s.map (·.1)).map .str))):=by
   refine gP (ds:=[.list ((kvs.map λp=>nmK p.1).map .str)]) (aM (gP (ds:=[dD kvs]) (aM v9 rfl) ?_) rfl) (by rw [b0Z nl,so]);show (if (kvs.map λp=>(dX p.1,p.2)).all (λp=>(oC p.1).isSome) then some (ky ((kvs.map λp=>(dX p.1,p.2)).map (·.1))) else none)=_;rw [if_pos (qm.mpr λq hq=>by obtain ⟨p,_,rfl⟩:=qO.mp hq;rw [fV];rfl),qT,<-ks];rfl
  have k5:a3y ρ=some (.ok (.list ((s.map (·.1)).map .str))):=by
   subst hρ;rw [qT];exact cN dM (λm=>[.val (dM m)]) (λm=>.str m.1) s rfl (by omega) (λ_ _=>rfl) (λm _=>rfl)
  have k6:a3x ρ=some (.ok (dPl (s.map r))):=by
   subst hρ;show _=some (Re.ok (ky (((s.map r).map λ(k:Nat)=>(k:Int)).map .int)));rw [qT,qT];exact cN dM (λm=>[.val (dM m),.val (dD kvs)]) (λm=>.int (r m:Nat)) s rfl (by omega) (λ_ _=>rfl) (λm hm=>bV (x:=dD kvs) (y:=.str m.1) rfl rfl (a7C kn (hr m hm)))
  have ok:∀ x∈s.map (·.1),jc x=true:=λx hx=>by obtain ⟨m,hm,rfl⟩:=qO.mp hx;exact T.nm m hm
  have t3:a2K ρ=some (.ok false):=b9C (a8t a1 k5 (by rw [a5F (a8g ok) (a8g ok),a0x,decide_eq_true rfl];rfl)) (iK k6 (y:=.list ((P.filter (iR s sizes h)).map dPl)) (by subst hρ;rfl) (b7M inn))
  obtain ⟨kv2,f2⟩:=a5I (w:=w) (z:=sizes++[1]) T (by simp;omega) (r:=r) ⟨λm hm=>by have:=F.lt m hm;simp;omega,λm hm=>by
   have:=F.big m hm;have l:=F.lt m hm
   rw [qG,jH l,<-qG];exact this,F.ne⟩
  obtain ⟨kv3,f3⟩:=a5I (w:=w) (z:=sizes.map (·+1)) T (by simp;omega) (r:=r) ⟨λm hm=>by have:=F.lt m hm;simpa using this,λm hm=>by
   have:=F.big m hm;have l:=F.lt m hm;rw [qG,qD l] at this;rw [qG,qQ,qD l];show h m<=sizes[r m]+1;have:h m<=sizes[r m]:=this
   omega,F.ne⟩
  have z2:op2 cR (var 2) (pR (aC (cst (.int 1)) aK)) ρ=some (.ok (dZ (sizes++[1]))):=by
   subst hρ;refine bV (x:=dZ sizes) (y:=.list [.int 1]) rfl rfl ?_;rw [b3Q,if_pos (by simp;omega)];simp
  have t4:a2J w ρ=some (.ok false):=b9U false (aW (ds:=[dS s,dZ (sizes++[1]),D]) (aM (by subst hρ;rfl) (aM z2 (aM (by subst hρ;rfl) rfl))) f2);have k7:a3w ρ=some (.ok (dZ (sizes.map (·+1)))):=by
   subst hρ;show _=some (Re.ok (ky ((sizes.map (·+1)).map .int)));rw [qT];exact cN (λ(z:Int)=>.int z) (λz=>[.val (.int z)]) (λz=>.int (z+1)) sizes rfl (by omega) (λ_ _=>rfl) (λz _=>rfl)
  rw [ifF t1,ifF t2,ifF t3,ifF t4,eG,b9V,aW (ds:=[dS s,dZ (sizes.map (·+1)),D]) (aM (by subst hρ;rfl) (aM k7 (aM (by subst hρ;rfl) rfl))) f3];rfl
end
def b8t (w:World) (ns:T0s):xN w [dN ns]=some (.ok (.bool true)):=by
 have S:SheetOk (iG ns 0 5):=b1e ns 0 (by decide) (by decide);have e1:=b5G ns 0 5 (by decide) (by decide) (by decide);have sl:(iG ns 0 5).length<=5:=by
  have:=a4E (ns:=ns) (at':=0) (most:=5) (by decide);rw [xV];omega
 generalize iG ns 0 5=s at *;have n0:=iH ns 99 (many:=4) (by decide);have n1:=iI ns 99 (many:=4) (by decide);have nd:=S.nodup;have sn:=a8u nd
 let h:Mt->Int:=λm=>1+pickOf ns (110+(s.idxOf m:Nat)) 4
 let kvs:List (Key×j0):=(qV s.length).map λ(k:Nat)=>(.inr (s.getD k df0).1,.int (1+pickOf ns (110+(k:Nat)) 4))
 have ks:kvs.map (·.1)=s.map kM:=by
  show ((qV s.length).map _).map _=_;rw [qT];refine wq (by simp) λi h1 h2=>?_;have hi:i<s.length:=by simpa using h2
  simp [vV,hi,kM]
 have kn:(kvs.map (·.1)).Nodup:=by rw [ks];exact a0N nd
 have hd:pS (dD kvs) h s:=λm hm=>by
  refine a7C kn (qO.mpr ⟨s.idxOf m,?_,?_⟩)
  ·exact qo.mpr (vU.mpr hm)
  ·have l:=vU.mpr hm
   have:s.getD (s.idxOf m) df0=m:=by
    rw [qG,qD l];exact List.getElem_idxOf l
   rw [this]
 have T:TOk (dD kvs) h s:=⟨nd,S.name_ok,λm hm=>(S.times m hm).2.1,sl,hd,λm hm=>by
  have a:=iH ns (110+(s.idxOf m:Nat)) (many:=4) (by decide);have b:=iI ns (110+(s.idxOf m:Nat)) (many:=4) (by decide);show 1+pickOf ns (110+(s.idxOf m:Nat)) 4∈_
  simp only [qI,qp,or_false];omega⟩
 refine a9C (sizes:=(qV (pickOf ns 99 4).toNat).map λ(k:Nat)=>1+pickOf ns (100+(k:Nat)) 4) T S (by simp;omega) e1 ?_ ?_
 ·show _=some (Re.ok (ky (((qV (pickOf ns 99 4).toNat).map λ(k:Nat)=>1+pickOf ns (100+(k:Nat)) 4).map .int)))
  rw [qT];refine cN (λ(k:Nat)=>.int (k:Int)) (λk=>[.val (.int (k:Int)),.val (dN ns)]) (λk=>.int (1+pickOf ns (100+(k:Nat)) 4)) (qV (pickOf ns 99 4).toNat) ?_ (by rw [qx];omega) (λ_ _=>rfl) (λk _=>?_)
  ·rw [uN (aW (ds:=[dN ns,.int 99,.int 4]) rfl (rP ns 99 4 (by decide) (by decide))) (by omega) (by omega),uA]
  ·exact bV (x:=.int 1) rfl (aW (ds:=[dN ns,.int (100+(k:Int)),.int 4]) rfl (rP ns _ 4 (by omega) (by decide))) a0j
 ·have k2:yL [.val (dN ns),.val (dS s),.val (dZ ((qV (pickOf ns 99 4).toNat).map λ(k:Nat)=>1+pickOf ns (100+(k:Nat)) 4)),.no,.no,.no,.no,.no,.no,.no]=some (.ok (.list (kvs.map λp=>.tuple [dX p.1,p.2]))):=by
   show _=some (Re.ok (ky (((qV s.length).map _).map _)));rw [qT];refine cN (λ(k:Nat)=>.tuple [.int (k:Int),dM (s.getD k df0)]) (λk=>[.val (.int (k:Int)),.val (dM (s.getD k df0)),.val (dN ns)]) (λk=>.tuple [.str (s.getD k df0).1,.int (1+pickOf ns (110+(k:Nat)) 4)]) (qV s.length) ?_ (by rw [qx];omega) (λ_ _=>rfl) (λk _=>?_)
   ·show some (Re.ok (lX (s.map dM)))=_
    rw [a8Q]
   ·rw [a0T,aM (x:=.str (s.getD k df0).1) rfl (aM (bV (x:=.int 1) rfl (aW (ds:=[dN ns,.int (110+(k:Int)),.int 4]) rfl (rP ns _ 4 (by omega) (by decide))) a0j) rfl)];rfl
  refine gP (aM k2 rfl) (a6l ?_ kn (by show ((qV s.length).map _).length<=1000;simp;omega));exact iS (g:=λq:Key×j0=>.tuple [dX q.1,q.2]) (λq=>by show (oC (dX q.1)).map (·,q.2)=_;rw [fV];rfl) kvs
theorem a5N (w:World) (ns:T0s) (hl:ns.length<=63):∀ (ts:T0s) (x:Ent),∃ ρ',bG (.nm 1) (a0g w) (ts.map .int) [.val (dN ns),x]=some (.nx ρ')
 | [],x=>⟨_,rfl⟩
 | t::ts,x=>by
  have k1:b2t [.val (dN ns),.val (.int t)]=some (.ok (dN (ns.map (·+7919*t)))):=by
   show _=some (Re.ok (ky ((ns.map (·+7919*t)).map .int)));rw [qT];exact cN (λ(n:Int)=>.int n) (λn=>[.val (.int n),.val (.int t)]) (λn=>.int (n+7919*t)) ns rfl (by omega) (λ_ _=>rfl) (λn _=>bV (x:=.int n) rfl (bV (x:=.int 7919) (y:=.int t) rfl rfl (a4z (by decide) (by decide))) a0j)
  have t1:b0V w [.val (dN ns),.val (.int t)]=some (.ok false):=by
   show b4S _ _=_;rw [b7I,tT,aW (aM k1 rfl) (b8t w _)];rfl
  have t2:b0U [.val (dN ns),.val (.int t)]=some (.ok (ns.map jg).isEmpty):=iK (x:=dN ns) (y:=.list []) rfl rfl (a4R (sI ns));obtain ⟨ρ',e⟩:=a5N w ns hl ts (.val (.int t));cases c:(ns.map jg).isEmpty with
  | true=>
   rw [c] at t2;refine ⟨[.val (dN ns),.val (.int t)],?_⟩;have b:a0g w [.val (dN ns),.val (.int t)]=some (.bk [.val (dN ns),.val (.int t)]):=by
    show aQ _ _ _=_;rw [ifF t1,lR,aT t2];rfl
   rw [qK,bG]
   show (match a0g w [.val (dN ns),.val (.int t)] with
    | some (.nx ρ2)=>bG (.nm 1) (a0g w) (ts.map .int) ρ2
    | some (.ct ρ2)=>bG (.nm 1) (a0g w) (ts.map .int) ρ2
    | some (.bk ρ2)=>some (.nx ρ2)
    | some (.rt d)=>some (.rt d)
    | some (.xc c ρ2)=>some (.xc c ρ2)
    | none=>none)=_
   rw [b]
  | false=>
   rw [c] at t2;refine ⟨ρ',?_⟩
   rw [qK,cW (t:=.nm 1) (ρ1:=[.val (dN ns),.val (.int t)]) (ρ2:=[.val (dN ns),.val (.int t)]) rfl (by
    show aQ _ _ _=_
    rw [ifF t1,lR,aT t2];rfl)]
   exact e
def e_law (w:World) (ns:T0s) (hl:ns.length<=63):F_law w [dN ns]=some (.ok (.bool true)):=by
 refine aV rfl ?_;show b2Q w [.val (dN ns),.no]=_;unfold b2Q;obtain ⟨ρ',e⟩:=a5N w ns hl [0,1,2] .no;have r:a1n (cst (.int 3)) [.val (dN ns),.no]=some (.ok ([0,1,2].map .int)):=by
  rw [uN (n:=3) rfl (by decide) (by decide)];rfl
 rw [aJ (by rw [iX,aT r];exact e)];rfl
end L2.L3
namespace L2.L3
open PySem PySem.Spec PyProof.Rows
def top (i:Nat):Stmt:=PySem.Challenge.pw_daysheet_k61_whole_fitting.main.body.getD i (.Pass ⟨0,0,0,0⟩)
structure Blt (mg:T0d):Prop where
 b_any:mg "any" = none
 b_dict:mg "dict" = none
 b_enumerate:mg "enumerate" = none
 b_len:mg "len" = none
 b_list:mg "list" = none
 b_max:mg "max" = none
 b_min:mg "min" = none
 b_range:mg "range" = none
 b_reversed:mg "reversed" = none
 b_set:mg "set" = none
 b_sorted:mg "sorted" = none
 b_tuple:mg "tuple" = none
 b_zip:mg "zip" = none
theorem _root_.L2.Room.m (hr:Room k A) (h:j<=k:=by decide):Room j A:=hr.mono h
section
variable (P:Program) (w:World) (K:qB) (mg:T0d) (base:Heap)
abbrev a6I:Prop:=bM P w K mg base "_law_cell" 1 ["_law_script", "_law_k"] a2q
abbrev a2t:Prop:=bM P w K mg base "_law_pick" 2 ["_law_script", "_law_k", "_law_many"] dC
abbrev a4b:Prop:=bM P w K mg base "_law_sheet" 3 ["_law_script", "_law_at", "_law_most_here"] tG
abbrev gT:Prop:=bM P w K mg base "in_laying_order" 5 ["sheet"] eK
abbrev a6J:Prop:=bM P w K mg base "groups" 6 ["sheet"] rY
abbrev xO:Prop:=bM P w K mg base "shelves_of" 1 ["sheet", "sizes", "heads"] pH
abbrev a2s:Prop:=bM P w K mg base "names_at" 1 ["sheet", "moment"] pI
abbrev a4a:Prop:=bM P w K mg base "load_at" 2 ["sheet", "moment"] tF
abbrev gS:Prop:=bM P w K mg base "most_at_once" 3 ["sheet"] dP
abbrev a0o:Prop:=bM P w K mg base "may_fit" 4 ["shelves", "meetings", "heads"] iE
abbrev mY:Prop:=MethF P w K mg base "without_first" 3 bU
abbrev rZ:Prop:=MethF P w K mg base "with_first" 3 dQ
abbrev oG:Prop:=bM P w K mg base "ways_for_first" 5 ["shelves", "heads", "filling"] eY
abbrev sB:Prop:=MethF P w K mg base "a_shelf_on" 3 mH
abbrev a3X:Prop:=bM P w K mg base "ways_on" 6 ["shelves", "heads", "filling"] a0m
abbrev a2u:Prop:=bM P w K mg base "by_heads" 5 ["sheet", "heads"] pK
abbrev a6E:Prop:=MethF P w K mg base "mark" 1 oE
abbrev oH:Prop:=bM P w K mg base "filled_shelves" 7 ["shelves", "sheet", "heads"] (dR w)
abbrev a3Z:Prop:=bM P w K mg base "overlap" 1 ["one", "other"] a0n
abbrev xQ:Prop:=bM P w K mg base "first_free" 1 ["taken"] pJ
abbrev pP:Prop:=bM P w K mg base "laid_meetings" 6 ["sheet"] fL
abbrev a4c:Prop:=CalleeD P w K mg base "columns" 7 ["sheet"] oF
abbrev xP:Prop:=bM P w K mg base "group_plan" 8 ["sheet", "sizes", "heads"] (cK w)
abbrev a3Y:Prop:=bM P w K mg base "part_of" 1 ["sheet", "names"] tE
abbrev sC:Prop:=bM P w K mg base "fitting_plan" 9 ["sheet", "sizes", "heads"] (cC w)
abbrev a6F:Prop:=bM P w K mg base "_law_over" 1 ["_law_one", "_law_other"] a2o
abbrev a6H:Prop:=bM P w K mg base "_law_fits" 2 ["_law_sheet_here", "_law_sizes", "_law_heads", "_law_plan"] a2p
abbrev a6G:Prop:=bM P w K mg base "_law_once" 10 ["_law_script"] (xN w)
end
variable {c T fa:Addr}
section
variable (P:Program) (w:World) {K:qB} (base:Heap)
def fS {P:T0q} {sc:Scope} (a:sc.kind=.function:=by rfl) (b:sc.isCoroutine=false:=by rfl) (c:sc.isGenerator=false:=by rfl) (d:N.Nodup:=by decide +kernel) (e:N.take P.length=P:=by rfl) (f:∀ x∈P,sc.names.lookup x=some .local\/sc.names.lookup x=some .cell:=by decide +kernel) (g:∀ y∈sc.names,y.2≠.free:=by decide +kernel):FnScope N P sc:=⟨a,b,c,d,e,f,g⟩
def hM (r:Room k A) (h:j<=k:=by decide):Room j A:=r.mono h
abbrev a5v:Stmt:=a6r (top 14) 0
def a9u:FnScope fPs fPs (aD a5v):=fS
abbrev a1m:Stmt:=top 24
noncomputable abbrev b1X:List Str:=["_law_script", "_law_k"]
def a9w:FnScope b1X ["_law_script", "_law_k"] (aD a1m):=fS
def b3H (D:Def K mg "_law_cell" a1m) (B:Blt mg): a6I P w K mg base:=by
 refine aS 2 2 D a9w rfl rfl (λ_ _ _ _ _ _ us hl=>by obtain ⟨_,_,rfl⟩:=a5U hl;rfl) (λfa cdv A outer s H E hr=>?_);exact (aI (fU (dL a0s (aA 1) (bI gJ B.b_len ub (aB (aA 0) aG))) (aN (aR (bP (aA 0) (aA 1)))) eC) (aI (fU (dL (a6g hr.units) (aA 0) (iB aG)) (aN (aR aL)) eC) (aN (aR (aZ bS (aZ rD (bP (aA 0) (aZ a4B (aA 1) (bI gJ B.b_len ub (aB (aA 0) aG)))) aL) (aA 1))))))
abbrev a1k:Stmt:=top 25
noncomputable abbrev b1V:List Str:=["_law_script", "_law_k", "_law_many", "_law_drawn"]
def a2V:FnScope b1V ["_law_script", "_law_k", "_law_many"] (aD a1k):=fS
def b3D (D:Def K mg "_law_pick" a1k) (B:Blt mg) (YI:a6I P w K mg base):a2t P w K mg base:=by
 refine aS 4 3 D a2V rfl rfl (λ_ _ _ _ _ _ us hl=>by obtain ⟨_,_,_,rfl⟩:=a2A hl;rfl) (λfa cdv A outer s H E hr=>?_);exact (aI (cG 3 a2V.nd (aZ a4B (aZ rD (aZ bS (aP YI hr.m (aB (aA 0) (aB (aA 1) aG))) (aZ rD aL (aZ bS (aA 1) aL))) aL) aL)) (aN (aR (aZ a4B (aZ a4B (aZ bS (aZ rD (aA 3) (aA 3)) (aZ b8p (aA 3) aL)) aL) (aA 2)))))
abbrev yA:Stmt:=top 26
noncomputable abbrev a9H:List Str:=["_law_script", "_law_at", "_law_most_here", "_law_span", "_law_names", "_law_made", "_law_k", "_law_begin", "_law_size"]
def fO:FnScope a9H ["_law_script", "_law_at", "_law_most_here"] (aD yA):=fS
def b0x (D:Def K mg "_law_sheet" yA) (B:Blt mg) (YM:a2t P w K mg base):a4b P w K mg base:=by
 refine aS 9 3 D fO rfl rfl (λ_ _ _ _ _ _ us hl=>by obtain ⟨_,_,_,rfl⟩:=a2A hl;rfl) (λfa cdv A outer s H E hr=>?_);exact (aI (cG 3 fO.nd (bP (iB (aB aL (aB aL (aB aL (aB aL aG))))) (aP YM hr.m (aB (aA 0) (aB (aA 1) (aB aL aG)))))) (aI (cG 4 fO.nd (iB (aB nG (aB nG (aB nG (aB nG (aB nG (aB nG (aB nG (aB nG (aB nG (aB nG aG)))))))))))) (aI (yW 5 fO.nd aG) (aI (iA jM rfl (uX B.b_range (aP YM hr.m (aB (aA 0) (aB (aZ bS (aA 1) aL) (aB (aZ bS (aA 2) aL) aG))))) (cA 6 fO.nd) (aI (cG 7 fO.nd (aP YM hr.m (aB (aA 0) (aB (aZ bS (aZ bS (aA 1) aL) (aZ rD aL (aA 6))) (aB (aA 3) aG))))) (aI (cG 8 fO.nd (aZ bS aL (aP YM hr.m (aB (aA 0) (aB (aZ bS (aZ bS (aA 1) aL) (aZ rD aL (aA 6))) (aB (bP (iB (aB aL (aB aL (aB (aA 3) aG)))) (aP YM hr.m (aB (aA 0) (aB (aZ bS (aZ bS (aA 1) aL) (aZ rD aL (aA 6))) (aB aL aG))))) aG)))))) (aN (yX 5 (fQ (aB (bP (aA 4) (aA 6)) (aB (aA 7) (aB (aZ bS (aA 7) (aA 8)) aG))))))))) (uG 5 (aN (aR (rR a6S B.b_tuple boot_tuple (aB (aA 5) aG)))))))))
abbrev gH:Stmt:=top 7
def tY:FnScope ["sheet"] ["sheet"] (aD gH):=fS
def xG (D:Def K mg "in_laying_order" gH) (B:Blt mg) (kb:K.In base) (nb:base.Ns j6 mg) (M:BM mg base) (ht:jh K "in_laying_order" = some (c,T)) (hC:kQ K c T=true): gT P w K mg base:=by
 refine a0C 1 1 D tY rfl rfl kb nb ht (λ_ _ _ _ _ _ us hl=>by obtain ⟨_,rfl⟩:=a0H hl;rfl) (λfa A outer s H E hr=>?_);exact (aN (aR (b3p (k:=1) (y := "meeting") (by unfold fC;simp) ht rfl rfl hC M hr.m B.b_sorted (aA 0) (by exact fS) (λf c A outer s H hr=>(fQ (aB (bP (aA 0) aL) (aB (b3t (bP (aA 0) aL)) (aB (bP (aA 0) aL) aG))))))))
abbrev uM:Stmt:=top 8
noncomputable abbrev a5H:List Str:=["sheet", "told", "reach", "name", "begin", "end"]
def fT:FnScope a5H ["sheet"] (aD uM):=fS
def b3I (D:Def K mg "groups" uM) (B:Blt mg) (YH:gT P w K mg base):a6J P w K mg base:=by
 refine aS 6 1 D fT rfl rfl (λ_ _ _ _ _ _ us hl=>by obtain ⟨_,rfl⟩:=a0H hl;rfl) (λfa cdv A outer s H E hr=>?_);have nd1:(["group"]:T0q).Nodup:=by decide +kernel
 exact (aI (b5L 1 fT.nd) (aI (cG 2 fT.nd aL) (aI (iA jM rfl (dE (aP YH hr.m (aB (aA 0) aG))) (lZ rfl (bC 3 fT.nd (bC 4 fT.nd (bC 5 fT.nd gO)))) (aN (fU (DW.dt (a4W (b5I 1) (a0O (dL a0s (aA 4) (aA 2))))) (aI (b3f 1 (aA 3)) (aN (cG 2 fT.nd (bI (a7q rfl) B.b_max boot_max (aB (aA 2) (aB (aA 5) aG)))))) (aI (b3d 1 (aB (aA 3) aG)) (aN (cG 2 fT.nd (aA 5))))))) (b5P 1 (aN (aR (dG (N':=["group"]) (cap:=[none]) rfl (dO (so:=aD uM) (NN:=a5H) rfl rfl (by decide +kernel)) (dE (aA 1)) rfl (λ_ _ _ _=>cA 0 nd1) (λ_ _ _ _=>fJ) (λ_ _ _ _=>(bI a8b B.b_sorted boot_sorted (aB (aA 0) aG))))))))))
abbrev gE:Stmt:=top 16
noncomputable abbrev oU:List Str:=["sheet", "sizes", "heads", "shelves", "above", "least", "rooms"]
def eE:FnScope oU ["sheet", "sizes", "heads"] (aD gE):=fS
def a5d (D:Def K mg "shelves_of" gE) (B:Blt mg): xO P w K mg base:=by
 refine aS 7 3 D eE rfl rfl (λ_ _ _ _ _ _ us hl=>by obtain ⟨_,_,_,rfl⟩:=a2A hl;rfl) (λfa cdv A outer s H E hr=>?_);have nd1:(["meeting", "heads"]:T0q).Nodup:=by decide +kernel
 have nd2:(["room", "size", "above", "least"]:T0q).Nodup:=by decide +kernel
 exact (aI (yW 3 eE.nd aG) (aI (cG 4 eE.nd mW) (aI (iA jM rfl (b8F B.b_reversed (b3o rfl B.b_sorted B.b_set (dG (N':=["meeting", "heads"]) (cap:=[none,some 2]) rfl (dO (so:=aD gE) (NN:=oU) rfl rfl (by decide +kernel)) (dE (aA 0)) rfl (λ_ _ _ _=>cA 0 nd1) (λ_ _ _ _=>fJ) (λ_ _ _ _=>(yZ (aA 1) (bP (aA 0) aL)))))) (cA 5 eE.nd) (aI (a8T 6 eE.nd (N':=["room", "size", "above", "least"]) (cap:=[none,none,some 4,some 5]) rfl (dO (so:=aD gE) (NN:=oU) rfl rfl (by decide +kernel)) (b5O B.b_enumerate (aA 1)) rfl (λ_ _ _ _=>(lZ rfl (bC 0 nd2 (bC 1 nd2 gO)))) (λ_ _ _ _=>(pC (DW.dt (a4W (dL a8B (aA 3) (aA 1)) (a0O (DW.dt (b6G (lY (aA 2)) (b3a (dL a0s (aA 1) (aA 2)))))))))) (λ_ _ _ _=>aA 0)) (aI (yX 3 (fQ (aB (aA 5) (aB (aA 6) aG)))) (aN (cG 4 eE.nd (aA 5)))))) (uG 3 (aN (aR (aA 3)))))))
abbrev oN:Stmt:=top 2
def a5t:FnScope ["sheet", "moment"] ["sheet", "moment"] (aD oN):=fS
def a7P (D:Def K mg "names_at" oN) (B:Blt mg): a2s P w K mg base:=by
 refine aS 2 2 D a5t rfl rfl (λ_ _ _ _ _ _ us hl=>by obtain ⟨_,_,rfl⟩:=a5U hl;rfl) (λfa cdv A outer s H E hr=>?_);have nd1:(["name", "begin", "end", "moment"]:T0q).Nodup:=by decide +kernel
 exact (aN (aR (dG (N':=["name", "begin", "end", "moment"]) (cap:=[none,none,none,some 1]) rfl (dO (so:=aD oN) (NN:=["sheet", "moment"]) rfl rfl (by decide +kernel)) (dE (aA 0)) rfl (λ_ _ _ _=>(lZ rfl (bC 0 nd1 (bC 1 nd1 (bC 2 nd1 gO))))) (λ_ _ _ _=>(pC (b8z a8B a0s (aA 1) (aA 3) (aA 2)))) (λ_ _ _ _=>aA 0))))
abbrev xZ:Stmt:=top 4
def a7e:FnScope ["sheet", "moment"] ["sheet", "moment"] (aD xZ):=fS
def b0w (D:Def K mg "load_at" xZ) (B:Blt mg) (YY:a2s P w K mg base):a4a P w K mg base:=by
 refine aS 2 2 D a7e rfl rfl (λ_ _ _ _ _ _ us hl=>by obtain ⟨_,_,rfl⟩:=a5U hl;rfl) (λfa cdv A outer s H E hr=>?_);exact (aN (aR (bI gJ B.b_len ub (aB (aP YY hr.m (aB (aA 0) (aB (aA 1) aG))) aG))))
abbrev gF:Stmt:=top 5
def a0D:FnScope ["sheet"] ["sheet"] (aD gF):=fS
def a2g (D:Def K mg "most_at_once" gF) (B:Blt mg) (YQ:a4a P w K mg base):gS P w K mg base:=by
 refine aS 1 1 D a0D rfl rfl (λ_ _ _ _ _ _ us hl=>by obtain ⟨_,rfl⟩:=a0H hl;rfl) (λfa cdv A outer s H E hr=>?_);have nd1:(["name", "begin", "end", "sheet"]:T0q).Nodup:=by decide +kernel
 exact (aN (aR (b3u rfl B.b_max (dG (N':=["name", "begin", "end", "sheet"]) (cap:=[none,none,none,some 0]) rfl (dO (so:=aD gF) (NN:=["sheet"]) rfl rfl (by decide +kernel)) (dE (aA 0)) rfl (λ_ _ _ _=>(lZ rfl (bC 0 nd1 (bC 1 nd1 (bC 2 nd1 gO))))) (λ_ _ _ _=>fJ) (λ_ _ _ _=>(aP YQ hr.m (aB (aA 3) (aB (aA 1) aG))))) aL)))
abbrev sL:Stmt:=top 17
noncomputable abbrev a3g:List Str:=["shelves", "meetings", "heads", "many", "least", "rooms"]
def lJ:FnScope a3g ["shelves", "meetings", "heads"] (aD sL):=fS
def b0v (D:Def K mg "may_fit" sL) (B:Blt mg) (YX:gS P w K mg base):a0o P w K mg base:=by
 refine aS 6 3 D lJ rfl rfl (λ_ _ _ _ _ _ us hl=>by obtain ⟨_,_,_,rfl⟩:=a2A hl;rfl) (λfa cdv A outer s H E hr=>?_);have nd1:(["meeting", "heads", "least"]:T0q).Nodup:=by decide +kernel
 exact (aI (cG 3 lJ.nd aL) (aI (iA jM rfl (dE (aA 0)) (lZ rfl (bC 4 lJ.nd (bC 5 lJ.nd gO))) (aI (b3g 3 lJ.nd (bI gJ B.b_len ub (aB (aA 5) aG))) (aN (fU (dL c0a (aP YX hr.m (aB (dG (N':=["meeting", "heads", "least"]) (cap:=[none,some 2,some 4]) rfl (dO (so:=aD sL) (NN:=a3g) rfl rfl (by decide +kernel)) (dE (aA 1)) rfl (λ_ _ _ _=>cA 0 nd1) (λ_ _ _ _=>(pC (dL c0b (yZ (aA 1) (bP (aA 0) aL)) (aA 2)))) (λ_ _ _ _=>aA 0)) aG)) (aA 3)) (aN (aR fK)) eC)))) (aN (aR fK))))
abbrev gG:Stmt:=a6r (top 14) 2
def tX:FnScope ["self"] ["self"] (aD gG):=fS
def xF (D:FDef K "without_first" gG) (B:Blt mg) (FC:FCls K) (YW:FMk P w K mg base 1): mY P w K mg base:=by
 refine sQ 1 D tX rfl (λ_ _ _ _ _ _ us hl=>by obtain ⟨_,rfl⟩:=a0H hl;rfl) (λfa cdv A outer s H E hr=>?_);exact (aN (aR (a4X YW hr.m (aB (bR 0 FC FC.n1 (aA 0)) (aB (bR 1 FC FC.n2 (aA 0)) (aB (b3s (bR 2 FC FC.n3 (aA 0)) (uY aL) uZ) (aB (aZ bS (bR 3 FC FC.n4 (aA 0)) (b3r (bR 2 FC FC.n3 (aA 0)) uZ (uY aL))) aG)))))))
abbrev lK:Stmt:=a6r (top 14) 1
def a0E:FnScope ["self"] ["self"] (aD lK):=fS
def a2h (D:FDef K "with_first" lK) (B:Blt mg) (FC:FCls K) (YW:FMk P w K mg base 1): rZ P w K mg base:=by
 refine sQ 1 D a0E rfl (λ_ _ _ _ _ _ us hl=>by obtain ⟨_,rfl⟩:=a0H hl;rfl) (λfa cdv A outer s H E hr=>?_);exact (aN (aR (a4X YW hr.m (aB (bR 0 FC FC.n1 (aA 0)) (aB (aZ bS (bR 1 FC FC.n2 (aA 0)) (b3r (bR 2 FC FC.n3 (aA 0)) uZ (uY aL))) (aB (b3s (bR 2 FC FC.n3 (aA 0)) (uY aL) uZ) (aB (bR 3 FC FC.n4 (aA 0)) aG)))))))
abbrev gX:Stmt:=top 18
noncomputable abbrev yF:List Str:=["shelves", "heads", "filling", "least", "rooms", "below", "told"]
def cZ:FnScope yF ["shelves", "heads", "filling"] (aD gX):=fS
def a0d (D:Def K mg "ways_for_first" gX) (B:Blt mg) (FC:FCls K) (YU:mY P w K mg base) (YV:a0o P w K mg base) (YT:rZ P w K mg base) (YX:gS P w K mg base):oG P w K mg base:=by
 refine aS 7 3 D cZ rfl rfl (λ_ _ _ _ _ _ us hl=>by obtain ⟨_,_,_,rfl⟩:=a2A hl;rfl) (λfa cdv A outer s H E hr=>?_);exact (aI (cG 3 cZ.nd (bP (bP (aA 0) (bI gJ B.b_len ub (aB (bR 0 FC FC.n1 (aA 2)) aG))) aL)) (aI (cG 4 cZ.nd (bP (bP (aA 0) (bI gJ B.b_len ub (aB (bR 0 FC FC.n1 (aA 2)) aG))) aL)) (aI (cG 5 cZ.nd (b3s (aA 0) (uY (aZ bS (bI gJ B.b_len ub (aB (bR 0 FC FC.n1 (aA 2)) aG)) aL)) uZ)) (aI (yW 6 cZ.nd aG) (aI (fU (DW.dt (a4W (dL a0s (yZ (aA 1) (bP (bP (bR 2 FC FC.n3 (aA 2)) aL) aL)) (aA 3)) (a0O (pD (aP YV hr.m (aB (aA 5) (aB (bR 3 FC FC.n4 (mC FC YU hr.m (aA 2))) (aB (aA 1) aG)))))))) (aN (yX 6 (mC FC YU hr.m (aA 2)))) eC) (aI (fU (dL a8B (aP YX hr.m (aB (bR 1 FC FC.n2 (mC FC YT hr.m (aA 2))) aG)) (bI gJ B.b_len ub (aB (aA 4) aG))) (aN (yX 6 (mC FC YT hr.m (aA 2)))) eC) (uG 6 (aN (aR (aA 6))))))))))
abbrev lL:Stmt:=a6r (top 14) 3
def a0F:FnScope ["self"] ["self"] (aD lL):=fS
def a2i (D:FDef K "a_shelf_on" lL) (B:Blt mg) (FC:FCls K) (YW:FMk P w K mg base 1): sB P w K mg base:=by
 refine sQ 1 D a0F rfl (λ_ _ _ _ _ _ us hl=>by obtain ⟨_,rfl⟩:=a0H hl;rfl) (λfa cdv A outer s H E hr=>?_);exact (aN (aR (a4X YW hr.m (aB (aZ bS (bR 0 FC FC.n1 (aA 0)) (fQ (aB (bR 1 FC FC.n2 (aA 0)) aG))) (aB (fQ aG) (aB (bR 3 FC FC.n4 (aA 0)) (aB (fQ aG) aG)))))))
abbrev sJ:Stmt:=top 19
noncomputable abbrev a3f:List Str:=["shelves", "heads", "filling", "rooms"]
def a1i:FnScope a3f ["shelves", "heads", "filling"] (aD sJ):=fS
def b0s (D:Def K mg "ways_on" sJ) (B:Blt mg) (FC:FCls K) (Yc:oG P w K mg base) (YX:gS P w K mg base) (YR:sB P w K mg base):a3X P w K mg base:=by
 refine aS 4 3 D a1i rfl rfl (λ_ _ _ _ _ _ us hl=>by obtain ⟨_,_,_,rfl⟩:=a2A hl;rfl) (λfa cdv A outer s H E hr=>?_);have nd1:(["meeting", "filling", "rooms"]:T0q).Nodup:=by decide +kernel
 exact (aI (fU (pD (bR 2 FC FC.n3 (aA 2))) (aN (aR (aP Yc hr.m (aB (aA 0) (aB (aA 1) (aB (aA 2) aG)))))) eC) (aI (cG 3 a1i.nd (bP (bP (aA 0) (bI gJ B.b_len ub (aB (bR 0 FC FC.n1 (aA 2)) aG))) aL)) (aI (fU (pD (bI (b8R rfl) B.b_any boot_any (aB (dG (N':=["meeting", "filling", "rooms"]) (cap:=[none,some 2,some 3]) rfl (dO (so:=aD sJ) (NN:=a3f) rfl rfl (by decide +kernel)) (dE (bR 3 FC FC.n4 (aA 2))) rfl (λ_ _ _ _=>cA 0 nd1) (λ_ _ _ _=>fJ) (λ_ _ _ _=>(a0a a8B (aP YX hr.m (aB (aZ bS (bR 1 FC FC.n2 (aA 1)) (fQ (aB (aA 0) aG))) aG)) (bI gJ B.b_len ub (aB (aA 2) aG))))) aG))) (aN (aR (iB aG))) eC) (aN (aR (iB (aB (mC FC YR hr.m (aA 2)) aG)))))))
abbrev oQ:Stmt:=top 15
def a5u:FnScope ["sheet", "heads"] ["sheet", "heads"] (aD oQ):=fS
def a7Q (D:Def K mg "by_heads" oQ) (B:Blt mg) (kb:K.In base) (nb:base.Ns j6 mg) (M:BM mg base) (ht:jh K "by_heads" = some (c,T)) (hC:kQ K c T=true): a2u P w K mg base:=by
 refine a0C 2 2 D a5u rfl rfl kb nb ht (λ_ _ _ _ _ _ us hl=>by obtain ⟨_,_,rfl⟩:=a5U hl;rfl) (λfa A outer s H E hr=>?_);exact (aN (aR (rR a6S B.b_tuple boot_tuple (aB (b3q (k:=1) (N':=["heads"]) (cap:=[some 1]) (y := "meeting") (by unfold fC;simp) ht rfl rfl hC M hr.m B.b_sorted (aA 0) (dO (so:=aD oQ) (NN:=["sheet", "heads"]) rfl rfl (by decide +kernel)) rfl rfl (by decide +kernel) rfl (λf c cl A outer s H hr=>(fQ (aB (b3t (yZ (aA 1) (bP (aA 0) aL))) (aB (aA 0) aG))))) aG))))
abbrev a1j:Stmt:=a6r (top 14) 4
def a9t:FnScope ["self"] ["self"] (aD a1j):=fS
def b3C (D:FDef K "mark" a1j) (B:Blt mg) (FC:FCls K): a6E P w K mg base:=by
 refine sQ 1 D a9t rfl (λ_ _ _ _ _ _ us hl=>by obtain ⟨_,rfl⟩:=a0H hl;rfl) (λfa cdv A outer s H E hr=>?_);exact (aN (aR (fQ (aB (bI gJ B.b_len ub (aB (bR 0 FC FC.n1 (aA 0)) aG)) (aB (bR 1 FC FC.n2 (aA 0)) (aB (bR 2 FC FC.n3 (aA 0)) (aB (bR 3 FC FC.n4 (aA 0)) aG)))))))
abbrev gY:Stmt:=top 20
noncomputable abbrev yG:List Str:=["shelves", "sheet", "heads", "seen", "stack", "filling", "way"]
def dA:FnScope yG ["shelves", "sheet", "heads"] (aD gY):=fS
def a0e (D:Def K mg "filled_shelves" gY) (B:Blt mg) (FC:FCls K) (YW:FMk P w K mg base 1) (YA:a2u P w K mg base) (Yd:a3X P w K mg base) (YS:a6E P w K mg base):oH P w K mg base:=by
 refine aS 7 3 D dA rfl rfl (λ_ _ _ _ _ _ us hl=>by obtain ⟨_,_,_,rfl⟩:=a2A hl;rfl) (λfa cdv A outer s H E hr=>?_);exact (aI (b3e 3 dA.nd) (aI (yW 4 dA.nd (aB (a4X YW hr.m (aB (fQ aG) (aB (fQ aG) (aB (aP YA hr.m (aB (aA 1) (aB (aA 2) aG))) (aB (fQ aG) aG))))) aG)) (aI (a6k 20000 jM (c0f (pD (aA 4))) (aI (b5K 4 5 dA.nd) (aI (fU (dL (a6g hr.units) (bI gJ B.b_len ub (aB (bR 0 FC FC.n1 (aA 5)) aG)) (bI gJ B.b_len ub (aB (aA 0) aG))) (aN (aR (bR 0 FC FC.n1 (aA 5)))) eC) (aN (iA jM rfl (dE (aP Yd hr.m (aB (aA 0) (aB (aA 2) (aB (aA 5) aG))))) (cA 6 dA.nd) (aN (fU (b1L 3 hr.units (mC FC YS hr.m (aA 6))) (aI (b3c 3 hr.units fK (mC FC YS hr.m (aA 6))) (aN (yX 4 (aA 6)))) eC))))))) (aN (aR mW)))))
abbrev xY:Stmt:=top 1
def a7d:FnScope ["one", "other"] ["one", "other"] (aD xY):=fS
def b0u (D:Def K mg "overlap" xY) (B:Blt mg): a3Z P w K mg base:=by
 refine aS 2 2 D a7d rfl rfl (λ_ _ _ _ _ _ us hl=>by obtain ⟨_,_,rfl⟩:=a5U hl;rfl) (λfa cdv A outer s H E hr=>?_);exact (aN (aR (a0a a0s (bI (a7q rfl) B.b_max boot_max (aB (bP (aA 0) aL) (aB (bP (aA 1) aL) aG))) (bI (b2b rfl) B.b_min boot_min (aB (bP (aA 0) aL) (aB (bP (aA 1) aL) aG))))))
abbrev oP:Stmt:=top 9
def nD:FnScope ["taken", "column"] ["taken"] (aD oP):=fS
def a5f (D:Def K mg "first_free" oP) (B:Blt mg): xQ P w K mg base:=by
 refine aS 2 1 D nD rfl rfl (λ_ _ _ _ _ _ us hl=>by obtain ⟨_,rfl⟩:=a0H hl;rfl) (λfa cdv A outer s H E hr=>?_);exact (aI (cG 1 nD.nd aL) (aI (a6k 1000 jM (dL (b2z hr.units1) (aA 1) (aA 0)) (aN (b3g 1 nD.nd aL))) (aN (aR (aA 1)))))
abbrev fH:Stmt:=top 10
noncomputable abbrev pN:List Str:=["sheet", "laid", "meeting", "taken"]
def eV:FnScope pN ["sheet"] (aD fH):=fS
def a0J (D:Def K mg "laid_meetings" fH) (B:Blt mg) (YH:gT P w K mg base) (YZ:a3Z P w K mg base) (YD:xQ P w K mg base):pP P w K mg base:=by
 refine aS 4 1 D eV rfl rfl (λ_ _ _ _ _ _ us hl=>by obtain ⟨_,rfl⟩:=a0H hl;rfl) (λfa cdv A outer s H E hr=>?_);have nd1:(["other", "column", "meeting"]:T0q).Nodup:=by decide +kernel
 exact (aI (yW 1 eV.nd aG) (aI (iA jM rfl (dE (aP YH hr.m (aB (aA 0) aG))) (cA 2 eV.nd) (aI (b3b 3 eV.nd (N':=["other", "column", "meeting"]) (cap:=[none,none,some 2]) rfl (dO (so:=aD fH) (NN:=pN) rfl rfl (by decide +kernel)) (dE (aA 1)) rfl (λ_ _ _ _=>(lZ rfl (bC 0 nd1 (bC 1 nd1 gO)))) (λ_ _ _ _=>(pC (pD (aP YZ hr.m (aB (aA 2) (aB (aA 0) aG)))))) (λ_ _ _ _=>aA 1)) (aN (yX 1 (fQ (aB (aA 2) (aB (aP YD hr.m (aB (aA 3) aG)) aG))))))) (uG 1 (aN (aR (aA 1))))))
abbrev sM:Stmt:=top 11
def a7f:FnScope ["sheet"] ["sheet"] (aD sM):=fS
def b0y (D:Def K mg "columns" sM) (B:Blt mg) (YO:pP P w K mg base):a4c P w K mg base:=by
 refine a6v 1 1 D a7f rfl rfl (λ_ _ _ _ _ _ us hl=>by obtain ⟨_,rfl⟩:=a0H hl;rfl) rfl B.b_dict (λfa cdv A outer s H E hr=>⟨?_,rfl,rfl,rfl,rfl⟩);have nd1:(["meeting", "column"]:T0q).Nodup:=by decide +kernel
 exact (dG (N':=["meeting", "column"]) (cap:=[none,none]) rfl (dO (so:=aD sM) (NN:=["sheet"]) rfl rfl (by decide +kernel)) (dE (aP YO hr.m (aB (aA 0) aG))) rfl (λ_ _ _ _=>(lZ rfl (bC 0 nd1 (bC 1 nd1 gO)))) (λ_ _ _ _=>fJ) (λ_ _ _ _=>(fQ (aB (bP (aA 0) aL) (aB (aA 1) aG)))))
abbrev oO:Stmt:=top 21
noncomputable abbrev a4x:List Str:=["sheet", "sizes", "heads", "shelves", "filled", "plan", "shelf", "meetings", "name", "column"]
def cL:FnScope a4x ["sheet", "sizes", "heads"] (aD oO):=fS
def a5e (D:Def K mg "group_plan" oO) (B:Blt mg) (Yb:xO P w K mg base) (YV:a0o P w K mg base) (YC:oH P w K mg base) (YB:a4c P w K mg base):xP P w K mg base:=by
 refine aS 10 3 D cL rfl rfl (λ_ _ _ _ _ _ us hl=>by obtain ⟨_,_,_,rfl⟩:=a2A hl;rfl) (λfa cdv A outer s H E hr=>?_);exact (aI (cG 3 cL.nd (aP Yb hr.m (aB (aA 0) (aB (aA 1) (aB (aA 2) aG))))) (aI (cG 4 cL.nd (c0h (pD (aP YV hr.m (aB (aA 3) (aB (aA 0) (aB (aA 2) aG))))) (aP YC hr.m (aB (aA 3) (aB (aA 0) (aB (aA 2) aG)))) mW)) (aI (fU (lY (aA 4)) (aN (aR mW)) eC) (aI (a8U 5 cL.nd) (aI (iA jM rfl (b8E B.b_zip (aA 3) (aA 4)) (lZ rfl (bC 6 cL.nd (bC 7 cL.nd gO))) (aN (iA jM rfl (b3m YB hr.m (aB (aA 7) aG)) (lZ rfl (bC 8 cL.nd (bC 9 cL.nd gO))) (aN (b5J 5 hr.units (bP (bP (aA 6) aL) (aA 9)) (aA 8)))))) (uG 5 (aN (aR (aA 5)))))))))
abbrev sK:Stmt:=top 12
def a7c:FnScope ["sheet", "names"] ["sheet", "names"] (aD sK):=fS
def b0t (D:Def K mg "part_of" sK) (B:Blt mg): a3Y P w K mg base:=by
 refine aS 2 2 D a7c rfl rfl (λ_ _ _ _ _ _ us hl=>by obtain ⟨_,_,rfl⟩:=a5U hl;rfl) (λfa cdv A outer s H E hr=>?_);have nd1:(["meeting", "names"]:T0q).Nodup:=by decide +kernel
 exact (aN (aR (rR a6S B.b_tuple boot_tuple (aB (dG (N':=["meeting", "names"]) (cap:=[none,some 1]) rfl (dO (so:=aD sK) (NN:=["sheet", "names"]) rfl rfl (by decide +kernel)) (dE (aA 0)) rfl (λ_ _ _ _=>cA 0 nd1) (λ_ _ _ _=>(pC (dL (b2z hr.units1) (bP (aA 0) aL) (aA 1)))) (λ_ _ _ _=>aA 0)) aG))))
abbrev lM:Stmt:=top 22
noncomputable abbrev a1w:List Str:=["sheet", "sizes", "heads", "told", "group", "plan"]
def fG:FnScope a1w ["sheet", "sizes", "heads"] (aD lM):=fS
def a2j (D:Def K mg "fitting_plan" lM) (B:Blt mg) (YG:a6J P w K mg base) (Ya:a3Y P w K mg base) (YF:xP P w K mg base):sC P w K mg base:=by
 refine aS 6 3 D fG rfl rfl (λ_ _ _ _ _ _ us hl=>by obtain ⟨_,_,_,rfl⟩:=a2A hl;rfl) (λfa cdv A outer s H E hr=>?_);exact (aI (a8U 3 fG.nd) (aI (iA jM rfl (dE (aP YG hr.m (aB (aA 0) aG))) (cA 4 fG.nd) (aI (cG 5 fG.nd (aP YF hr.m (aB (aP Ya hr.m (aB (aA 0) (aB (aA 4) aG))) (aB (aA 1) (aB (aA 2) aG))))) (aI (fU (lY (aA 5)) (aN (aR mW)) eC) (aN (b8A 3 (aA 5)))))) (uG 3 (aN (aR (aA 3))))))
abbrev a1l:Stmt:=top 27
noncomputable abbrev b1W:List Str:=["_law_one", "_law_other"]
def a9v:FnScope b1W ["_law_one", "_law_other"] (aD a1l):=fS
def b3E (D:Def K mg "_law_over" a1l) (B:Blt mg): a6F P w K mg base:=by
 refine aS 2 2 D a9v rfl rfl (λ_ _ _ _ _ _ us hl=>by obtain ⟨_,_,rfl⟩:=a5U hl;rfl) (λfa cdv A outer s H E hr=>?_);exact (aN (aR (a0a a0s (bI (a7q rfl) B.b_max boot_max (aB (bP (aA 0) aL) (aB (bP (aA 1) aL) aG))) (bI (b2b rfl) B.b_min boot_min (aB (bP (aA 0) aL) (aB (bP (aA 1) aL) aG))))))
abbrev uL:Stmt:=top 30
noncomputable abbrev a5G:List Str:=["_law_sheet_here", "_law_sizes", "_law_heads", "_law_plan", "_law_k", "_law_one"]
def xX:FnScope a5G ["_law_sheet_here", "_law_sizes", "_law_heads", "_law_plan"] (aD uL):=fS
def b3G (D:Def K mg "_law_fits" uL) (B:Blt mg) (YL:a6F P w K mg base):a6H P w K mg base:=by
 refine aS 6 4 D xX rfl rfl (λ_ _ _ _ _ _ us hl=>by obtain ⟨_,_,_,_,rfl⟩:=b9N hl;rfl) (λfa cdv A outer s H E hr=>?_);have nd1:(["_law_j", "_law_k", "_law_one", "_law_plan", "_law_sheet_here"]:T0q).Nodup:=by decide +kernel
 exact (aI (iA jM rfl (a6m B.b_enumerate (aA 0)) (lZ rfl (bC 4 xX.nd (bC 5 xX.nd gO))) (aI (fU (dL a0s (bP (aA 1) (bP (aA 3) (aA 4))) (yZ (aA 2) (bP (aA 5) aL))) (aN (aR fK)) eC) (aN (fU (dL (b1U hr.units) (dG (N':=["_law_j", "_law_k", "_law_one", "_law_plan", "_law_sheet_here"]) (cap:=[none,some 4,some 5,some 3,some 0]) rfl (dO (so:=aD uL) (NN:=a5G) rfl rfl (by decide +kernel)) (uX B.b_range (aA 4)) rfl (λ_ _ _ _=>cA 0 nd1) (λ_ _ _ _=>(pC (DW.dt (a4W (dL (a6g hr.units) (bP (aA 3) (aA 0)) (bP (aA 3) (aA 1))) (a0O (pD (aP YL hr.m (aB (bP (aA 4) (aA 0)) (aB (aA 2) aG))))))))) (λ_ _ _ _=>aA 0)) (iB aG)) (aN (aR fK)) eC)))) (aN (aR fK)))
abbrev fB:Stmt:=top 31
noncomputable abbrev iO:List Str:=["_law_script", "_law_sheet_here", "_law_sizes", "_law_heads", "_law_plans", "_law_one", "_law_longer", "_law_plan", "_law_some", "_law_told"]
def dH:FnScope iO ["_law_script"] (aD fB):=fS
def b3F (D:Def K mg "_law_once" fB) (B:Blt mg) (YN:a4b P w K mg base) (YM:a2t P w K mg base) (YJ:a6H P w K mg base) (YE:sC P w K mg base):a6G P w K mg base:=by
 refine aS 10 1 D dH rfl rfl (λ_ _ _ _ _ _ us hl=>by obtain ⟨_,rfl⟩:=a0H hl;rfl) (λfa cdv A outer s H E hr=>?_);have nd1:(["_law_k", "_law_script"]:T0q).Nodup:=by decide +kernel
 have nd2:(["_law_k", "_law_one", "_law_script"]:T0q).Nodup:=by decide +kernel
 have nd3:(["_law_room", "_law_plan"]:T0q).Nodup:=by decide +kernel
 have nd4:(["_law_plan", "_law_heads", "_law_sheet_here", "_law_sizes"]:T0q).Nodup:=by decide +kernel
 have nd5:(["_law_one"]:T0q).Nodup:=by decide +kernel
 have nd6:(["_law_one", "_law_told"]:T0q).Nodup:=by decide +kernel
 have nd7:(["_law_size"]:T0q).Nodup:=by decide +kernel
 exact (aI (cG 1 dH.nd (aP YN hr.m (aB (aA 0) (aB aL (aB aL aG))))) (aI (cG 2 dH.nd (dG (N':=["_law_k", "_law_script"]) (cap:=[none,some 0]) rfl (dO (so:=aD fB) (NN:=iO) rfl rfl (by decide +kernel)) (uX B.b_range (aP YM hr.m (aB (aA 0) (aB aL (aB aL aG))))) rfl (λ_ _ _ _=>cA 0 nd1) (λ_ _ _ _=>fJ) (λ_ _ _ _=>(aZ bS aL (aP YM hr.m (aB (aA 1) (aB (aZ bS aL (aA 0)) (aB aL aG)))))))) (aI (cG 3 dH.nd (rR (b5N rfl) B.b_dict boot_dict (aB (dG (N':=["_law_k", "_law_one", "_law_script"]) (cap:=[none,none,some 0]) rfl (dO (so:=aD fB) (NN:=iO) rfl rfl (by decide +kernel)) (a6m B.b_enumerate (aA 1)) rfl (λ_ _ _ _=>(lZ rfl (bC 0 nd2 (bC 1 nd2 gO)))) (λ_ _ _ _=>fJ) (λ_ _ _ _=>(fQ (aB (bP (aA 1) aL) (aB (aZ bS aL (aP YM hr.m (aB (aA 2) (aB (aZ bS aL (aA 0)) (aB aL aG))))) aG))))) aG))) (aI (cG 4 dH.nd (iB (aB (iB aG) aG))) (aI (iA jM rfl (dE (aA 1)) (cA 5 dH.nd) (aI (yW 6 dH.nd aG) (aI (iA jM rfl (dE (aA 4)) (cA 7 dH.nd) (aN (b5M 6 (dG (N':=["_law_room", "_law_plan"]) (cap:=[none,some 7]) rfl (dO (so:=aD fB) (NN:=iO) rfl rfl (by decide +kernel)) (uX B.b_range (bI gJ B.b_len ub (aB (aA 2) aG))) rfl (λ_ _ _ _=>cA 0 nd3) (λ_ _ _ _=>fJ) (λ_ _ _ _=>(aZ bS (aA 1) (iB (aB (aA 0) aG)))))))) (uG 6 (aN (cG 4 dH.nd (aA 6))))))) (aI (a8T 8 dH.nd (N':=["_law_plan", "_law_heads", "_law_sheet_here", "_law_sizes"]) (cap:=[none,some 3,some 1,some 2]) rfl (dO (so:=aD fB) (NN:=iO) rfl rfl (by decide +kernel)) (dE (aA 4)) rfl (λ_ _ _ _=>cA 0 nd4) (λ_ _ _ _=>(pC (pD (aP YJ hr.m (aB (aA 2) (aB (aA 3) (aB (aA 1) (aB (aA 0) aG)))))))) (λ_ _ _ _=>aA 0)) (aI (cG 9 dH.nd (aP YE hr.m (aB (aA 1) (aB (aA 2) (aB (aA 3) aG))))) (aI (fU (dL (b1U hr.units) (a7L (aA 9)) (a0a (a6g hr.units) (aA 8) (iB aG))) (aN (aR fK)) eC) (aI (fU (lY (aA 9)) (aN (aR fK)) eC) (aI (fU (DW.dt (b6G (dL (b1U hr.units) (bI a8b B.b_sorted boot_sorted (aB (rR (b5g rfl) B.b_list boot_list (aB (aA 9) aG)) aG)) (dG (N':=["_law_one"]) (cap:=[none]) rfl (dO (so:=aD fB) (NN:=iO) rfl rfl (by decide +kernel)) (dE (aA 1)) rfl (λ_ _ _ _=>cA 0 nd5) (λ_ _ _ _=>fJ) (λ_ _ _ _=>(bP (aA 0) aL)))) (b3a (dL (b4U hr.units1) (dG (N':=["_law_one", "_law_told"]) (cap:=[none,some 9]) rfl (dO (so:=aD fB) (NN:=iO) rfl rfl (by decide +kernel)) (dE (aA 1)) rfl (λ_ _ _ _=>cA 0 nd6) (λ_ _ _ _=>fJ) (λ_ _ _ _=>(yZ (aA 1) (bP (aA 0) aL)))) (aA 8))))) (aN (aR fK)) eC) (aI (fU (lY (aP YE hr.m (aB (aA 1) (aB (aZ bS (aA 2) (iB (aB aL aG))) (aB (aA 3) aG))))) (aN (aR fK)) eC) (aN (aR (a2E (aP YE hr.m (aB (aA 1) (aB (dG (N':=["_law_size"]) (cap:=[none]) rfl (dO (so:=aD fB) (NN:=iO) rfl rfl (by decide +kernel)) (dE (aA 2)) rfl (λ_ _ _ _=>cA 0 nd7) (λ_ _ _ _=>fJ) (λ_ _ _ _=>(aZ bS (aA 0) aL))) (aB (aA 3) aG))))))))))))))))))
abbrev tL:Stmt:=top 32
noncomputable abbrev b6x:List Str:=["_law_script", "_law_turn"]
def b1h:FnScope b6x ["_law_script"] (aD tL):=fS
def c0k (Fu:Fun K "law" "law" tL fa fd) (B:Blt mg) (YK:a6G P w K mg base):FnOk P w K mg base CX0 11 fa fd ["_law_script"] (spD K λds d=>(F_law w) ds=some (.ok d)):=by
 refine b2P 2 1 Fu b1h rfl rfl (λcdv A outer s H E hr=>?_);have nd1:(["_law_cell_here", "_law_turn"]:T0q).Nodup:=by decide +kernel
 exact (aI (iA jM rfl (uX B.b_range aL) (cA 1 b1h.nd) (aI (fU (b8y (pD (aP YK hr.m (aB (dG (N':=["_law_cell_here", "_law_turn"]) (cap:=[none,some 1]) rfl (dO (so:=aD tL) (NN:=b6x) rfl rfl (by decide +kernel)) (dE (aA 0)) rfl (λ_ _ _ _=>cA 0 nd1) (λ_ _ _ _=>fJ) (λ_ _ _ _=>(aZ bS (aA 0) (aZ rD aL (aA 1))))) aG)))) (aN (aR fK)) eC) (aN (fU (dL (a6g hr.units) (aA 0) (iB aG)) (aN b8B) eC)))) (aN (aR fK)))
end
def blt_mk {K:qB} {h:Heap} (X:K.In h) (G:h.Ns j6 mg) (z0:jD K j6 "any" = some none) (z1:jD K j6 "dict" = some none) (z2:jD K j6 "enumerate" = some none) (z3:jD K j6 "len" = some none) (z4:jD K j6 "list" = some none) (z5:jD K j6 "max" = some none) (z6:jD K j6 "min" = some none) (z7:jD K j6 "range" = some none) (z8:jD K j6 "reversed" = some none) (z9:jD K j6 "set" = some none) (z10:jD K j6 "sorted" = some none) (z11:jD K j6 "tuple" = some none) (z12:jD K j6 "zip" = some none): Blt mg:=
 ⟨jE X G z0,jE X G z1,jE X G z2,jE X G z3,jE X G z4,jE X G z5,jE X G z6,jE X G z7,jE X G z8,jE X G z9,jE X G z10,jE X G z11,jE X G z12⟩
def law_mk {l:PySem.W.OpenLaw} {K:qB} {h:Heap} {f4:Addr} (X:K.In h) (G:h.Ns j6 mg) (hfa:mg "law" = some (.ref fa)) {od4 an4:T0k} {sl4:Array (Option Value)} {oc4 kV4 dc4 pm4 cd4 ct4:Value} 
  (B:Blt mg) (D0:Def K mg "_law_cell" a1m) (D1:Def K mg "_law_pick" a1k) (D2:Def K mg "_law_sheet" yA) (D3:Def K mg "in_laying_order" gH) (D4:Def K mg "groups" uM) (D5:Def K mg "shelves_of" gE) (D6:Def K mg "names_at" oN) (D7:Def K mg "load_at" xZ) (D8:Def K mg "most_at_once" gF) (D9:Def K mg "may_fit" sL) (D10:FDef K "without_first" gG) (D11:FDef K "with_first" lK) (D12:Def K mg "ways_for_first" gX) (D13:FDef K "a_shelf_on" lL) (D14:Def K mg "ways_on" sJ) (D15:Def K mg "by_heads" oQ) (D16:FDef K "mark" a1j) (D17:Def K mg "filled_shelves" gY) (D18:Def K mg "overlap" xY) (D19:Def K mg "first_free" oP) (D20:Def K mg "laid_meetings" fH) (D21:Def K mg "columns" sM) (D22:Def K mg "group_plan" oO) (D23:Def K mg "part_of" sK) (D24:Def K mg "fitting_plan" lM) (D25:Def K mg "_law_over" a1l) (D26:Def K mg "_law_fits" uL) (D27:Def K mg "_law_once" fB) (FC:FCls K) (FI:FIn K a5v) (tb0:jh K "in_laying_order" = some (44,40)) (hC0:kQ K 44 40=true) (tb1:jh K "by_heads" = some (127,123)) (hC1:kQ K 127 123=true)
  (a4:jD K j6 "law" = some (some (.ref f4))) (l4:K.lookup f4=some ⟨oc4,od4,.func (je "law" "law" (eJ tL) (bN tL) (aD tL) .none kV4 dc4 pm4 an4 cd4 ct4),sl4⟩) (c4:zN K cd4 "law" = true) (k4:jp K (.ref f4)=true):
  ∃ fd:yk,(∀ (s:Shared) (v:Value),BindsTo s fd ⟨[v],[]⟩ [("_law_script", v)])/\∀ base:Heap,K.In base->base.Ns j6 mg->BM mg base->FnOk l.prog w K mg base CX0 11 fa fd ["_law_script"] (spD K λds d=>F_law w ds=some (.ok d)):=by
 have e:=hfa.symm.trans (PySem.W.mg_of X G a4);cases e;refine ⟨je "law" "law" (eJ tL) (bN tL) (aD tL) .none kV4 dc4 pm4 an4 cd4 ct4,λs v=>.of_eq rfl,λbase kb nb M=>?_⟩;have YW:FMk l.prog w K mg base 1:=b5A X G FC FI a9u (by decide +kernel) rfl (λ_ _ _ _ _ _ us hl=>by obtain ⟨_,_,_,_,_,rfl⟩:=c1o hl;rfl);have YI:=b3H l.prog w base D0 B;have YM:=b3D l.prog w base D1 B  YI;have YN:=b0x l.prog w base D2 B  YM;have YH:=xG l.prog w base D3 B kb nb M tb0 hC0;have YG:=b3I l.prog w base D4 B  YH;have Yb:=a5d l.prog w base D5 B;have YY:=a7P l.prog w base D6 B;have YQ:=b0w l.prog w base D7 B  YY
 have YX:=a2g l.prog w base D8 B  YQ
 have YV:=b0v l.prog w base D9 B  YX;have YU:=xF l.prog w base D10 B FC YW;have YT:=a2h l.prog w base D11 B FC YW;have Yc:=a0d l.prog w base D12 B FC  YU YV YT YX;have YR:=a2i l.prog w base D13 B FC YW;have Yd:=b0s l.prog w base D14 B FC  Yc YX YR;have YA:=a7Q l.prog w base D15 B kb nb M tb1 hC1;have YS:=b3C l.prog w base D16 B FC;have YC:=a0e l.prog w base D17 B FC YW  YA Yd YS;have YZ:=b0u l.prog w base D18 B;have YD:=a5f l.prog w base D19 B;have YO:=a0J l.prog w base D20 B  YH YZ YD;have YB:=b0y l.prog w base D21 B  YO;have YF:=a5e l.prog w base D22 B  Yb YV YC YB;have Ya:=b0t l.prog w base D23 B;have YE:=a2j l.prog w base D24 B  YG Ya YF;have YL:=b3E l.prog w base D25 B;have YJ:=b3G l.prog w base D26 B  YL;have YK:=b3F l.prog w base D27 B  YN YM YJ YE;exact c0k l.prog w base (a4O (st:=tL) l4 c4 k4) B YK
end L2.L3
open PySem PySem.W PyProof.Rows
namespace PySem.W.Fast
def tw5460127224738207709:True:=⟨⟩
def tw2729551494353518043:True:=⟨⟩
def tw12886894189880765558:True:=⟨⟩
def tw14582843007743281656:True:=⟨⟩
def tw14170087835908882314:True:=⟨⟩
def tw12638962756139331497:True:=⟨⟩
def tw7261228729189344307:True:=⟨⟩
def tw11660277606654341141:True:=⟨⟩
def tw1107480194565601048:True:=⟨⟩
def tw12927612760391793564:True:=⟨⟩
def tw11278335773527363112:True:=⟨⟩
def tw16933759889874692735:True:=⟨⟩
def tw2391986576825747737:True:=⟨⟩
def tw748640054080809729:True:=⟨⟩
def tw12849375059517833566:True:=⟨⟩
def tw12542419433719875632:True:=⟨⟩
def tw4746957777814389005:True:=⟨⟩
def tw6032303537136547077:True:=⟨⟩
def tw7458958789028656697:True:=⟨⟩
def tw15325253113628373102:True:=⟨⟩
def tw10061900119683558732:True:=⟨⟩
def tw8260156062010830406:True:=⟨⟩
def tw18400725745685097674:True:=⟨⟩
def tw11460967591791454725:True:=⟨⟩
def tw8256745605184944498:True:=⟨⟩
def tw11437891445492206524:True:=⟨⟩
def tw5093664237099012150:True:=⟨⟩
def tw4592981840761830818:True:=⟨⟩
def tw3867843970864279785:True:=⟨⟩
def tw8932761260040846997:True:=⟨⟩
def tw9404863765374353393:True:=⟨⟩
def tw7069971374544405274:True:=⟨⟩
def tw2383345650205355509:True:=⟨⟩
def tw10048931597108559438:True:=⟨⟩
def tw10326632046448883153:True:=⟨⟩
def tw1003147059337793793:True:=⟨⟩
def tw17165687758155684908:True:=⟨⟩
def tw3954284388478365300:True:=⟨⟩
def tw9523319513392703805:True:=⟨⟩
def tw13414965671068133377:True:=⟨⟩
def tw11046547008729669776:True:=⟨⟩
def tw1957636671365315827:True:=⟨⟩
def tw8897123824137743338:True:=⟨⟩
def tw5145194164435800319:True:=⟨⟩
def tw5757722505243308951:True:=⟨⟩
def tw5991088122755694311:True:=⟨⟩
def tw18065843410354305646:True:=⟨⟩
def tw7873677850840604177:True:=⟨⟩
def tw18059692967250967736:True:=⟨⟩
def tw3749216287698357945:True:=⟨⟩
end PySem.W.Fast
set_option maxRecDepth 100000 in
set_option maxHeartbeats 0 in
theorem PySem.Challenge.cw_daysheet_k61_whole_fitting_holds : PySem.Challenge.rw_daysheet_k61_whole_fitting.Holds := by
 w_on;o_law;k_head;(case hw=>w_witness2)
 k_fill
 refine L2.L3.walkL (l:=vR) (k:=11) (F:=L2.L3.F_law) (x := "_law_script") [(123,L2.L3.lamQ "by_heads"),(40,L2.L3.lamQ "in_laying_order")] rfl rfl ⟨rfl,by decide,by decide⟩ (λw h Y=>PySem.W.km_in_of Y) (λw h Y=>PySem.W.km_tabs_of Y) ?cd ?ts ?F (λw ns hl=>L2.L3.e_law w ns hl)
 case cd=>exact λw=>L2.L3.all_cons ⟨⟨127,by kernel_rfl⟩,by kernel_rfl⟩ (L2.L3.all_cons ⟨⟨44,by kernel_rfl⟩,by kernel_rfl⟩ (λ_ h=>nomatch h))
 case ts=>exact λw=>L2.L3.lam_all (by kernel_rfl)
 case F=>
  intro w mg fa h KX G hmg;refine' L2.L3.law_mk KX G hmg ?B ?D0 ?D1 ?D2 ?D3 ?D4 ?D5 ?D6 ?D7 ?D8 ?D9 ?D10 ?D11 ?D12 ?D13 ?D14 ?D15 ?D16 ?D17 ?D18 ?D19 ?D20 ?D21 ?D22 ?D23 ?D24 ?D25 ?D26 ?D27 ?FC ?FI ?tb0 ?hC0 ?tb1 ?hC1 ?a4 ?l4 ?c4 ?k4
  (case tb0=>kernel_rfl);(case hC0=>kernel_rfl)
  (case tb1=>kernel_rfl);(case hC1=>kernel_rfl)
  (case a4=>k_is);(case l4=>k_is);(case c4=>k_is);(case k4=>k_is)
  (case B=>(refine' L2.L3.blt_mk KX G ?z0 ?z1 ?z2 ?z3 ?z4 ?z5 ?z6 ?z7 ?z8 ?z9 ?z10 ?z11 ?z12;(case z0=>k_is);(case z1=>k_is);(case z2=>k_is);(case z3=>k_is);(case z4=>k_is);(case z5=>k_is);(case z6=>k_is);(case z7=>k_is);(case z8=>k_is);(case z9=>k_is);(case z10=>k_is);(case z11=>k_is);(case z12=>k_is)))
  (case FC=>(refine' L2.L3.fcls_mk ?a0 ?c1 ?c2 ?c3 ?c4 ?n1 ?n2 ?n3 ?n4;(case a0=>k_is);(case c1=>k_is);(case c2=>k_is);(case c3=>k_is);(case c4=>k_is);(case n1=>k_is);(case n2=>k_is);(case n3=>k_is);(case n4=>k_is)))
  (case FI=>(refine' L2.L3.fin_mk ?a0 ?k1 ?k2 ?k3 ?k4 ?l ?c ?k;(case a0=>k_is);(case k1=>k_is);(case k2=>k_is);(case k3=>k_is);(case k4=>k_is);(case l=>k_is);(case c=>k_is);(case k=>k_is)))
  (case D0 | D1 | D2 | D3 | D4 | D5 | D6 | D7 | D8 | D9 | D12 | D14 | D15 | D17 | D18 | D19 | D20 | D21 | D22 | D23 | D24 | D25 | D26 | D27=>(refine' L2.L3.def_mk KX G ?a ?l ?c ?k;(case a=>k_is);(case l=>k_is);(case c=>k_is);(case k=>k_is)))
  (case D10=>(refine' L2.L3.fdef_mk ?a0 ?a ?i ?l ?c ?k;(case a0=>k_is);(case a=>k_is);(case i=>k_is);(case l=>k_is);(case c=>k_is);(case k=>k_is)))
  (case D11=>(refine' L2.L3.fdef_mk ?a0 ?a ?i ?l ?c ?k;(case a0=>k_is);(case a=>k_is);(case i=>k_is);(case l=>k_is);(case c=>k_is);(case k=>k_is)))
  (case D13=>(refine' L2.L3.fdef_mk ?a0 ?a ?i ?l ?c ?k;(case a0=>k_is);(case a=>k_is);(case i=>k_is);(case l=>k_is);(case c=>k_is);(case k=>k_is)))
  (case D16=>(refine' L2.L3.fdef_mk ?a0 ?a ?i ?l ?c ?k;(case a0=>k_is);(case a=>k_is);(case i=>k_is);(case l=>k_is);(case c=>k_is);(case k=>k_is)))

