import PyProof.Rows.All
import Wide.All
import OpenK.AllK
import Wide.FinOn
import Lean
import PyProof.EqAt
import PyProof.EqKinds
import PyProof.TupleCall
import PySem.Challenge.RW_daysheet_k97_whole_rooms_by_hand
set_option Elab.async false
set_option linter.all false
set_option maxRecDepth 100000
set_option maxHeartbeats 4000000
open PySem renaming wpAny_bind->q8,PyData->j0,wpAny_pure->j3,starEach->j4,sizeLine->j5,mainGlobals->j6,SetTable->j7,wpAny_newObj_type->j8,wpAny_call_entry->j9,wpAny_callSpecial?_slot->k5,wpAny_Call_Name_kw->k6,wpAny_setField_rec->k7,cellsFrom->k8,codeAny_builtin->k9,backTo->v0,wpAny_seqItems->v6,rawInt->v7,wpAny_holding->v8,wpAny_truthy_bool->v9,compareOp->wf,bootBuiltins->wg,foldedSetIterable->wj,swapsWith->wm,sysModules->wo,wpAny_rule->wp,wpAny_field->wq,keywordEach->wu,attributeBase->wv,behindInMarks->ww,plainId_quiet->wx,codeAny_mono->wy,wpAny_mono->wz,sizeLine_eq->w5,FuncData->w8,builtinLookup_eq_fast->w9,isSubtype_type->yc,wpAny_setState_of->yd,assignEach->ye,pyNext->yf,wpAny_attempt->yg,wpAny_isInstance->yh,firstArgMember->yi,wpAny_passesOwn->yj,NameKind->yk,wpAny_pyIter_list->ym,IsPair->yn,codeAny->yo,backToKw->yq,pickOrder->yt,wpAny_askSetting->yu,wpAny_typeOf->yv,binaryOp->yw,boot_len->yx,typeLookup_type->yy,seqItems?->yz,wpAny_standAt->y0,codeAny_call_builtin->y6,setEntries->y7,wpAny_letGo->ua,wpAny_of_eq->ub,wpAny_forIn_list->ue,bindArgs->ug,wpAny_updateSeq->uh,scanBound->ui,sliceBounds->uj,entryFor_alias->uk,eqIsQuiet_byValue->ul,wpAny_pyIter_slot->uo,wpAny_tryCatch->uq,weight_type_call_type->ur,wpAny_isTrue_Compare1->ut,builtinsNs->uu,wpAny_call->uv,wpAny_execs_cons->uw,entryFor->uy,wpAny_updateSeq_pair->uz,codeAny_of_tree->u0,wpAny_execs_nil->u3,wpAny_specialOf->u5,setNext->u7,TriplesOk->u8,ReadsAll->u9,isSubtype_stop->QB,newFunctionEnv->QC,wpAny_evalAll_cons->QD,wpAny_tupleItemsOf->QE,wpAny_dictEntries->QF,wpAny_storeSet_of->QG,wpAny_handled->QH,wpAny_onRaise->QI,DictEntry->QJ,codeAmong->QK,noFill_tuple_add->QL,raiseNew->QM,wpAny_pyHash_int->QN,wpAny_pyHash_str->QO,IsPart->QP,argsOk->QQ,concat_meets->QR,GenState->QT,numAt_eq->QU,argBest->QV,callerA->QW,getItem->QX,intKind->QY,isSubtype->QZ,pushCells->Qa,standAt->Qb,tupleKind->Qc
open PyProof.Rows renaming seqObj->ya,IntsAre->ud,envOfC->uf,subscriptTail_builtinR->um,listUpdate_at->ux,AllBare->u6,assignInOrder_cons->QA,listItems_at->QS
open Option.some renaming inj->qB
open PySem.W renaming Frag->qC,mg_none_of->qr,nsIn->qv,findIn->jA,kia_one->jO,fnOf->jV,tabIn->jb,keepIn->jj,emptyDict->jl,codeHdIn->kK,instObj->kT,codeIn->zA,kitOne->zX,plainGet->zc,kla_obj->zq,kla_fn->vF,hasDictIn->vI,cellsFrom_some->vZ,isFn->ve,tabObj->vp,lookIn->vq,plainGet_of->vx,plainOver->wI,methodObj->wJ,kitx_list->wK
open PySem.Heap renaming get?_push_of_some->qD,get?_push_size->qH,lt_size->qM,size_push->qu,get?_update_other->je,get?_update_self->kA,SameBut->kB,get?_none_of_le->vC
open List renaming length_map->qE,mem_cons_of_mem->qF,mem_cons->qG,map_cons->qI,getElem?_eq_getElem->qK,mem_singleton->qL,getElem?_map->qQ,size_toArray->qR,getElem?_eq_some_iff->qS,map_map->qT,mem_map->qU,length_cons->qV,mem_cons_self->qY,filter_cons_of_pos->qZ,getElem?_eq_none->qb,map_append->qc,filter_cons_of_neg->qd,all_eq_true->qe,length_append->qf,getElem?_set_ne->qh,getD_eq_getElem?_getD->qk,not_mem_nil->ql,range->qm,mem_append_right->qo,all_cons->qz,mem_append->jD,getElem?_toArray->jG,pairwise_cons->jL,length_take->jQ,ext_getElem?->jT,getElem?_append_right->jU,take_of_length_le->jY,getElem?_append_left->ja,length_singleton->jg,append_assoc->jh,mem_filter->jk,mem_map_of_mem->jo,mem_range->jp,nil_append->jq,length_filter_le->jr,foldl_cons->jt,getElem_mem->jy,mem_iff_getElem->jz,pairwise_map->kD,nodup_append->kE,nodup_cons->kF,lookup_cons->kM,pairwise_iff_getElem->kP,mem_append_left->kQ,append_nil->kW,any_cons->kY,getElem?_set->ky,pairwise_append->kz,mem_flatten->zC,getElem_map->zD,filter_cons->zE,getElem?_range->zH,getElem?_take_of_lt->zI,pairwise_singleton->zN,map_inj_right->zO,drop_of_length_le->zQ,lookup->zT,length_range->zU,length->zV,toArray->zZ,length_drop->zj,toList_toArray->zt,length_nil->zu,getD->zw,forIn_cons->zx,find?_cons->zy,map_nil->vA,lookup_append->vB,take_succ->vG,pairwise_mergeSort->vN,getElem?_replicate->vO,getElem?_cons_zero->vP,getElem?_cons_succ->vQ,cons_append->vX,getElem?_set_self->va,dropLast_concat->vo,nodup_nil->vt,mergeSort_perm->vy,map_congr_left->vz,getElem_of_mem->wB,filterMap_cons->wC,getElem?_drop->wE,reverse_cons->wM,flatMap_cons->wN,filter_congr->wO,eraseIdx_eq_take_drop_succ->wP,any_eq_false->wQ,any_map->wR,reverse_nil->wZ,getElem_inj->wc,any_eq_true->we
open Bool renaming and_eq_true->qJ,false_ne_true->qa,false_eq_true->qt,eq_iff_iff->kX,not_eq_true'->zW,true_and->vU,not_true->vV,noConfusion->vY,or_eq_true->vj,false_and->vv,or_false->wH
open Nat renaming le_refl->qN,ne_of_lt->qW,lt_of_lt_of_le->qX,le_trans->qi,zero_le->jB,le_of_lt->jF,lt_irrefl->jK,ne_of_gt->jW,lt_succ_of_lt->jm,le_succ->jx,lt_succ_self->kn,lt_of_le_of_lt->zM,not_lt_of_le->zi,lt_trans->vf,add_assoc->wD,lt_trichotomy->wL,not_lt_of_lt->wX,le_add_right->wY
open Option renaming map_eq_some_iff->qO
open Array renaming length_toList->qP,getElem?_eq_getElem->jC,getElem?_toList->ju,getD->zp,perm_iff_toList_perm->zz,forIn_toList->vE,toList->wW
open PySem.SetTable renaming below->qg,sizeAbove->kR,grown->zK
open PySem renaming mem_of_lookup->qj,evalArgs_none->vw
open PySem.SeqAt renaming shaped->qp,canLay_of_shaped->zm
open PySem.Value renaming ref->qw,none->jR,bool->kZ,type->zF,int->vd
open PySem.Str renaming ofString->qx
open PySem.Around renaming under_plainId->qy
open Int renaming toNat_natCast->jE,le_refl->kG,emod_lt_of_pos->wF,le_trans->wS,le_of_lt->wT
open PySem.PyData renaming canLay0->jH,strOk->jI,int->jX,eqv->jd,depth->kI,str->kj,canLayAll0->km,eqvAll->ko,depthAll->zY,tuple->vW,list->vk
open Ne renaming symm->jJ
open PySem.Builtin.SmallTypes renaming nextOf->jM,ownedTupleIsFree->kO,ownedTupleHandOut->wV
open False renaming elim->jN
open Or renaming inr->jP,inl->jw
open PyProof.Rows renaming slot_tuple_getitem->jS,callWith_type1->kr
open Sum renaming inr->jZ
open PySem.F renaming called_set->jc,plain_max_loop->ku,slot_tuple_iterator_next->zJ,plainAttrs_list->zL,slot_list_reversed->vD,type_list_append->vJ,slot_list_append->vK,plainAttrs_dict->vM,slot_tuple_hash->vg,slot_list_getattribute->vh,plain_list_iadd->vi,slot_zip_next->wG
open PySem.PassesOwn renaming never->jf
open PySem.Builtin.Tuple renaming tupleHashOf->ji,tupleExact->zR,tupleItemsOf->vR
open PySem.Heap.SameBut renaming update->jv
open PySem.Obj renaming mapSeq->kC
open True renaming intro->kJ
open List.cons renaming injEq->kU
open PySem.NameKind renaming free->kq,cell->vn
open PySem.Builtin.List renaming listExtendWith->zB
open PySem.Shared renaming TypeIs->zG
open PySem.Builtin.Slice renaming slicePlaces->zP,sliceAdjust->vc
open PySem.Builtin.Frozenset renaming sizeOf->zS,subsetOf->vS,isAnySet->vT
open PySem.Calls renaming callWith_builtin->zn
open PySem.SetTable.below renaming go->zo
open PySem.Challenge renaming rw_daysheet_k97_whole_rooms_by_hand->zr
open Classical renaming byContradiction->vH
open Sum.inr renaming inj->vL
open PySem.Paired renaming length->vm
open PyProof.Rows.F renaming plain_set_update_loop->wU
open PySem in
abbrev T0a:=Value->Shared->Prop
open PySem in
abbrev T0b:=List (Addr×Obj)
open PySem in
abbrev T0d:=Str->Option Value
open PySem in
abbrev T0e:=List (Option Nat)
open PySem in
abbrev T0f:=List (Str×Addr)
open PySem in
abbrev T0g:=List (Str×Value)
open PySem in
abbrev T0k:=Option Addr
open PySem in
abbrev T0l:=List j0
open PySem in
abbrev T0m:=List Value
open PySem in
abbrev T0n:=List Expr
open PySem in
abbrev T0o:=List Addr
open PySem in
abbrev T0q:=List Str
open PySem in
abbrev T0s:=List Int
variable {a it l C dx f I z:PySem.Addr} {b e c tg iter value elt kx:PySem.Expr} {u doc pm cdv ct oc vu:PySem.Value} {P prog:PySem.Program} {w:PySem.World} {h' h1 base:PySem.Heap} {ob:PySem.Obj} {pz:List (PySem.Addr×PySem.Obj)} {s s':PySem.Shared} {t' i j k n ep k0 f0:Nat} {d':PySem.Drawn} {ch fp:List PySem.Addr} {N ps N':List PySem.Str} {M:PySem.Model} {A:PySem.Around} {E Q:PySem.Value->PySem.Shared->Prop} {pos pos' px p tpos apos p2 cpos spos kp ap cp p0 pos2 p3 xp:PySem.Pos} {op:PySem.CmpOp} {t led la lb:Bool} {ys items:Array PySem.Value} {st:PySem.Stmt} {es ifs pq:List PySem.Expr} {body:List PySem.Stmt} {vs its us:List PySem.Value} {pl:List Nat} {g:List Bool} {name qual q:PySem.Str} {ns sizes:List Int} {kw:List (PySem.Str×PySem.Value)} {mg:PySem.Str->Option PySem.Value} {fd:w8} {ds ks nks:List j0} {scope:PySem.Scope} {params:PySem.Arguments} {an od:Option PySem.Addr} {T:String} {sl:Array (Option PySem.Value)} {lo hi:Option PySem.Expr} {d da db dc S D kd:j0} {dss:List (List j0)}
namespace L2
open PySem PySem.Spec PyProof.Rows
abbrev Key:=Sum Int Str
def a2k:Key->Value->Bool
 | .inl k,v=>Value.isInt k v
 | .inr x,v=>Value.isStrOf x v
def c2l (w:World):Key->Int
 | .inl k=>hashInt k
 | .inr x=>hashStr w x
def cA:∀ {k:Key} {v:Value},a2k k v=true->(∃ i t,k=Sum.inl i/\v=vd i t)\/(∃ x t,k=jZ x/\v=Value.str x t)
 | .inl i,v,h=>by
  obtain ⟨t,e⟩:=Value.isInt_shape (k:=i) (v:=v) h;exact .inl ⟨i,t,rfl,e⟩
 | .inr x,v,h=>by
  obtain ⟨t,e⟩:=Value.isStrOf_shape (x:=x) (v:=v) h;exact .inr ⟨x,t,rfl,e⟩
def b0t (i:Int) (t:Tok):a2k (.inl i) (.int i t)=true:=by simp [a2k,Value.isInt]
def b0s (x:Str) (t:Tok):a2k (.inr x) (.str x t)=true:=by simp [a2k,Value.isStrOf]
def b8R (a b:Int):decide ((Sum.inl a:Key)=Sum.inl b)=(a==b):=by
 by_cases e:a=b
 ·subst e;simp
 ·have h:¬(Sum.inl a:Key)=Sum.inl b:=λq=>e (Sum.inl.inj q)
  rw [decide_eq_false h];exact (beq_eq_false_iff_ne.mpr e).symm
def b8O (a b:Str):decide ((jZ a:Key)=jZ b)=decide (a=b):=by
 by_cases e:a=b
 ·subst e;simp
 ·have h:¬(jZ a:Key)=jZ b:=λq=>e (vL q)
  rw [decide_eq_false h,decide_eq_false e]
def b8Q (a:Int) (b:Str):decide ((Sum.inl a:Key)=jZ b)=false:=decide_eq_false (λq=>nomatch q)
def b8P (a:Str) (b:Int):decide ((jZ a:Key)=Sum.inl b)=false:=decide_eq_false (λq=>nomatch q)
noncomputable def aW (prog:Program) (w:World):PySem.KeyKind prog w Key where
 is:=a2k
 hash:=c2l w
 inj:=λv a b ha hb=>by
  rcases cA ha with ⟨i,t,rfl,rfl⟩ | ⟨x,t,rfl,rfl⟩
  ·rcases cA hb with ⟨j,u,rfl,e⟩ | ⟨y,u,rfl,e⟩
   ·injection e with e1 _;rw [e1]
   ·exact nomatch e
  ·rcases cA hb with ⟨j,u,rfl,e⟩ | ⟨y,u,rfl,e⟩
   ·exact nomatch e
   ·injection e with e1 _;rw [e1]
 byValue:=λk v h=>by
  rcases cA h with ⟨i,t,rfl,rfl⟩ | ⟨x,t,rfl,rfl⟩<;>rfl
 pyHash:=λhv h=>by
  rcases cA hv with ⟨i,t,rfl,rfl⟩ | ⟨x,t,rfl,rfl⟩
  ·exact QN h
  ·exact QO h
 eqBool:=λhu hv h=>by
  rcases cA hu with ⟨i,t,rfl,rfl⟩ | ⟨x,t,rfl,rfl⟩
  ·rcases cA hv with ⟨j,u,rfl,rfl⟩ | ⟨y,u,rfl,rfl⟩
   ·rw [b8R] at h;exact wpAny_eqBool_int h
   ·rw [b8Q] at h;exact SeqAt.EqAt.int_str i t y u _ _ _ _ h
  ·rcases cA hv with ⟨j,u,rfl,rfl⟩ | ⟨y,u,rfl,rfl⟩
   ·rw [b8P] at h;exact SeqAt.EqAt.str_int x t j u _ _ _ _ h
   ·rw [b8O] at h;exact wpAny_eqBool_str h
 «strs»:=λk x t v h=>by
  rcases cA h with ⟨i,u,rfl,e⟩ | ⟨y,u,rfl,e⟩
  ·exact nomatch e
  ·injection e with e1 _
   subst e1;cases v<;>rfl
def a7D (prog:Program) (w:World) (k:Key) (v:Value):(aW prog w).is k v=a2k k v:=rfl
def a0J (prog:Program) (w:World) (i:Int) (t:Tok):(aW prog w).is (.inl i) (.int i t)=true:=b0t i t
def mP (prog:Program) (w:World) (x:Str) (t:Tok):(aW prog w).is (.inr x) (.str x t)=true:=b0s x t
inductive V where
 | non | bl (b:Bool) | int (i:Int) | str (x:Str) | byt (b:Array UInt8) | flt (b:UInt64) | ref (a:Addr) | ty (n:String)
 deriving DecidableEq
def RelV:V->Value->Prop
 | .non,u=>u=jR
 | .bl b,u=>u=kZ b
 | .int i,u=>∃ t,u=vd i t
 | .str x,u=>∃ t,u=Value.str x t
 | .byt b,u=>∃ t,u=Value.bytes b t
 | .flt b,u=>∃ t,u=Value.float b t
 | .ref a,u=>u=qw a
 | .ty n,u=>u=zF n
abbrev bB:List V->List Value->Prop:=Paired RelV
theorem bB.length {xs:List V} {us:T0m} (r:bB xs us):xs.length=us.length:=vm r
theorem bB.get:∀ {xs:List V} {us:T0m} {i:Nat} {x:V},bB xs us->xs[i]?=some x->∃ u,us[i]?=some u/\RelV x u
 | _,_,_,_,.nil,e=>by simp at e
 | _,_,0,_,.cons r _,e=>by simp at e;subst e;exact ⟨_,rfl,r⟩
 | _,_,i+1,x,.cons _ t,e=>by
  obtain ⟨u,h1,h2⟩:=bB.get (i:=i) (x:=x) t (by simpa using e);exact ⟨u,by simpa using h1,h2⟩
theorem bB.append:∀ {xs ys:List V} {us ws:T0m},bB xs us->bB ys ws->bB (xs++ys) (us++ws)
 | _,_,_,_,.nil,s=>s
 | _,_,_,_,.cons r t,s=>.cons r (bB.append t s)
theorem bB.take:∀ {xs:List V} {us:T0m} (n:Nat),bB xs us->bB (xs.take n) (us.take n)
 | _,_,0,_=>.nil
 | _,_,_+1,.nil=>.nil
 | _,_,n+1,.cons r t=>.cons r (bB.take n t)
theorem bB.drop:∀ {xs:List V} {us:T0m} (n:Nat),bB xs us->bB (xs.drop n) (us.drop n)
 | _,_,0,r=>r
 | _,_,_+1,.nil=>.nil
 | _,_,n+1,.cons _ t=>bB.drop n t
def a0y:Option V->Option Value->Prop
 | some v,some u=>RelV v u
 | none,none=>True
 | _,_=>False
def KV {κ:Type}:List (κ×V)->List (κ×Value)->Prop:=Paired λ(p:κ×V) (q:κ×Value)=>p.1=q.1/\RelV p.2 q.2
def kV:Key->V
 | .inl i=>.int i
 | .inr x=>.str x
inductive HO where
 | lst (xs:List V)
 | tup (xs:List V)
 | dK (kvs:List (Key×V)) | dT (kvs:List (List Key×V))
 | set (S:Int->Bool) (n:Nat)
 | ins (C dx:Addr) (fs:List (Str×V))
 | own (x:Addr)
 | xd (fs:List (Str×V))
 | met (f x:Addr)
 | rng (lo hi:Int)
 | frz (o:Obj) (u:HO)
 | tbl (ps:Str×Array Value)
 | ext (φ:Heap->Prop)
abbrev Hp:=Addr->Option HO
def upd (H:Hp) (a:Addr) (o:HO):Hp:=λb=>if b=a then some o else H b
variable {H:Hp} {o:HO}
def aG:upd H a o a=some o:=by unfold upd;rw [if_pos rfl]
variable {b:Addr}
def aE (h:b≠a):upd H a o b=H b:=by unfold upd;rw [if_neg h]
def a1j {u:HO}:upd (upd H a o) a u=upd H a u:=by
 funext b;unfold upd;split<;>rfl
def cM {u:HO} (h:H a=some o) (h':H b=some u) (d:o≠u):a≠b:=by
 intro e;subst e;rw [h] at h';exact d (qB h')
def aR (h:H a=some o) (h':H b=none):a≠b:=by
 intro e;subst e;rw [h] at h';cases h'
section
variable (P:Program) (w:World)
def bZ (H:Hp) (h:Heap) (a:Addr):HO->Prop
 | .lst xs=>xs.length<=j5/\∃ (its:T0m) (n:Nat),bB xs its/\h.get? a=some { cls:=.type "list", data:=.seq its.toArray n }
 | .tup xs=>xs.length<=j5/\∃ its:List Value,bB xs its/\IsTup h a its.toArray
 | .dK kvs=>kvs.length<=j5/\(a==wo)=false/\∃ vs,KV kvs vs/\h.DictOf (aW P w) a vs
 | .dT kvs=>kvs.length<=j5/\(a==wo)=false/\∃ xs:List (List Key×Addr×Value),
   Paired (λ(p:List Key×V) (q:List Key×Addr×Value)=>p.1=q.1/\H q.2.1=some (.tup (p.1.map kV))/\RelV p.2 q.2.2) kvs xs /\
   ∃ o es ep,h.get? a=some o/\o.ExactDict/\o.data=.dict es ep/\es.toList=xs.map (entryOfKey (Qc (aW P w)))/\(xs.map (·.1)).Nodup
 | .set S n=>h.SetOf (QY P w) a S n
 | .ins C dx fs=>H dx=some (.own a)/\fs.length<=1000/\dx≠a/\h.get? a=some (kT C dx) /\
   ∃ mA,h.Ns1 dx mA/\(∀ f,a0y (fs.lookup f) (mA f))/\PySem.Within mA (fs.map (·.1))
 | .own _=>∃ o,h.get? a=some o
 | .xd fs=>∃ mA,h.Ns1 a mA/\∀ f,a0y (fs.lookup f) (mA f)
 | .rng lo hi=>∃ t u v,h.get? a=some { cls:=.type "range", data:=.fields #[.int lo t,.int hi u,.int 1 v] }
 | .frz o u=>h.get? a=some o/\bZ H h a u
 | .tbl ps=>h.get? a=some { cls:=.none,data:=.fields ps.2 }
 | .met f x=>h.get? a=some (wJ (.ref f) (.ref x))
 | .ext φ=>φ h/\(∃ o,h.get? a=some o)/\∀ h1 h2:Heap,φ h1->(∀ o,h1.get? a=some o->h2.get? a=some o)->φ h2
def HOk (H:Hp) (h:Heap):Prop:=∀ a o,H a=some o->bZ P w H h a o
end
variable {H':Hp}
section
variable {h:Heap}
theorem bZ.lt (x:bZ P w H h a o):a<h.objs.size:=by
 cases o with
 | lst xs=>obtain ⟨_,_,_,_,e⟩:=x;exact qM e
 | tup xs=>obtain ⟨_,_,_,p⟩:=x;exact p.lt
 | dK kvs=>obtain ⟨_,_,_,_,o,_,_,e,_⟩:=x;exact qM e
 | dT kvs=>obtain ⟨_,_,_,_,o,_,_,e,_⟩:=x;exact qM e
 | set S n=>obtain ⟨o,_,_,_,e,_⟩:=x;exact qM e
 | ins C dx fs=>obtain ⟨_,_,_,e,_⟩:=x;exact qM e
 | own y=>obtain ⟨_,e⟩:=x;exact qM e
 | xd fs=>obtain ⟨_,⟨_,_,_,e,_⟩,_⟩:=x;exact qM e
 | rng lo hi=>obtain ⟨_,_,_,e⟩:=x;exact qM e
 | frz ob u=>obtain ⟨e,_⟩:=x;exact qM e
 | tbl ps=>exact qM (show h.get? a=some _ from x)
 | met f y=>exact qM (show h.get? a=some _ from x)
 | ext φ=>obtain ⟨_,⟨_,e⟩,_⟩:=x;exact qM e
theorem Paired.mapP {α β:Type} {F G:α->β->Prop}:∀ {l₁:List α} {l₂:List β},Paired F l₁ l₂->(∀ a b,F a b->G a b)->Paired G l₁ l₂
 | _,_,.nil,_=>.nil
 | _,_,.cons r t,f=>.cons (f _ _ r) (Paired.mapP t f)
def bZ.stay (x:bZ P w H h a o) (k:∀ b u,(b=a\/H b=some (.own a))->h.get? b=some u->h'.get? b=some u)
  (ho:∀ b,H b=some (.own a)->H' b=some (.own a)) (ht:∀ b xs,H b=some (.tup xs)->H' b=some (.tup xs)):bZ P w H' h' a o:=by
 induction o with
 | lst xs=>obtain ⟨z,its,n,r,e⟩:=x;exact ⟨z,its,n,r,k _ _ (.inl rfl) e⟩
 | tup xs=>obtain ⟨z,its,r,ob,e,c⟩:=x;exact ⟨z,its,r,ob,k _ _ (.inl rfl) e,c⟩
 | dK kvs=>obtain ⟨z,y,vs,r,ob,es,ep,e,c⟩:=x;exact ⟨z,y,vs,r,ob,es,ep,k _ _ (.inl rfl) e,c⟩
 | dT kvs=>
  obtain ⟨z,y,xs,r,ob,es,ep,e,c⟩:=x;exact ⟨z,y,xs,Paired.mapP r λp q z=>⟨z.1,ht _ _ z.2.1,z.2.2⟩,ob,es,ep,k _ _ (.inl rfl) e,c⟩
 | set S n=>obtain ⟨ob,es,ep,t,e,c⟩:=x;exact ⟨ob,es,ep,t,k _ _ (.inl rfl) e,c⟩
 | ins C dx fs=>
  obtain ⟨d,z,ne,e,mA,⟨od,es,ep,e2,c⟩,r⟩:=x;exact ⟨ho _ d,z,ne,k _ _ (.inl rfl) e,mA,⟨od,es,ep,k _ _ (.inr d) e2,c⟩,r⟩
 | own y=>obtain ⟨ob,e⟩:=x;exact ⟨ob,k _ _ (.inl rfl) e⟩
 | xd fs=>obtain ⟨mA,⟨od,es,ep,e,c⟩,r⟩:=x;exact ⟨mA,⟨od,es,ep,k _ _ (.inl rfl) e,c⟩,r⟩
 | rng lo hi=>obtain ⟨t,u,v,e⟩:=x;exact ⟨t,u,v,k _ _ (.inl rfl) e⟩
 | frz ob u ih=>obtain ⟨e,q⟩:=x;exact ⟨k _ _ (.inl rfl) e,ih q⟩
 | tbl ps=>
  have e:h.get? a=some { cls:=.none,data:=.fields ps.2 }:=x;show h'.get? a=some { cls:=.none,data:=.fields ps.2 };exact k a _ (.inl rfl) e
 | met f y=>
  have e:h.get? a=some (wJ (.ref f) (.ref y)):=x;show h'.get? a=some (wJ (.ref f) (.ref y));exact k a _ (.inl rfl) e
 | ext φ=>obtain ⟨p,⟨o,e⟩,st⟩:=x;exact ⟨st _ _ p λo q=>k _ _ (.inl rfl) q,⟨o,k _ _ (.inl rfl) e⟩,st⟩
theorem HOk.lt (x:HOk P w H h) (e:H a=some o):a<h.objs.size:=(x a o e).lt
def HOk.fresh (x:HOk P w H h) (e:h.objs.size<=a):H a=none:=by
 cases q:H a with
 | none=>rfl
 | some u=>exact absurd (qX (x.lt q) e) (jK _)
theorem HOk.kept (x:HOk P w H h) (k:∀ b u,h.get? b=some u->h'.get? b=some u):HOk P w H h':=λa o e=>
 (x a o e).stay (λb u _ q=>k b u q) (λ_ q=>q) λ_ _ q=>q
theorem HOk.laid (x:HOk P w H h) (k:∀ b u,h.get? b=some u->h'.get? b=some u) (hp:h.objs.size<=a) (new:bZ P w (upd H a o) h' a o):HOk P w (upd H a o) h':=λb u e=>by
 have hn:=x.fresh hp;by_cases hb:b=a
 ·subst hb;rw [aG] at e;cases e;exact new
 ·rw [aE hb] at e
  exact (x b u e).stay (λc v _ q=>k c v q) (λc q=>by rw [aE (aR q hn)];exact q) λc xs q=>by rw [aE (aR q hn)];exact q
end
def Rd (H:Hp) (a:Addr) (u:HO):Prop:=H a=some u\/∃ o,H a=some (.frz o u)
theorem Rd.ok {h:Heap} {u:HO} (r:Rd H a u) (x:HOk P w H h):bZ P w H h a u:=by
 rcases r with r | ⟨o,r⟩
 ·exact x a u r
 ·obtain ⟨_,q⟩:=x a _ r
  exact q
def Mut:Option HO->Prop
 | some (.lst _)=>True
 | some (.dK _)=>True
 | some (.dT _)=>True
 | some (.set _ _)=>True
 | some (.ins _ _ _)=>True
 | some (.ext _)=>True
 | _=>False
section
variable {h:Heap} {x e:Addr} {o':HO}
def HOk.write (ok:HOk P w H h) (mu:Mut (H x)) (he:e=x\/H e=some (.own x)) (k:∀ b u,b≠e->h.get? b=some u->h'.get? b=some u) (heo:∃ u,h'.get? e=some u)
  (new:bZ P w (upd H x o') h' x o'):HOk P w (upd H x o') h':=λb u q=>by
 have nown:∀ c y,H c=some (.own y)->c≠x:=λc y r z=>by subst z;rw [r] at mu;exact mu
 have ntup:∀ c xs,H c=some (.tup xs)->c≠x:=λc xs r z=>by subst z;rw [r] at mu;exact mu
 by_cases hb:b=x
 ·subst hb;rw [aG] at q;cases q;exact new
 ·rw [aE hb] at q
  by_cases hbe:b=e
  ·have q':H b=some (.own x):=by
    rcases he with z | z
    ·exact absurd (hbe.trans z) hb
    ·rw [hbe];exact z
   rw [q] at q';cases q';obtain ⟨v,hv⟩:=heo;exact ⟨v,by rw [hbe];exact hv⟩
  ·refine (ok b u q).stay (λc v hc r=>k c v ?_ r) (λc r=>by rw [aE (nown c b r)];exact r) λc xs r=>by rw [aE (ntup c xs r)];exact r
   rcases hc with rfl | hc
   ·exact hbe
   ·rintro rfl
    rcases he with z | z
    ·exact nown c b hc z
    ·rw [hc] at z;cases z;exact hb rfl
end
structure Un (fs ex:T0o) (H H':Hp) (h h':Heap):Prop where
 keep:∀ b o,h.get? b=some o->H b=none->b∉fs->b∉ex->h'.get? b=some o
 slot:∀ b o,h.get? b=some o->H b=none->b∈fs->b∉ex->∃ sl,h'.get? b=some { o with slots:=sl }
 free:∀ b o,h.get? b=some o->H b=none->b∉ex->H' b=none
 there:∀ b o,h.get? b=some o->b∉ex->∃ o',h'.get? b=some o'
 tups:∀ b xs,H b=some (.tup xs)->H' b=some (.tup xs)
 frzs:∀ b o u,H b=some (.frz o u)->H' b=some (.frz o u)
 tbls:∀ b ps,H b=some (.tbl ps)->∃ more,H' b=some (.tbl (ps.1,ps.2++more))
section
variable {fs fs' ex ex':T0o} {H1 H2:Hp} {h h2:Heap} {x e:Addr}
theorem Un.any (u:Un fs ex H H1 h h1) (q:h.get? b=some ob) (n:H b=none) (hx:b∉ex):∃ sl,h1.get? b=some { ob with slots:=sl }:=by
 by_cases hb:b∈fs
 ·exact u.slot b ob q n hb hx
 ·exact ⟨ob.slots,u.keep b ob q n hb hx⟩
def Un.kept (k:∀ b u,h.get? b=some u->h'.get? b=some u):Un fs ex H H h h':=
 ⟨λb ob q _ _ _=>k b ob q,λb ob q _ _ _=>⟨ob.slots,k b ob q⟩,λ_ _ _ n _=>n,λb ob q _=>⟨ob,k b ob q⟩,λ_ _ q=>q,λ_ _ _ q=>q,λ_ ps q=>⟨#[],by rw [q];simp⟩⟩
def Un.refl:Un fs ex H H h h:=Un.kept λ_ _ q=>q
def Un.laid (k:∀ b u,h.get? b=some u->h'.get? b=some u) (hp:h.objs.size<=a) (hn:H a=none):Un fs ex H (upd H a o) h h' where
 keep:=λb u q _ _ _=>k b u q
 slot:=λb u q _ _ _=>⟨u.slots,k b u q⟩
 free:=λb u q n _=>by rw [aE (qW (qX (qM q) hp))];exact n
 there:=λb u q _=>⟨u,k b u q⟩
 tups:=λb xs q=>by rw [aE (aR q hn)];exact q
 frzs:=λb u xs q=>by rw [aE (aR q hn)];exact q
 tbls:=λb ps q=>⟨#[],by rw [aE (aR q hn),q];simp⟩
def Un.write (mu:Mut (H x)) (he:e=x\/H e=some (.own x)) (k:∀ b u,b≠e->h.get? b=some u->h'.get? b=some u) (heo:∃ u,h'.get? e=some u):Un fs ex H (upd H x o) h h':=by
 have hx:∀ b,H b=none->b≠x:=λb n z=>by subst z;rw [n] at mu;exact mu
 have hb:∀ b,H b=none->b≠e:=λb n z=>by
  subst z;rcases he with r | r
  ·exact hx b n r
  ·rw [n] at r;cases r
 have hm:∀ b u,H b=some u->¬Mut (some u)->b≠x:=λb u q nm z=>by subst z;rw [q] at mu;exact nm mu
 refine ⟨λb u q n _ _=>k b u (hb b n) q,λb u q n _ _=>⟨u.slots,k b u (hb b n) q⟩,λb u q n _=>by rw [aE (hx b n)];exact n,λb u q _=>?_,
  λb xs q=>by rw [aE (hm b _ q λz=>z)];exact q,λb u xs q=>by rw [aE (hm b _ q λz=>z)];exact q,λb ps q=>⟨#[],by rw [aE (hm b _ q λz=>z),q];simp⟩⟩
 by_cases hbe:b=e
 ·subst hbe;exact heo
 ·exact ⟨u,k b u hbe q⟩
end
def trk (h:Heap) (H:Hp):List Addr:=(qm h.objs.size).filter λa=>(H a).isSome
def a3e (h:Heap) (H:Hp):Heap:=PySem.W.hideAll h (trk h H)
def b0x (h:Heap) (H:Hp):(a3e h H).objs.size=h.objs.size:=PySem.W.hideAll_size _ _
def b3l {h:Heap} {o:Obj} (e:h.get? b=some o) (n:H b=none):(a3e h H).get? b=some o:=
 PySem.W.hideAll_get _ e λhm=>by
  have q:(H b).isSome=true:=(jk.mp hm).2;rw [n] at q;simp at q
def b5F {h:Heap} {o:Obj} (e:(a3e h H).get? b=some o):h.get? b=some o/\H b=none:=by
 have e':h.get? b=some o:=PySem.W.of_hideAll (trk h H) e;refine ⟨e',?_⟩;cases q:H b with
 | none=>rfl
 | some x=>
  have hm:b∈trk h H:=jk.mpr ⟨jp.mpr (qM e'),by simp [q]⟩;have z:(a3e h H).get? b=none:=PySem.W.hideAll_none (trk h H) hm;rw [z] at e;cases e
def b6Z (g h:Heap) (L:Addr):List (Addr×Obj):=(qm h.objs.size).filterMap λa=>if a=L\/(g.get? a).isSome=true then none else (h.get? a).map λo=>(a,o)
def rest (g h:Heap) (L d:Addr):List (Addr×Obj):=(b6Z g h L).filter λp=>decide (p.1≠d)
structure Mod (K:qC) (mg:T0d) (base:Heap):Prop where
 kin:K.In base
 glob:base.Ns j6 mg
 blt:∃ mb,base.Ns uu mb/\∀ x:Str,x ≠ "__name__" -> mb x=wg x
 nolimit:base.NoLimit
structure Cx where
 prog:Program
 w:World
 K:qC
 mg:Str->Option Value
 base:Heap
 A:Around
 N:List Str
 s₀:Shared
 H₀:Hp
 env:Env
 outer:List Env
 stack:List Env
 ex:List Addr
 fn:Str->Bool
 calm:Bool
 pn:List (Addr×Obj)
 xe:Value->Shared->Prop
def frs (l:List Env):List Addr:=l.filterMap (·.frame)
abbrev Cx.fs (X:Cx):List Addr:=frs X.outer
def Vis (sc:Scope) (x:Str):Prop:=sc.names.lookup x=some .local\/sc.names.lookup x=some .cell\/sc.names.lookup x=some .free
def Loc (sc:Scope) (x:Str):Prop:=sc.names.lookup x=some .local\/sc.names.lookup x=some .cell
def Look (env:Env) (h:Heap) (m:T0d) (x:Str) (u:Value):Prop:=
 (env.kindOf x=some .local/\m x=some u)\/((env.kindOf x=some .cell\/env.kindOf x=some .free)/\∃ c,env.cells.lookup x=some c/\h.IsCell c (some u))
structure Cx.Ok (X:Cx):Prop where
 mod:Mod X.K X.mg X.base
 kind:X.env.scope.kind=.function
 glob:X.env.globals=j6
 blt:X.env.builtins=uu
 above:X.s₀.heap.objs.size<=X.env.locals
 inj:∀ x y c,X.env.cells.lookup x=some c->X.env.cells.lookup y=some c->x=y
 has:∀ x,(X.env.kindOf x=some .cell\/X.env.kindOf x=some .free)->∃ c,X.env.cells.lookup x=some c
 cab:∀ x c,X.fn x=true->X.env.cells.lookup x=some c->X.s₀.heap.objs.size<=c
 hd:X.calm=true->X.A.handled=none
 frames:X.A.frames=some X.stack
 stk:X.stack=X.outer\/(X.stack=X.env::X.outer/\X.env.frame=some X.env.locals)
 exf:∀ b∈X.ex,b≠X.env.locals/\∀ x c,X.env.cells.lookup x=some c->c≠b
 bs:∀ b o,X.base.get? b=some o->X.s₀.heap.get? b=some o/\X.H₀ b=none
 bsz:X.base.objs.size<=X.s₀.heap.objs.size
 noex:∀ b o,X.base.get? b=some o->b∉X.ex
 exfs:∀ b∈X.ex,b∉X.fs
 funs:X.s₀.heap.FunFrames X.base X.outer
 frf:∀ b∈X.fs,X.H₀ b=none
structure Inv (X:Cx) (pz:T0b) (σ:List (Option V)) (H:Hp) (s:Shared):Prop where
 ok:X.Ok
 os:s.os=X.s₀.os
 bare:u6 s.gens
 base:Un X.fs X.ex X.H₀ H X.s₀.heap s.heap
 loc:∃ m,s.heap.Ns X.env.locals m/\∀ (i:Nat) (x:Str) (v:V),X.N[i]?=some x->σ[i]?=some (some v)->Vis X.env.scope x->∃ u,RelV v u/\Look X.env s.heap m x u
 cell:∀ x c,X.env.cells.lookup x=some c->∃ v,s.heap.IsCell c v
 free:H X.env.locals=none
 freeC:∀ x c,X.env.cells.lookup x=some c->H c=none
 pin:∀ p∈X.pn++pz,s.heap.get? p.1=some p.2/\H p.1=none/\p.1≠X.env.locals/\p.1∉X.fs/\∀ v,p.2.data≠.cell v
 hok:HOk X.prog X.w H s.heap
 len:σ.length=X.N.length
variable {X:Cx} {g':Array QT} {v:V}
section
variable {σ:List (Option V)}
theorem Cx.Ok.nofr (ok:X.Ok) {o:Obj} (e:X.base.get? b=some o):b∉X.fs:=λhb=>by
 have:=(ok.funs.mem hb).1;rw [e] at this;cases this
theorem Inv.bs (I:Inv X pz σ H s):∀ b o,X.base.get? b=some o->s.heap.get? b=some o/\H b=none:=λb o e=>
 ⟨I.base.keep b o (I.ok.bs b o e).1 (I.ok.bs b o e).2 (I.ok.nofr e) (I.ok.noex b o e),I.base.free b o (I.ok.bs b o e).1 (I.ok.bs b o e).2 (I.ok.noex b o e)⟩
theorem Inv.bk (I:Inv X pz σ H s):∀ b o,X.base.get? b=some o->s.heap.get? b=some o:=λb o e=>(I.bs b o e).1
theorem Inv.mod (I:Inv X pz σ H s):Mod X.K X.mg X.base:=I.ok.mod
theorem Inv.kIn (I:Inv X pz σ H s):X.K.In s.heap:=I.ok.mod.kin.keeps I.bk
theorem Inv.lt (I:Inv X pz σ H s):X.env.locals<s.heap.objs.size:=let ⟨_,hn,_⟩:=I.loc;hn.lt
theorem Inv.sz (I:Inv X pz σ H s):X.s₀.heap.objs.size<=s.heap.objs.size:=qi I.ok.above (jF I.lt)
theorem Inv.nofs (I:Inv X pz σ H s) (h:s.heap.objs.size<=a):a∉X.fs:=λhb=>by
 obtain ⟨_,o,ho,_⟩:=I.ok.funs.mem hb;exact absurd (qX (qM ho) (qi I.sz h)) (jK _)
theorem Inv.cne (I:Inv X pz σ H s):∀ x c,X.env.cells.lookup x=some c->c≠X.env.locals:=λx c e z=>by
 obtain ⟨v,o,ho,hd⟩:=I.cell x c e;obtain ⟨m,⟨o',es,ep,ho',hd',_⟩,_⟩:=I.loc;rw [z,ho'] at ho;cases ho;rw [hd'] at hd;cases hd
theorem Inv.funs (I:Inv X pz σ H s):s.heap.FunFrames X.base X.outer:=by
 have all:∀ (l:List Env),(∀ b∈frs l,b∈X.fs)->X.s₀.heap.FunFrames X.base l->s.heap.FunFrames X.base l:=by
  intro l
  induction l with
  | nil=>intro _ _;trivial
  | cons env r ih=>
   intro hs hl;obtain ⟨hk,⟨L,o,hf,hn,ho,hd⟩,hr⟩:=hl;have hL:L∈X.fs:=hs L (by unfold frs;rw [wC,hf];exact qY);obtain ⟨sl,e⟩:=I.base.slot L o ho (I.ok.frf L hL) hL λz=>I.ok.exfs L z hL;exact ⟨hk,⟨L,_,hf,hn,e,hd⟩,ih (λb hb=>hs b (by unfold frs;rw [wC,hf];exact qF _ hb)) hr⟩
 exact all X.outer (λ_ hb=>hb) I.ok.funs
theorem Inv.stack (I:Inv X pz σ H s):s.heap.FunFrames X.base X.stack:=by
 rcases I.ok.stk with e | ⟨e,hf⟩
 ·rw [e];exact I.funs
 ·rw [e]
  obtain ⟨m,hn,_⟩:=I.loc;refine .cons (by rw [I.ok.kind];decide) hf hn ?_ I.funs;exact vC (qi I.ok.bsz I.ok.above)
def Inv.stkSub (I:Inv X pz σ H s):∀ b∈frs X.stack,b∈X.env.locals::X.fs:=λb hb=>by
 rcases I.ok.stk with e | ⟨e,hf⟩
 ·rw [e] at hb;exact qF _ hb
 ·rw [e] at hb
  unfold frs at hb;rw [wC,hf] at hb;exact hb
def Inv.stkFree (I:Inv X pz σ H s):∀ b∈frs X.stack,H b=none:=λb hb=>by
 rcases qG.mp (I.stkSub b hb) with e | hb
 ·rw [e];exact I.free
 ·obtain ⟨_,o,ho,_⟩:=I.ok.funs.mem hb
  exact I.base.free b o ho (I.ok.frf b hb) λz=>I.ok.exfs b z hb
theorem Inv.step (I:Inv X pz σ H s)
  (hch:∀ b∈ch,(b∈X.ex\/X.s₀.heap.objs.size<=b)/\b≠X.env.locals/\(∀ x c,X.env.cells.lookup x=some c->c≠b)/\∀ p∈X.pn++pz,p.1≠b)
  (keep:∀ b o,b≠X.env.locals->b∉X.fs->b∉ch->s.heap.get? b=some o->H b=none->h'.get? b=some o)
  (slot:∀ b o,b≠X.env.locals->b∈X.fs->b∉ch->s.heap.get? b=some o->H b=none->∃ sl,h'.get? b=some { o with slots:=sl }) (free:∀ b o,b∉ch->s.heap.get? b=some o->H b=none->H' b=none)
  (there:∀ b o,b∉ch->s.heap.get? b=some o->∃ o',h'.get? b=some o')
  (tups:∀ b xs,H b=some (.tup xs)->H' b=some (.tup xs)) (frzs:∀ b o u,H b=some (.frz o u)->H' b=some (.frz o u)) (tbls:∀ b ps,H b=some (.tbl ps)->∃ more,H' b=some (.tbl (ps.1,ps.2++more)))
  (ns:∀ m,s.heap.Ns X.env.locals m->h'.Ns X.env.locals m) (hok:HOk X.prog X.w H' h') (hg:u6 g'):
  Inv X pz σ H' { s with heap:=h',gens:=g',drawn:=d',toks:=t' }:=by
 have neL:∀ b o,X.s₀.heap.get? b=some o->b≠X.env.locals:=λb o e=>qW (qX (qM e) I.ok.above);have neC:∀ b o,X.s₀.heap.get? b=some o->b∉X.ex->b∉ch:=λb o e hx hb=>by
  rcases (hch b hb).1 with z | z
  ·exact hx z
  ·exact absurd (qX (qM e) z) (jK _)
 have cellK:∀ x c,X.env.cells.lookup x=some c->∀ v,s.heap.IsCell c v->h'.IsCell c v:=λx c e v ⟨o,ho,hd⟩=>by
  have nch:c∉ch:=λz=>(hch c z).2.2.1 x c e rfl;by_cases hc:c∈X.fs
  ·obtain ⟨sl,q⟩:=slot c o (I.cne x c e) hc nch ho (I.freeC x c e)
   exact ⟨_,q,hd⟩
  ·exact ⟨o,keep c o (I.cne x c e) hc nch ho (I.freeC x c e),hd⟩
 refine ⟨I.ok,I.os,hg,⟨λb o e n hb hx=>?_,λb o e n hb hx=>?_,λb o e n hx=>?_,λb o e hx=>?_,λb xs e=>tups b xs (I.base.tups b xs e),λb o xs e=>frzs b o xs (I.base.frzs b o xs e),λb ps e=>?_⟩,?_,λx c e=>?_,?_,λx c e=>?_,λp hp=>?_,hok,I.len⟩
 ·exact keep b o (neL b o e) hb (neC b o e hx) (I.base.keep b o e n hb hx) (I.base.free b o e n hx)
 ·obtain ⟨sl,e1⟩:=I.base.slot b o e n hb hx
  obtain ⟨sl',e2⟩:=slot b _ (neL b o e) hb (neC b o e hx) e1 (I.base.free b o e n hx);exact ⟨sl',e2⟩
 ·obtain ⟨o',e1⟩:=I.base.there b o e hx
  exact free b o' (neC b o e hx) e1 (I.base.free b o e n hx)
 ·obtain ⟨o',e1⟩:=I.base.there b o e hx
  exact there b o' (neC b o e hx) e1
 ·obtain ⟨m1,e1⟩:=I.base.tbls b ps e
  obtain ⟨m2,e2⟩:=tbls b _ e1;exact ⟨m1++m2,by rw [e2];simp [Array.append_assoc]⟩
 ·obtain ⟨m,hn,hl⟩:=I.loc
  refine ⟨m,ns m hn,λi x v e1 e2 e3=>?_⟩;obtain ⟨u,r,l⟩:=hl i x v e1 e2 e3;refine ⟨u,r,?_⟩;rcases l with l | ⟨k,c,e,z⟩
  ·exact .inl l
  ·exact .inr ⟨k,c,e,cellK x c e _ z⟩
 ·obtain ⟨v,z⟩:=I.cell x c e
  exact ⟨v,cellK x c e v z⟩
 ·obtain ⟨m,⟨o,_,_,ho,_⟩,_⟩:=I.loc
  exact free _ o (λz=>(hch _ z).2.1 rfl) ho I.free
 ·obtain ⟨v,o,ho,hd⟩:=I.cell x c e
  exact free c o (λz=>(hch c z).2.2.1 x c e rfl) ho (I.freeC x c e)
 ·obtain ⟨e,n,ne,nf,d⟩:=I.pin p hp
  have nch:p.1∉ch:=λz=>(hch p.1 z).2.2.2 p hp rfl;exact ⟨keep p.1 p.2 ne nf nch e n,free p.1 p.2 nch e n,ne,nf,d⟩
theorem Inv.un (I:Inv X pz σ H s) (u:Un X.fs [] H H' s.heap h') (hok:HOk X.prog X.w H' h'):Inv X pz σ H' { s with heap:=h',toks:=t' }:=by
 obtain ⟨m,⟨o,es,ep,ho,r⟩,_⟩:=id I.loc;obtain ⟨sl,hL⟩:=u.any ho I.free (by simp)
 exact I.step (g':=s.gens) (d':=s.drawn) (ch:=[]) (λ_ z=>nomatch z) (λb o _ hb _ e n=>u.keep b o e n hb (by simp)) (λb o _ hb _ e n=>u.slot b o e n hb (by simp)) (λb o _ e n=>u.free b o e n (by simp)) (λb o _ e=>u.there b o e (by simp)) u.tups u.frzs u.tbls (λm' hm=>by
  obtain ⟨o',es',ep',ho',r'⟩:=hm;rw [ho] at ho';cases ho'
  exact ⟨_,es',ep',hL,r'⟩) hok I.bare
theorem Inv.call (I:Inv X pz σ H s) (u:Un (frs X.stack) ch H H' s.heap h') (hok:HOk X.prog X.w H' h') (hg:u6 g')
  (hch:∀ b∈ch,(b∈X.ex\/X.s₀.heap.objs.size<=b)/\b≠X.env.locals/\(∀ x c,X.env.cells.lookup x=some c->c≠b)/\∀ p∈X.pn++pz,p.1≠b):
  Inv X pz σ H' { s with heap:=h',gens:=g',drawn:=d',toks:=t' }:=by
 obtain ⟨m,⟨o,es,ep,ho,r⟩,_⟩:=id I.loc;obtain ⟨sl,hL⟩:=u.any ho I.free λz=>(hch _ z).2.1 rfl
 exact I.step (ch:=ch) hch (λb o hL hb hc e n=>u.keep b o e n (λz=>(qG.mp (I.stkSub b z)).elim hL hb) hc) (λb o _ _ hc e n=>u.any e n hc) (λb o hc e n=>u.free b o e n hc) (λb o hc e=>u.there b o e hc) u.tups u.frzs u.tbls (λm' hm=>by
  obtain ⟨o',es',ep',ho',r'⟩:=hm;rw [ho] at ho';cases ho'
  exact ⟨_,es',ep',hL,r'⟩) hok hg
def Inv.turned (I:Inv X pz σ H s) (k:∀ b o,b≠it->s.heap.get? b=some o->h'.get? b=some o) (hn:H it=none) (hL:it≠X.env.locals)
  (h1:it∈X.ex\/X.s₀.heap.objs.size<=it) (h2:∀ x c,X.env.cells.lookup x=some c->c≠it) (h3:∀ p∈X.pn++pz,p.1≠it):Inv X pz σ H { s with heap:=h',toks:=t' }:=by
 have nit:∀ b u,H b=some u->b≠it:=λb u e z=>by rw [z,hn] at e;cases e
 refine I.step (g':=s.gens) (d':=s.drawn) (ch:=[it]) (λb hb=>?_) (λb o _ _ hc e _=>k b o (λz=>hc (by simp [z])) e) (λb o _ _ hc e _=>⟨o.slots,k b o (λz=>hc (by simp [z])) e⟩) (λ_ _ _ _ n=>n)
  (λb o hc e=>⟨o,k b o (λz=>hc (by simp [z])) e⟩) (λ_ _ e=>e) (λ_ _ _ e=>e) (λb ps e=>⟨#[],by rw [e];simp⟩) (λm hm=>?_) (λb u e=>?_) I.bare
 ·have e:b=it:=by simpa using hb
  subst e;exact ⟨h1,hL,h2,h3⟩
 ·obtain ⟨o,es,ep,ho,r⟩:=hm
  exact ⟨o,es,ep,k _ o (jJ hL) ho,r⟩
 ·refine (I.hok b u e).stay (λc v hc q=>k c v ?_ q) (λ_ q=>q) λ_ _ q=>q
  rcases hc with z | z
  ·rw [z];exact nit b u e
  ·exact nit c _ z
theorem Inv.tok (I:Inv X pz σ H s) (t:Nat):Inv X pz σ H { s with toks:=t }:=I.un (h':=s.heap) (t':=t) Un.refl I.hok
theorem Inv.kept {t':Nat} (I:Inv X pz σ H s) (k:∀ b u,s.heap.get? b=some u->h'.get? b=some u):Inv X pz σ H { s with heap:=h',toks:=t' }:=I.un (Un.kept k) (I.hok.kept k)
theorem Inv.laid {a:Addr} {o:HO} {t':Nat} (I:Inv X pz σ H s) (k:∀ b u,s.heap.get? b=some u->h'.get? b=some u) (hp:s.heap.objs.size<=a) (new:bZ X.prog X.w (upd H a o) h' a o) :
  Inv X pz σ (upd H a o) { s with heap:=h',toks:=t' }:=I.un (Un.laid k hp (I.hok.fresh hp)) (I.hok.laid k hp new)
theorem Inv.write {x e:Addr} {o:HO} {t':Nat} (I:Inv X pz σ H s) (mu:Mut (H x)) (he:e=x\/H e=some (.own x)) (k:∀ b u,b≠e->s.heap.get? b=some u->h'.get? b=some u) (heo:∃ u,h'.get? e=some u)
  (new:bZ X.prog X.w (upd H x o) h' x o):Inv X pz σ (upd H x o) { s with heap:=h',toks:=t' }:=I.un (Un.write mu he k heo) (I.hok.write mu he k heo new)
def Inv.pins_of {pins':T0b} (I:Inv X pz σ H s) (h:∀ p∈pins',s.heap.get? p.1=some p.2/\H p.1=none/\p.1≠X.env.locals/\p.1∉X.fs/\∀ v,p.2.data≠.cell v):Inv X pins' σ H s:=
 ⟨I.ok,I.os,I.bare,I.base,I.loc,I.cell,I.free,I.freeC,λp hp=>(jD.mp hp).elim (λz=>I.pin p (kQ _ z)) (h p),I.hok,I.len⟩
def a5U (hN:N.Nodup) {x:Str} (a:N[i]?=some x) (b:N[j]?=some x):i=j:=by
 obtain ⟨h1,e1⟩:=qS.mp a;obtain ⟨h2,e2⟩:=qS.mp b;exact (wc hN).mp (e1.trans e2.symm)
def a3j {x:Str} {Q:Unit->Shared->Prop} (I:Inv X pz σ H s) (hN:X.N.Nodup) (hi:X.N[i]?=some x) (hx:Loc X.env.scope x) (r:RelV v u)
  (h:∀ s',Inv X pz (σ.set i (some v)) H s'->(∃ a,kB a s.heap s'.heap/\(a=X.env.locals\/X.env.cells.lookup x=some a))->Q () s') (hf:X.fn x=true\/X.env.scope.names.lookup x=some .local:=by first | exact .inl rfl | exact .inr rfl | assumption):wpAny M A (storeName X.env x u) Q E s:=by
 obtain ⟨m,hn,hl⟩:=id I.loc;have hcls:(X.env.scope.kind==.class || (X.env.scope.kind==.module&&X.env.locals != X.env.globals))=false:=by rw [I.ok.kind];rfl
 have hiσ:i<σ.length:=by rw [I.len];exact (qS.mp hi).1
 have cne:=I.cne;have tracked:∀ {a:Addr} {h':Heap},(∃ o,s.heap.get? a=some o/\H a=none)->kB a s.heap h'->HOk X.prog X.w H h':=λ{a h'} ha hs b ob e=>by
  obtain ⟨_,_,hfree⟩:=ha;refine (I.hok b ob e).stay (λc w' hc q=>(hs.2 c ?_).trans q) (λ_ q=>q) λ_ _ q=>q;rintro rfl;rcases hc with rfl | hc
  ·rw [hfree] at e;cases e
  ·rw [hfree] at hc;cases hc
 rcases hx with hk | hk
 ·refine wpAny_storeName_local hk hn (λh' hn' hs=>?_) hcls
  obtain ⟨oL,_,_,hoL,_⟩:=id hn;refine h _ ⟨I.ok,I.os,I.bare,⟨λb o e n hb hx=>?_,λb o e n hb hx=>?_,I.base.free,λb o e hx=>?_,I.base.tups,I.base.frzs,I.base.tbls⟩,⟨_,hn',λj y v' e1 e2 e3=>?_⟩,λy c e=>?_,I.free,I.freeC,λp hp=>?_,tracked ⟨oL,hoL,I.free⟩ hs,by simpa using I.len⟩ ⟨_,hs,.inl rfl⟩
  ·exact (hs.2 b (qW (qX (qM e) I.ok.above))).trans (I.base.keep b o e n hb hx)
  ·obtain ⟨sl,e1⟩:=I.base.slot b o e n hb hx
   exact ⟨sl,(hs.2 b (qW (qX (qM e) I.ok.above))).trans e1⟩
  ·obtain ⟨o',e1⟩:=I.base.there b o e hx
   exact ⟨o',(hs.2 b (qW (qX (qM e) I.ok.above))).trans e1⟩
  ·by_cases hj:j=i
   ·subst hj
    rw [hi] at e1;cases e1;rw [va hiσ] at e2;cases e2;exact ⟨u,r,.inl ⟨hk,by simp⟩⟩
   ·rw [qh (jJ hj)] at e2
    obtain ⟨u',r',q⟩:=hl j y v' e1 e2 e3;refine ⟨u',r',?_⟩;rcases q with ⟨k,e⟩ | ⟨k,c,e,z⟩
    ·refine .inl ⟨k,?_⟩
     have:y≠x:=λe=>hj (a5U hN e1 (e▸hi));simp [this,e]
    ·exact .inr ⟨k,c,e,z.sameBut hs (cne y c e)⟩
  ·obtain ⟨w',z⟩:=I.cell y c e
   exact ⟨w',z.sameBut hs (cne y c e)⟩
  ·obtain ⟨e,n,ne,nf,d⟩:=I.pin p hp
   exact ⟨(hs.2 p.1 ne).trans e,n,ne,nf,d⟩
 ·have hfn:X.fn x=true:=by
   rcases hf with z | z
   ·exact z
   ·rw [z] at hk;cases hk
  obtain ⟨c,hc⟩:=I.ok.has x (.inl hk);obtain ⟨w',z⟩:=I.cell x c hc;refine wpAny_storeName_cell I.ok.kind hk hc z (λh' hc' hs=>?_);obtain ⟨oc,hoc,hocd⟩:=id z;refine h { s with heap:=h' } ⟨I.ok,I.os,I.bare,⟨λb o e n hb hx=>?_,λb o e n hb hx=>?_,I.base.free,λb o e hx=>?_,I.base.tups,I.base.frzs,I.base.tbls⟩,⟨m,hn.sameBut hs (jJ (cne x c hc)),λj y v' e1 e2 e3=>?_⟩,λy c' e=>?_,I.free,I.freeC,λp hp=>?_,tracked ⟨oc,hoc,I.freeC x c hc⟩ hs,by simpa using I.len⟩ ⟨c,hs,.inr hc⟩
  ·exact (hs.2 b (qW (qX (qM e) (I.ok.cab x c hfn hc)))).trans (I.base.keep b o e n hb hx)
  ·obtain ⟨sl,e1⟩:=I.base.slot b o e n hb hx
   exact ⟨sl,(hs.2 b (qW (qX (qM e) (I.ok.cab x c hfn hc)))).trans e1⟩
  ·obtain ⟨o',e1⟩:=I.base.there b o e hx
   exact ⟨o',(hs.2 b (qW (qX (qM e) (I.ok.cab x c hfn hc)))).trans e1⟩
  ·by_cases hj:j=i
   ·subst hj
    rw [hi] at e1;cases e1;rw [va hiσ] at e2;cases e2;exact ⟨u,r,.inr ⟨.inl hk,c,hc,hc'⟩⟩
   ·rw [qh (jJ hj)] at e2
    obtain ⟨u',r',q⟩:=hl j y v' e1 e2 e3;refine ⟨u',r',?_⟩;rcases q with q | ⟨k,c',e,z'⟩
    ·exact .inl q
    ·refine .inr ⟨k,c',e,z'.sameBut hs ?_⟩
     rintro rfl;exact hj (a5U hN e1 (I.ok.inj _ _ _ e hc▸hi))
  ·by_cases hcc:c'=c
   ·subst hcc;exact ⟨_,hc'⟩
   ·obtain ⟨w2,z2⟩:=I.cell y c' e
    exact ⟨w2,z2.sameBut hs hcc⟩
  ·obtain ⟨e,n,ne,nf,d⟩:=I.pin p hp
   refine ⟨(hs.2 p.1 ?_).trans e,n,ne,nf,d⟩;intro q;rw [q,hoc] at e;have q':oc=p.2:=qB e;exact d w' (by rw [<-q'];exact hocd)
def rP {x:Str} {Q:Unit->Shared->Prop} (I:Inv X pz σ H s) (hN:X.N.Nodup) (hi:X.N[i]?=some x) (hx:Loc X.env.scope x) (r:RelV v u)
  (h:∀ s',Inv X pz (σ.set i (some v)) H s'->Q () s') (hf:X.fn x=true\/X.env.scope.names.lookup x=some .local:=by first | exact .inl rfl | exact .inr rfl | assumption):wpAny M A (storeName X.env x u) Q E s:=
 a3j I hN hi hx r (λs' I' _=>h s' I') hf
def Inv.call' (I:Inv X pz σ H s) (ho:s'.os=s.os) (u:Un (frs X.stack) ch H H' s.heap s'.heap) (hok:HOk X.prog X.w H' s'.heap) (hg:u6 s'.gens)
  (hch:∀ b∈ch,(b∈X.ex\/X.s₀.heap.objs.size<=b)/\b≠X.env.locals/\(∀ x c,X.env.cells.lookup x=some c->c≠b)/\∀ p∈X.pn++pz,p.1≠b):Inv X pz σ H' s':=by
 obtain ⟨h',g',d',t',o'⟩:=s';have e:o'=s.os:=ho;subst e;exact I.call (g':=g') (t':=t') (d':=d') u hok hg hch
end
abbrev XK:=Value->Option Addr->Hp->Prop
abbrev St:=List (Option V)
abbrev VK:=V->Hp->Prop
abbrev TE:=St->Hp->VK->Prop
abbrev TT:=St->Hp->(Bool->Hp->Prop)->Prop
abbrev TA:=St->Hp->(List V->Hp->Prop)->Prop
structure Ends where
 nx:St->Hp->Prop
 rt:VK
 bk:St->Hp->Prop:=λ_ _=>False
 ct:St->Hp->Prop:=λ_ _=>False
abbrev TS:=Ends->St->Hp->Prop
def EP (X:Cx) (pz:T0b) (σ:St) (Q:VK) (u:Value) (s':Shared):Prop:=∃ v H',Inv X pz σ H' s'/\RelV v u/\Q v H'
def TP (X:Cx) (pz:T0b) (σ:St) (Q:Bool->Hp->Prop) (b:Bool) (s':Shared):Prop:=∃ H',Inv X pz σ H' s'/\Q b H'
def AP (X:Cx) (pz:T0b) (σ:St) (Q:List V->Hp->Prop) (us:T0m) (s':Shared):Prop:=∃ vs H',Inv X pz σ H' s'/\bB vs us/\Q vs H'
def SP (X:Cx) (pz:T0b) (D:Ends) (f:Flow) (s':Shared):Prop:=
 match f with
 | .next=>∃ σ' H',Inv X pz σ' H' s'/\D.nx σ' H'
 | .brk=>∃ σ' H',Inv X pz σ' H' s'/\D.bk σ' H'
 | .cont=>∃ σ' H',Inv X pz σ' H' s'/\D.ct σ' H'
 | .ret u=>∃ v σ' H',Inv X pz σ' H' s'/\RelV v u/\D.rt v H'
def PE (X:Cx) (e:Expr) (t:TE):Prop:=
 ∀ (pz:T0b) (s:Shared) (σ:St) (H:Hp) (Q:VK),Inv X pz σ H s->t σ H Q->wpAny (model X.prog X.w) X.A (eval e X.env) (EP X pz σ Q) X.xe s
def PT (X:Cx) (e:Expr) (t:TT):Prop:=
 ∀ (pz:T0b) (s:Shared) (σ:St) (H:Hp) (Q:Bool->Hp->Prop),Inv X pz σ H s->t σ H Q->wpAny (model X.prog X.w) X.A (isTrue e X.env (eval e X.env)) (TP X pz σ Q) X.xe s
def PW (X:Cx) (e:Expr) (t:TT):Prop:=
 ∀ (whole:Sem Value) (pz:T0b) (s:Shared) (σ:St) (H:Hp) (Q:Bool->Hp->Prop),Inv X pz σ H s->t σ H Q->wpAny (model X.prog X.w) X.A (isTrue e X.env whole) (TP X pz σ Q) X.xe s
def PA (X:Cx) (es:T0n) (t:TA):Prop:=
 ∀ (pos:Pos) (pz:T0b) (s:Shared) (σ:St) (H:Hp) (Q:List V->Hp->Prop),Inv X pz σ H s->t σ H Q->wpAny (model X.prog X.w) X.A (spliced (v0 pos (j4 es X.env))) (AP X pz σ Q) X.xe s
def PS (X:Cx) (st:Stmt) (t:TS):Prop:=
 ∀ (pz:T0b) (s:Shared) (σ:St) (H:Hp) (D:Ends),Inv X pz σ H s->t D σ H->wpAny (model X.prog X.w) X.A (exec st X.env) (SP X pz D) X.xe s
def PSs (X:Cx) (st:List Stmt) (t:TS):Prop:=
 ∀ (pz:T0b) (s:Shared) (σ:St) (H:Hp) (D:Ends),Inv X pz σ H s->t D σ H->wpAny (model X.prog X.w) X.A (execs st X.env) (SP X pz D) X.xe s
def thn {α:Type} {t:Sem α} {Q Q':α->Shared->Prop} (h:wpAny M A t Q E s) (hQ:∀ a s,Q a s->Q' a s):wpAny M A t Q' E s:=wz h hQ λ_ _ x=>x
variable {σ:St} {ta tb:TE}
section
def b9V (i:Nat):TE:=λσ H Q=>∃ v,σ[i]?=some (some v)/\Q v H
def tC (v:V):TE:=λ_ H Q=>Q v H
def dR {x:Str} (hN:X.N[i]?=some x) (hv:Vis X.env.scope x) (hd:(x==("__debug__" : Str))=false:=by decide) (hcd:(x==("__classdict__" : Str))=false:=by decide):PE X (.Name x pos) (b9V i):=by
 intro pz s σ H Q I h;obtain ⟨v,e,h⟩:=h;obtain ⟨m,hn,hl⟩:=I.loc;obtain ⟨u,r,l⟩:=hl i x v hN e hv;have fin:EP X pz σ Q u s:=⟨v,H,I,r,h⟩;rcases l with ⟨hk,hm⟩ | ⟨hk,c,hc,hcell⟩
 ·exact wpAny_Name (wpAny_loadName_local I.ok.kind hk hn hm fin) hd
 ·rcases hk with hk | hk
  ·exact wpAny_Name (wpAny_loadName_cell I.ok.kind hk hc hcell fin) hd
  ·exact wpAny_Name (wpAny_loadName_free I.ok.kind hk hc hcell fin hcd) hd
def b2q {i j pos:_}:PE X (.Constant (.int i) j pos) (tC (.int i)):=λ_ _ _ H _ I h=>wpAny_Constant_int ⟨.int i,H,I.tok _,⟨_,rfl⟩,h⟩
def c0z {b j pos:_}:PE X (.Constant (.bool b) j pos) (tC (.bl b)):=λ_ _ _ H _ I h=>Constant_bool ⟨.bl b,H,I,rfl,h⟩
def b8h {j pos:_}:PE X (.Constant .none j pos) (tC .non):=λ_ _ _ H _ I h=>Constant_none ⟨.non,H,I,rfl,h⟩
def b2m {x j pos:_}:PE X (.Constant (.str x) j pos) (tC (.str x)):=λ_ _ _ H _ I h=>Calls.Constant_str ⟨.str x,H,I.tok _,⟨_,rfl⟩,h⟩
def Gl (X:Cx) (x:Str):Prop:=X.env.kindOf x=some .globalImplicit
def a8W {x:Str} (I:Inv X pz σ H s) (hg:Gl X x) (hm:X.mg x=some u) (h:Q u s)
  (hd:(x==("__debug__" : Str))=false:=by decide):wpAny (model X.prog X.w) X.A (eval (.Name x pos) X.env) Q E s:=
 Calls.Name_function_global I.ok.kind hg (Calls.loadGlobal_global (by rw [I.ok.glob];exact I.mod.glob.keeps I.bk) hm h) hd
def iG {x:Str} (I:Inv X pz σ H s) (hg:Gl X x) (hm:X.mg x=none) (hv:wg x=some u) (h:Q u s)
  (hn:x ≠ "__name__":=by decide) (hd:(x==("__debug__" : Str))=false:=by decide):wpAny (model X.prog X.w) X.A (eval (.Name x pos) X.env) Q E s:=by
 obtain ⟨mb,h1,h2⟩:=I.mod.blt;exact Calls.Name_function_global I.ok.kind hg (Calls.loadGlobal_builtin (by rw [I.ok.glob];exact I.mod.glob.keeps I.bk) hm (by rw [I.ok.blt];exact h1.keeps I.bk) ((h2 x hn).trans hv) h) hd
def b5q {x:Str} (hg:Gl X x) (hm:X.mg x=none) (hv:wg x=some u) (r:RelV v u) (hn:x ≠ "__name__":=by decide) (hd:(x==("__debug__" : Str))=false:=by decide):PE X (.Name x pos) (tC v):=
 λ_ _ _ H _ I h=>iG I hg hm hv ⟨v,H,I,r,h⟩ hn hd
variable {a b:Expr}
def PC (X:Cx) (op:CmpOp) (a b:Expr) (t:TE):Prop:=
 ∀ (pz:T0b) (s:Shared) (σ:St) (H:Hp) (Q:VK),Inv X pz σ H s->t σ H Q ->
  wpAny (model X.prog X.w) X.A (eval a X.env) (λv s1z=>wpAny (model X.prog X.w) X.A (eval b X.env) (λu s2z=>wpAny (model X.prog X.w) X.A (wf op v u) (EP X pz σ Q) X.xe s2z) X.xe s1z) X.xe s
def b2B (b:Expr) (h:op≠.In) (h2:op≠.NotIn):ww op b=false:=by
 have e1:(op==CmpOp.In)=false:=by cases op<;>first | rfl | exact absurd rfl h
 have e2:(op==CmpOp.NotIn)=false:=by cases op<;>first | rfl | exact absurd rfl h2
 cases b<;>simp [ww,e1,e2]
def tB (t:TE):TT:=λσ H Q=>t σ H λx H1=>∃ c,x=.bl c/\Q c H1
def b7Y {t:TE} (h:PC X op a b t) (h1:ww op b=false:=by first | exact b2B _ (by decide) (by decide) | rfl):PT X (.Compare a [op] [b] pos) (tB t):=by
 intro pz s σ H Q I hw;refine ut (thn (h pz s σ H _ I hw) λv s1 h1=>thn h1 λu s2 h2=>thn h2 λc s3 ⟨x,H1,I1,r1,q1⟩=>?_) h1;obtain ⟨d,rfl,q⟩:=q1;cases r1;exact v9 ⟨H1,I1,q⟩
variable {tA tB':TT} {rest:T0n}
def c1R (t u:TT):TT:=λσ H Q=>t σ H λc H1=>if c=true then u σ H1 Q else Q false H1
def tOr (t u:TT):TT:=λσ H Q=>t σ H λc H1=>if c=true then Q true H1 else u σ H1 Q
def c1J (t:TT):TT:=λσ H Q=>t σ H λc H1=>Q (!c) H1
def b4X (ha:PT X a tA):PW X (.BoolOp .And [a] pos) tA:=by
 intro wh pz s σ H Q I h;refine isTrue_and (thn (ha pz s σ H Q I h) λc s1 e=>?_);cases c with
 | true=>exact isTrue_and_nil e
 | false=>exact e
def b7U (ha:PT X a tA):PW X (.BoolOp .Or [a] pos) tA:=by
 intro wh pz s σ H Q I h;refine isTrue_or (thn (ha pz s σ H Q I h) λc s1 e=>?_);cases c with
 | false=>exact isTrue_or_nil e
 | true=>exact e
def b7V (ha:PT X a tA) (hb:PW X (.BoolOp .And (b::rest) pos) tB'):PW X (.BoolOp .And (a::b::rest) pos) (c1R tA tB'):=by
 intro wh pz s σ H Q I h;refine isTrue_and (thn (ha pz s σ H _ I h) λc s1 ⟨H1,I1,q1⟩=>?_);cases c with
 | true=>exact hb wh pz s1 σ H1 Q I1 q1
 | false=>exact ⟨H1,I1,q1⟩
def c0r (ha:PT X a tA) (hb:PW X (.BoolOp .Or (b::rest) pos) tB'):PW X (.BoolOp .Or (a::b::rest) pos) (tOr tA tB'):=by
 intro wh pz s σ H Q I h;refine isTrue_or (thn (ha pz s σ H _ I h) λc s1 ⟨H1,I1,q1⟩=>?_);cases c with
 | true=>exact ⟨H1,I1,q1⟩
 | false=>exact hb wh pz s1 σ H1 Q I1 q1
def b7X (ha:PT X a tA):PT X (.UnaryOp .Not a pos) (c1J tA):=by
 intro pz s σ H Q I h;exact isTrue_not (ha pz s σ H (λc H1=>Q (!c) H1) I h)
def c0f (ta tb:TE):TE:=λσ H Q=>ta σ H λx H1=>∃ c,x=.bl c/\if c=true then tb σ H1 Q else Q (.bl false) H1
def b9X (ta:TE):TE:=λσ H Q=>ta σ H λx H1=>∃ c,x=.bl c/\Q (.bl (!c)) H1
def b8f {op:_} {t:TE} (h:PE X a t):PE X (.BoolOp op [a] pos) t:=λpz s σ H Q I hw=>BoolOp_one (h pz s σ H Q I hw)
def b8k (ha:PE X a ta) (hb:PE X (.BoolOp .And (b::rest) pos) tb):PE X (.BoolOp .And (a::b::rest) pos) (c0f ta tb):=by
 intro pz s σ H Q I h;refine BoolOp_and (thn (ha pz s σ H _ I h) λv s1 ⟨x,H1,I1,r1,q1⟩=>?_);obtain ⟨c,rfl,q1⟩:=q1;cases r1;refine v9 ?_;cases c with
 | true=>exact hb pz s1 σ H1 Q I1 q1
 | false=>exact ⟨.bl false,H1,I1,rfl,q1⟩
def b8g (ha:PE X a ta):PE X (.UnaryOp .Not a pos) (b9X ta):=by
 intro pz s σ H Q I h;refine UnaryOp_ (thn (ha pz s σ H _ I h) λv s1 ⟨x,H1,I1,r1,q1⟩=>?_);obtain ⟨c,rfl,q1⟩:=q1;cases r1;exact not_of (v9 ⟨.bl (!c),H1,I1,rfl,q1⟩)
def tIf (t:TT) (ta tb:TE):TE:=λσ H Q=>t σ H λc H1=>if c=true then ta σ H1 Q else tb σ H1 Q
def b2r (hc:PT X c tA) (ha:PE X a ta) (hb:PE X b tb):PE X (.IfExp c a b pos) (tIf tA ta tb):=by
 intro pz s σ H Q I h;refine wpAny_IfExp (thn (hc pz s σ H _ I h) λd s1 ⟨H1,I1,q1⟩=>?_);cases d with
 | true=>exact ha pz s1 σ H1 Q I1 q1
 | false=>exact hb pz s1 σ H1 Q I1 q1
end
def SqL (K:qC) (H:Hp) (a:Addr) (xs:List V):Prop:=
 Rd H a (.lst xs) \/
  ∃ (o:Obj) (its:Array Value) (n:Nat),K.lookup a=some o/\o.cls=.type "list" /\ o.dict=none/\o.data=.seq its n/\its.size<=j5/\bB xs its.toList
def SqT (K:qC) (H:Hp) (a:Addr) (xs:List V):Prop:=
 Rd H a (.tup xs) \/
  ∃ (o:Obj) (its:Array Value) (n:Nat),K.lookup a=some o/\o.cls=.type "tuple" /\ o.data=.seq its n/\its.size<=j5/\bB xs its.toList
noncomputable def c2J:Value->Option V
 | .none=>some .non
 | .bool b=>some (.bl b)
 | .int i _=>some (.int i)
 | .str x _=>some (.str x)
 | .bytes b _=>some (.byt b)
 | .float b _=>some (.flt b)
 | .ref a=>some (.ref a)
 | .type n=>some (.ty n)
 | _=>none
theorem RelV.abs {x:V} (r:RelV x u):c2J u=some x:=by
 cases x with
 | non=>cases r;rfl
 | bl _=>cases r;rfl
 | int _=>obtain ⟨t,rfl⟩:=r;rfl
 | str _=>obtain ⟨t,rfl⟩:=r;rfl
 | byt _=>obtain ⟨t,rfl⟩:=r;rfl
 | flt _=>obtain ⟨t,rfl⟩:=r;rfl
 | ref _=>cases r;rfl
 | ty _=>cases r;rfl
variable {y:V}
theorem RelV.inj {x:V} (r:RelV x u) (q:RelV y u):x=y:=qB (r.abs.symm.trans q.abs)
theorem bB.inj:∀ {xs ys:List V} {us:T0m},bB xs us->bB ys us->xs=ys
 | _,_,_,.nil,.nil=>rfl
 | _,_,_,.cons r t,.cons r' t'=>by rw [r.inj r',bB.inj t t']
variable {xs:List V}
section
variable {ys:List V}
theorem SqL.of {K:qC} (h:H a=some (.lst xs)):SqL K H a xs:=.inl (.inl h)
theorem SqT.of {K:qC} (h:H a=some (.tup xs)):SqT K H a xs:=.inl (.inl h)
theorem Inv.list (I:Inv X pz σ H s) (h:SqL X.K H a xs):∃ its:List Value,bB xs its/\PlainL s.heap a its.toArray/\xs.length<=j5:=by
 rcases h with h | ⟨o,its,n,hk,hc,hd,hs,hz,r⟩
 ·obtain ⟨z,its,n,r,e⟩:=h.ok I.hok
  exact ⟨its,r,⟨_,n,e,rfl,rfl,rfl⟩,z⟩
 ·refine ⟨its.toList,r,⟨o,n,I.kIn a o hk,hc,hd,by simpa using hs⟩,?_⟩
  have e:=r.length;simp only [qP] at e;omega
def Inv.tuple (I:Inv X pz σ H s) (h:SqT X.K H a xs):∃ its:List Value,bB xs its/\IsTup s.heap a its.toArray/\xs.length<=j5:=by
 rcases h with h | ⟨o,its,n,hk,hc,hs,hz,r⟩
 ·obtain ⟨z,its,r,p⟩:=h.ok I.hok
  exact ⟨its,r,p,z⟩
 ·refine ⟨its.toList,r,⟨o,I.kIn a o hk,hc,n,by simpa using hs⟩,?_⟩
  have e:=r.length;simp only [qP] at e;omega
def Inv.list_inj (I:Inv X pz σ H s) (h:SqL X.K H a xs) (h':SqL X.K H a ys):xs=ys:=by
 obtain ⟨its,r,⟨o,n,e,_,_,d⟩,_⟩:=I.list h;obtain ⟨its',r',⟨o',n',e',_,_,d'⟩,_⟩:=I.list h';rw [e] at e';cases e';rw [d] at d';injection d' with d1 _;have:its=its':=by simpa using congrArg wW d1
 subst this;exact r.inj r'
def Inv.tuple_inj (I:Inv X pz σ H s) (h:SqT X.K H a xs) (h':SqT X.K H a ys):xs=ys:=by
 obtain ⟨its,r,⟨o,e,_,n,d⟩,_⟩:=I.tuple h;obtain ⟨its',r',⟨o',e',_,n',d'⟩,_⟩:=I.tuple h';rw [e] at e';cases e';rw [d] at d';injection d' with d1 _;have:its=its':=by simpa using congrArg wW d1
 subst this;exact r.inj r'
end
abbrev Cx.wish (X:Cx) (E:T0a):Cx:={ X with xe:=E }
abbrev Cx.nox (X:Cx):Cx:=X.wish λ_ _=>False
theorem Cx.Ok.wish {X:Cx} (ok:X.Ok) (E:T0a):(X.wish E).Ok:=
 ⟨ok.mod,ok.kind,ok.glob,ok.blt,ok.above,ok.inj,ok.has,ok.cab,ok.hd,ok.frames,ok.stk,ok.exf,ok.bs,ok.bsz,ok.noex,ok.exfs,ok.funs,ok.frf⟩
theorem Cx.Ok.unwish (ok:(X.wish E).Ok):X.Ok:=
 ⟨ok.mod,ok.kind,ok.glob,ok.blt,ok.above,ok.inj,ok.has,ok.cab,ok.hd,ok.frames,ok.stk,ok.exf,ok.bs,ok.bsz,ok.noex,ok.exfs,ok.funs,ok.frf⟩
theorem Inv.wish (I:Inv X pz σ H s) (E:T0a):Inv (X.wish E) pz σ H s:=⟨I.ok.wish E,I.os,I.bare,I.base,I.loc,I.cell,I.free,I.freeC,I.pin,I.hok,I.len⟩
theorem Inv.unwish (I:Inv (X.wish E) pz σ H s):Inv X pz σ H s:=⟨I.ok.unwish,I.os,I.bare,I.base,I.loc,I.cell,I.free,I.freeC,I.pin,I.hok,I.len⟩
theorem SP.unwish {D:Ends} {f:Flow} {s':Shared} (h:SP (X.wish E) pz D f s'):SP X pz D f s':=by
 cases f with
 | next=>obtain ⟨σ',H',I,q⟩:=h;exact ⟨σ',H',I.unwish,q⟩
 | brk=>obtain ⟨σ',H',I,q⟩:=h;exact ⟨σ',H',I.unwish,q⟩
 | cont=>obtain ⟨σ',H',I,q⟩:=h;exact ⟨σ',H',I.unwish,q⟩
 | ret u=>obtain ⟨v,σ',H',I,r,q⟩:=h;exact ⟨v,σ',H',I.unwish,r,q⟩
theorem PSs.nox {st:List Stmt} {t:TS} (h:PSs X.nox st t):PSs X st t:=λpz s σ H D I hw=>
 wz (h pz s σ H D (I.wish _) hw) (λ_ _ q=>q.unwish) λ_ _ z=>jN z
variable {te:TE} {tc:TT}
section
variable {rest:List Stmt} {t u:TS}
def b9Y:TS:=λD σ H=>D.nx σ H
def c1G (t u:TS):TS:=λD σ H=>t { D with nx:=u D } σ H
def b5b:PSs X [] b9Y:=λ_ _ σ H _ I h=>u3 ⟨σ,H,I,h⟩
def a1Q (h1:PS X st t) (h2:PSs X rest u):PSs X (st::rest) (c1G t u):=by
 intro pz s σ H D I h;refine uw (thn (h1 pz s σ H { D with nx:=u D } I h) λf s1 q=>?_);cases f with
 | next=>
  obtain ⟨σ',H',I',q⟩:=q;exact h2 pz s1 σ' H' D I' q
 | ret v=>exact q
 | brk=>exact q
 | cont=>exact q
def a4E (h1:PS X st t):PSs X [st] t:=by
 intro pz s σ H D I h;refine uw (thn (h1 pz s σ H D I h) λf s1 q=>?_);cases f with
 | next=>exact u3 q
 | ret v=>exact q
 | brk=>exact q
 | cont=>exact q
def Inv.quiet (I:Inv X pz σ H s):interactive X.env=false:=by simp [interactive,I.ok.kind]
def c0b (te:TE):TS:=λD σ H=>te σ H λ_ H1=>D.nx σ H1
def a1o (he:PE X e te) (hs:wm e none pos.line X.env=pure false:=by rfl):PS X (.Expr e pos) (c0b te):=by
 intro pz s σ H D I h;exact wpAny_Expr_any (thn (he pz s σ H _ I h) λv s1 ⟨x,H1,I1,r1,q1⟩=>⟨σ,H1,I1,q1⟩) I.quiet hs
def c1H (te:TE):TS:=λD σ H=>te σ H D.rt
def b2d (he:PE X e te):PS X (.Return (some e) pos) (c1H te):=by
 intro pz s σ H D I h;exact wpAny_Return_some (thn (he pz s σ H _ I h) λv s1 ⟨x,H1,I1,r1,q1⟩=>⟨x,σ,H1,I1,r1,q1⟩)
def c1L (c:TT) (t u:TS):TS:=λD σ H=>c σ H λb H1=>if b=true then t D σ H1 else u D σ H1
def c0w {a b:List Stmt} (hc:PT X c tc) (ha:PSs X a t) (hb:PSs X b u):PS X (.If c a b pos) (c1L tc t u):=by
 intro pz s σ H D I h;refine wpAny_If (thn (hc pz s σ H _ I h) λd s1 ⟨H1,I1,q1⟩=>?_);cases d with
 | true=>exact ha pz s1 σ H1 D I1 q1
 | false=>exact hb pz s1 σ H1 D I1 q1
end
abbrev TG:=V->St->Hp->(St->Hp->Prop)->Prop
abbrev TGs:=List V->St->Hp->(St->Hp->Prop)->Prop
def PG (X:Cx) (target:Expr) (t:TG):Prop:=
 ∀ (pz:T0b) (s:Shared) (σ:St) (H:Hp) (v:V) (u:Value) (Q:St->Hp->Prop),Inv X pz σ H s->RelV v u->t v σ H Q ->
  wpAny (model X.prog X.w) X.A (assign target X.env u) (λ_ s'=>∃ σ' H',Inv X pz σ' H' s'/\Q σ' H') X.xe s
def PGs (X:Cx) (ts:T0n) (t:TGs):Prop:=
 ∀ (pz:T0b) (s:Shared) (σ:St) (H:Hp) (vs:List V) (us:T0m) (Q:St->Hp->Prop),Inv X pz σ H s->bB vs us->t vs σ H Q ->
  wpAny (model X.prog X.w) X.A (assignInOrder ((ye ts X.env).map (·.2)) us) (λ_ s'=>∃ σ' H',Inv X pz σ' H' s'/\Q σ' H') X.xe s
abbrev TIp:=V->V->Hp->VK->Prop
def PIp (X:Cx) (op:Operator) (t:TIp):Prop:=
 ∀ (pz:T0b) (s:Shared) (σ:St) (H:Hp) (x y:V) (v u:Value) (Q:VK),Inv X pz σ H s->RelV x v->RelV y u->t x y H Q ->
  wpAny (model X.prog X.w) X.A (inplaceOp op v u) (EP X pz σ Q) X.xe s
def b3w (i:Nat):TG:=λv σ H Q=>Q (σ.set i (some v)) H
def b5l {x:Str} (hN:X.N.Nodup) (hi:X.N[i]?=some x) (hx:Loc X.env.scope x) (hf:X.fn x=true\/X.env.scope.names.lookup x=some .local:=by first | exact .inl rfl | exact .inr rfl | assumption):PG X (.Name x pos) (b3w i):=by
 intro pz s σ H v u Q I r h;exact wpAny_assign_Name (rP I hN hi hx r (λs' I'=>⟨_,H,I',h⟩) hf)
def c2z:TGs:=λvs σ H Q=>vs=[]/\Q σ H
def c1a (t:TG) (u:TGs):TGs:=λvs σ H Q=>∃ v r,vs=v::r/\t v σ H λσ' H'=>u r σ' H' Q
def b5j:PGs X [] c2z:=by
 intro pz s σ H vs us Q I r h;obtain ⟨e,h⟩:=h;subst e;cases r;exact assignInOrder_nil ⟨σ,H,I,h⟩
def b2l {e:Expr} {t:TG} {u:TGs} (h1:PG X e t) (h2:PGs X es u)
  (hs:(ye (e::es) X.env).map (·.2)=assign e X.env::(ye es X.env).map (·.2):=by rfl):PGs X (e::es) (c1a t u):=by
 intro pz s σ H vs us Q I r h;obtain ⟨v,vr,e1,h⟩:=h;subst e1;cases r with
 | cons r rr=>
  rw [hs];refine QA (thn (h1 pz s σ H _ _ _ I r h) λ_ s1 ⟨σ1,H1,I1,q1⟩=>?_);exact h2 pz s1 σ1 H1 _ _ Q I1 rr q1
def c2y (K:qC) (n:Nat) (t:TGs):TG:=λv σ H Q=>∃ a xs,v=.ref a/\SqT K H a xs/\xs.length=n/\t xs σ H Q
def b8d {t:TGs} (hc:X.calm=true) (h:PGs X es t)
  (hn:(ye es X.env).length=n:=by rfl) (hst:(ye es X.env).findIdx? (·.1)=none:=by rfl):PG X (.Tuple es k pos) (c2y X.K n t):=by
 intro pz s σ H v u Q I r hw;obtain ⟨a,xs,e1,hq,hl,hw⟩:=hw;subst e1;cases r;obtain ⟨its,rv,ht,hz⟩:=I.tuple hq;refine assign_Tuple_tuple (I.ok.hd hc) ht (by simp [hn,<-hl,rv.length]) hst λh' hx=>?_;have I1:Inv X pz σ H { s with heap:=h' }:=I.kept (t':=s.toks) λb o e=>hx b o (qW (qM e)) e;exact h pz _ σ H xs _ Q I1 (by simpa using rv) hw
def c0e (te:TE) (g:TG):TS:=λD σ H=>te σ H λx H1=>g x σ H1 D.nx
def yU {x:Str} (hN:X.N.Nodup) (hi:X.N[i]?=some x) (hx:Loc X.env.scope x) (he:PE X e te) (hs:wm e (some (.Name x pos')) pos.line X.env=pure false:=by rfl) (hf:X.fn x=true\/X.env.scope.names.lookup x=some .local:=by first | exact .inl rfl | exact .inr rfl | assumption):
  PS X (.Assign [.Name x pos'] e pos) (c0e te (b3w i)):=by
 intro pz s σ H D I h;refine wpAny_Assign_Name (thn (he pz s σ H _ I h) λv s1 ⟨y,H1,I1,r1,q1⟩=>?_) hs;exact rP I1 hN hi hx r1 (λs2 I2=>⟨_,H1,I2,q1⟩) hf
def c1I (i j:Nat) (ta:TA):TS:=λD σ H=>ta σ H λvs H1=>∃ v w,vs=[v,w]/\D.nx ((σ.set i (some v)).set j (some w)) H1
def b7Z {x y:Str} {a b:Expr} {ta:TA} {py pt:Pos} {kt k2 pt2:_} (hc:X.calm=true) (hN:X.N.Nodup) (hi:X.N[i]?=some x) (hj:X.N[j]?=some y) (hij:i≠j)
  (hx:X.env.scope.names.lookup x=some .local) (hy:X.env.scope.names.lookup y=some .local) (ha:PA X [a,b] ta)
  (hw:swappedStores [.Tuple [.Name x px,.Name y py] kt pt] (.Tuple [a,b] k2 pt2) X.env=pure (some [x,y]))
  (hs:swapsWithSole [.Tuple [.Name x px,.Name y py] kt pt] (.Tuple [a,b] k2 pt2) pos.line X.env=pure false:=by rfl):
  PS X (.Assign [.Tuple [.Name x px,.Name y py] kt pt] (.Tuple [a,b] k2 pt2) pos) (c1I i j ta):=by
 intro pz s σ H D I h;rw [exec_Assign_arm];refine q8 (y0 ?_);rw [hs];refine q8 (j3 ?_);rw [if_neg (by decide)];refine q8 (Tuple_ (thn (ha _ pz s σ H _ I h) λus s1 ⟨vs,H1,I1,r1,q1⟩=>?_));obtain ⟨v,w,e1,q1⟩:=q1;subst e1;obtain ⟨u1,u2,rfl,rv,rw'⟩:∃ u1 u2,us=[u1,u2]/\RelV v u1/\RelV w u2:=by
  cases r1 with
  | cons p q=>
   cases q with
   | cons p' q'=>
    cases q';exact ⟨_,_,rfl,p,p'⟩
 refine j8 ?_ (by show 2<=j5;decide);have I2:Inv X pz σ H1 { s1 with heap:=s1.heap.push { cls:=.type "tuple", data:=.seq [u1,u2].toArray } }:=I1.kept (t':=s1.toks) λb o e=>qD _ e;rw [hw];refine q8 (j3 ?_);show wpAny (model X.prog X.w) X.A (do rule "assign.swapped-stores"; let items <-unpackItems (.ref s1.heap.objs.size) 2 none;assignInOrder [λv=>bindName X.env y v,λv=>bindName X.env x v] items.reverse;pure Flow.next) _ _ _;refine q8 (wp (q8 (unpackItems_tuple (items:=#[u1,u2]) (I.ok.hd hc) (IsTup.new s1.heap _) λh' hx'=>?_)));have I3:=I2.kept (h':=h') (t':=s1.toks) λb o e=>hx' b o (qW (qM e)) e;show wpAny _ _ (assignInOrder [λv=>bindName X.env y v,λv=>bindName X.env x v] [u2,u1]>>=λ_=>pure Flow.next) _ _ _;refine q8 (QA (wpAny_bindName (rP I3 hN hj (.inl hy) rw' (λs2 I4=>?_) (.inr hy))));refine QA (wpAny_bindName (rP I4 hN hi (.inl hx) rv (λs3 I5=>assignInOrder_nil (j3 ?_)) (.inr hx)));rw [List.set_comm _ _ (jJ hij)] at I5;exact ⟨_,H1,I5,q1⟩
def c1Q (i:Nat) (te:TE) (ti:TIp):TS:=λD σ H=>∃ x,σ[i]?=some (some x)/\te σ H λy H1=>ti x y H1 λz H2=>D.nx (σ.set i (some z)) H2
def b2e {x:Str} {op:Operator} {ti:TIp} (hN:X.N.Nodup) (hi:X.N[i]?=some x) (hx:Loc X.env.scope x) (he:PE X e te) (ho:PIp X op ti) (hf:X.fn x=true\/X.env.scope.names.lookup x=some .local:=by first | exact .inl rfl | exact .inr rfl | assumption):
  PS X (.AugAssign (.Name x pos') op e pos) (c1Q i te ti):=by
 intro pz s σ H D I h;obtain ⟨v,e1,h⟩:=h;obtain ⟨m,hn,hl⟩:=I.loc;have vis:Vis X.env.scope x:=by rcases hx with k | k;exact .inl k;exact .inr (.inl k)
 obtain ⟨u,r,l⟩:=hl i x v hi e1 vis;refine wpAny_AugAssign_Name ?_;have go:wpAny (model X.prog X.w) X.A (eval e X.env) (λw s2z=>wpAny (model X.prog X.w) X.A (inplaceOp op u w) (λr s3z=>wpAny (model X.prog X.w) X.A (storeName X.env x r) (λ_=>SP X pz D .next) X.xe s3z) X.xe s2z) X.xe s:=by
  refine thn (he pz s σ H _ I h) λw s1 ⟨y,H1,I1,r1,q1⟩=>?_;refine thn (ho pz s1 σ H1 v y u w _ I1 r r1 q1) λz s2 ⟨zv,H2,I2,r2,q2⟩=>?_;exact rP I2 hN hi hx r2 (λs3 I3=>⟨_,H2,I3,q2⟩) hf
 rcases l with ⟨hk,hm⟩ | ⟨hk,c,hc,hcell⟩
 ·exact wpAny_loadName_local I.ok.kind hk hn hm go
 ·rcases hk with hk | hk
  ·exact wpAny_loadName_cell I.ok.kind hk hc hcell go
  ·rcases hx with k | k
   ·have:X.env.scope.names.lookup x=some .free:=hk
    rw [k] at this;cases this
   ·have:X.env.scope.names.lookup x=some .free:=hk
    rw [k] at this;cases this
def ipI (f:Int->Int->Int):TIp:=λx y H Q=>∃ i j,x=.int i/\y=.int j/\Q (.int (f i j)) H
def b8X:PIp X .Add (ipI λi j=>i+j):=by
 intro pz s σ H x y v u Q I r1 r2 h;obtain ⟨i,j,e1,e2,q⟩:=h;subst e1;subst e2;obtain ⟨t,rfl⟩:=r1;obtain ⟨t',rfl⟩:=r2;exact iadd_int ⟨.int _,H,I.tok _,⟨_,rfl⟩,q⟩
def b8W:PIp X .Sub (ipI λi j=>i - j):=by
 intro pz s σ H x y v u Q I r1 r2 h;obtain ⟨i,j,e1,e2,q⟩:=h;subst e1;subst e2;obtain ⟨t,rfl⟩:=r1;obtain ⟨t',rfl⟩:=r2;exact isub_int ⟨.int _,H,I.tok _,⟨_,rfl⟩,q⟩
def b7K (c:TT) (tb:TS):TS:=λD σ H=>∃ W:Nat->St->Hp->Prop,(∃ m,W m σ H)/\∀ m σ H,W m σ H ->
 c σ H λb H1=>if b=true then ∃ N:St->Hp->Prop,(∀ σ' H',N σ' H'->∃ m',m'<m/\W m' σ' H')/\tb { D with nx:=N,ct:=N,bk:=D.nx } σ H1 else D.nx σ H1
def b2c {tb:TS} (hp:PassesOwn (model X.prog X.w) X.A X.env X.xe) (hc:PT X c tc) (hb:PSs X body tb):PS X (.While c body [] pos) (b7K tc tb):=by
 intro pz s σ H D I h;obtain ⟨W,⟨m0,w0⟩,turn⟩:=h;refine wpAny_While (codeAny_whileLoop (λn s'=>∃ σ' H',Inv X pz σ' H' s'/\W n σ' H') ?_ m0 ⟨σ,H,I,w0⟩);rintro n s1 ⟨σ1,H1,I1,w1⟩;refine yj hp (thn (hc pz s1 σ1 H1 _ I1 (turn n σ1 H1 w1)) λb s2 ⟨H2,I2,q2⟩=>?_);cases b with
 | true=>
  obtain ⟨N,hN,q2⟩:=q2;rw [if_pos rfl];refine yj hp (thn (hb pz s2 σ1 H2 _ I2 q2) λf s3 q3=>?_);cases f with
  | next=>
   obtain ⟨σ3,H3,I3,n3⟩:=q3;obtain ⟨m',hm,w3⟩:=hN σ3 H3 n3;exact ⟨m',hm,σ3,H3,I3,w3⟩
  | cont=>
   obtain ⟨σ3,H3,I3,n3⟩:=q3;obtain ⟨m',hm,w3⟩:=hN σ3 H3 n3;exact ⟨m',hm,σ3,H3,I3,w3⟩
  | brk=>exact q3
  | ret v=>exact q3
 | false=>
  rw [if_neg qa];exact u3 ⟨σ1,H2,I2,q2⟩
structure It where
 go:Nat->Hp->Prop
 yld:Nat->Hp->V->Hp->Prop
 stop:Nat->Hp->Prop
def yF (X:Cx) (pz:T0b) (H:Hp) (b:Addr):Prop:=
 H b=none/\b≠X.env.locals/\b∉X.fs/\(b∈X.ex\/X.s₀.heap.objs.size<=b)/\(∀ x c,X.env.cells.lookup x=some c->c≠b)/\∀ p∈X.pn++pz,p.1≠b
theorem Inv.fpOk (I:Inv X pz σ H s) (hb:s.heap.objs.size<=b) (hn:H' b=none):yF X pz H' b:=by
 refine ⟨hn,jW (qX I.lt hb),I.nofs hb,.inr (qi I.sz hb),λx c e z=>?_,λp hp z=>?_⟩
 ·obtain ⟨v,q⟩:=I.cell x c e
  exact absurd (qX q.lt (by rw [z];exact hb)) (jK _)
 ·exact absurd (qX (qM (I.pin p hp).1) (by rw [z];exact hb)) (jK _)
structure Turn (P:Program) (w:World) (K:qC) (tg:Expr) (J:It) (fp:T0o) (it:Addr) (tn:Nat->Heap->Prop):Prop where
 mem:it∈fp
 obj:∀ i h,tn i h->∀ b∈fp,∃ o,h.get? b=some o/\∀ v,o.data≠.cell v
 keep:∀ i h h',tn i h->(∀ b∈fp,∀ o,h.get? b=some o->h'.get? b=some o)->tn i h'
 item:∀ (X:Cx),X.prog=P->X.w=w->X.K=K->X.calm=true->∀ (i:Nat) (pz:T0b) (s:Shared) (σ:St) (H:Hp) (E:T0a),Inv X pz σ H s->(∀ b∈fp,yF X pz H b)->tn i s.heap->J.go i H ->
  wpAny (model P w) X.A (yf (.ref it)) (λr s1=>∃ u,r=some u /\
   wpAny (model P w) X.A (letOwnedTupleGo tg (.ref it) u) (λ_ s2=>∃ x H',Inv X pz σ H' s2/\RelV x u/\J.yld i H x H'/\tn (i+1) s2.heap/\∀ b∈fp,H' b=none) E s1) E s
 done:∀ (X:Cx),X.prog=P->X.w=w->X.K=K->X.calm=true->∀ (i:Nat) (pz:T0b) (s:Shared) (σ:St) (H:Hp) (E:T0a),Inv X pz σ H s->(∀ b∈fp,yF X pz H b)->tn i s.heap->J.stop i H ->
  wpAny (model P w) X.A (yf (.ref it)) (λr s1=>r=none/\Inv X pz σ H s1) E s
 self:∀ (A:Around) (i:Nat) (s:Shared) (Q:T0a) (E:T0a),tn i s.heap->Q (.ref it) s->wpAny (model P w) A (pyIter (.ref it)) Q E s
abbrev TI:=St->Hp->(It->Hp->Prop)->Prop
def PIE (X:Cx) (pz:T0b) (σ:St) (tg:Expr) (R:It->Hp->Prop) (itv:Value) (s2:Shared):Prop:=
 ∃ (it:Addr) (fp:T0o) (tn:Nat->Heap->Prop) (J:It) (H':Hp),itv=.ref it/\Inv X pz σ H' s2/\Turn X.prog X.w X.K tg J fp it tn/\tn 0 s2.heap/\(∀ b∈fp,yF X pz H' b)/\R J H'
def PI (X:Cx) (tg iter:Expr) (wi:TI):Prop:=
 ∀ (pz:T0b) (s:Shared) (σ:St) (H:Hp) (R:It->Hp->Prop),Inv X pz σ H s->wi σ H R ->
  wpAny (model X.prog X.w) X.A (eval iter X.env) (λv s1=>wpAny (model X.prog X.w) X.A (pyIter v) (PIE X pz σ tg R) X.xe s1) X.xe s
def a9i {o:Obj} {n:String} {vs:Array Value} {Q:Unit->Shared->Prop} (ho:s.heap.get? it=some o) (hc:o.cls=.type n) (hd:o.data=.fields vs)
  (hn:["enumerate", "zip", "dict_itemiterator", "dict_reverseitemiterator", "odict_iterator", "itertools.zip_longest", "itertools.pairwise"].contains n=false) (hQ:Q () s):wpAny M A (letOwnedTupleGo tg (.ref it) u) Q E s:=by
 unfold letOwnedTupleGo;cases tg<;>first
  | exact j3 hQ
  | (cases u<;>first
    | exact j3 hQ
    | (refine q8 (wpAny_load ho ?_);rw [hc,hd];show wpAny M A (if (["enumerate", "zip", "dict_itemiterator", "dict_reverseitemiterator", "odict_iterator", "itertools.zip_longest", "itertools.pairwise"].contains n&&vs[0]?==some (v7 _))=true then _ else _) Q E s;rw [if_neg (by intro h;rw [hn,vv] at h;cases h)];exact j3 hQ))
def Itl (K:qC) (a:Addr):It:=
 ⟨λi H=>∃ xs x,SqL K H a xs/\xs[i]?=some x,λi H x H'=>H'=H/\∀ xs,SqL K H a xs->xs[i]?=some x,λi H=>∃ xs,SqL K H a xs/\xs.length<=i⟩
def Itt (K:qC) (a:Addr):It:=
 ⟨λi H=>∃ xs x,SqT K H a xs/\xs[i]?=some x,λi H x H'=>H'=H/\∀ xs,SqT K H a xs->xs[i]?=some x,λi H=>∃ xs,SqT K H a xs/\xs.length<=i⟩
def a9H {K:qC} (a it:Addr):Turn P w K tg (Itl K a) [it] it (λi h=>h.IsListIter it a i) where
 mem:=by simp
 obj:=λi h st b hb=>by
  have e:b=it:=by simpa using hb
  subst e;obtain ⟨o,e,c,d⟩:=st;exact ⟨o,e,λv z=>by rw [d] at z;cases z⟩
 keep:=λi h h' st k=>st.at λo e=>k it (by simp) o e
 item:=by
  intro X hP hw hK hc i pz s σ H E I hf st hg;subst hP hw hK;obtain ⟨xs,x,hq,hx⟩:=hg;obtain ⟨its,rv,p,hz⟩:=I.list hq;obtain ⟨u,hu,ru⟩:=rv.get hx;obtain ⟨f0,f1,f2,f3,f4,f5⟩:=hf it (by simp);refine wpAny_pyNext_list_item st p.isList (x:=u) (by simpa using hu) λh' st' sb=>?_;have I1:Inv X pz σ H { s with heap:=h' }:=I.turned (t':=s.toks) (λb o hb e=>(sb.2 b hb).trans e) f0 f1 f3 f4 f5;obtain ⟨o,e,c,d⟩:=id st';exact ⟨u,rfl,a9i (s:={ s with heap:=h' }) e c d (by decide) ⟨x,H,I1,ru,⟨rfl,λys hy=>by rw [I.list_inj hy hq];exact hx⟩,st',λb hb=>(hf b hb).1⟩⟩
 done:=by
  intro X hP hw hK hc i pz s σ H E I hf st hg;subst hP hw hK;obtain ⟨xs,hq,hx⟩:=hg;obtain ⟨its,rv,p,hz⟩:=I.list hq;obtain ⟨f0,f1,f2,f3,f4,f5⟩:=hf it (by simp);have hl:=rv.length;exact wpAny_pyNext_list_end (I.ok.hd hc) st p.isList (by simp;omega) λh' eb=>⟨rfl,I.turned (t':=s.toks) (λb o hb e=>eb b o hb e) f0 f1 f3 f4 f5⟩
 self:=λ_ _ _ _ _ st h=>wpAny_pyIter_listiter st h
def a7g {K:qC} (a it:Addr):Turn P w K tg (Itt K a) [it] it (λi h=>h.IsTupleIter it a i) where
 mem:=by simp
 obj:=λi h st b hb=>by
  have e:b=it:=by simpa using hb
  subst e;obtain ⟨o,e,c,d⟩:=st;exact ⟨o,e,λv z=>by rw [d] at z;cases z⟩
 keep:=λi h h' st k=>st.at λo e=>k it (by simp) o e
 item:=by
  intro X hP hw hK hc i pz s σ H E I hf st hg;subst hP hw hK;obtain ⟨xs,x,hq,hx⟩:=hg;obtain ⟨its,rv,p,hz⟩:=I.tuple hq;obtain ⟨u,hu,ru⟩:=rv.get hx;obtain ⟨f0,f1,f2,f3,f4,f5⟩:=hf it (by simp);refine wpAny_pyNext_tuple_item st (show s.heap.IsTuple a its.toArray from p) (x:=u) (by simpa using hu) λh' st' sb=>?_;have I1:Inv X pz σ H { s with heap:=h' }:=I.turned (t':=s.toks) (λb o hb e=>(sb.2 b hb).trans e) f0 f1 f3 f4 f5;obtain ⟨o,e,c,d⟩:=id st';exact ⟨u,rfl,a9i (s:={ s with heap:=h' }) e c d (by decide) ⟨x,H,I1,ru,⟨rfl,λys hy=>by rw [I.tuple_inj hy hq];exact hx⟩,st',λb hb=>(hf b hb).1⟩⟩
 done:=by
  intro X hP hw hK hc i pz s σ H E I hf st hg;subst hP hw hK;obtain ⟨xs,hq,hx⟩:=hg;obtain ⟨its,rv,p,hz⟩:=I.tuple hq;obtain ⟨f0,f1,f2,f3,f4,f5⟩:=hf it (by simp);have hl:=rv.length;exact wpAny_pyNext_tuple_end (I.ok.hd hc) st (show s.heap.IsTuple a its.toArray from p) (by simp;omega) λh' eb=>⟨rfl,I.turned (t':=s.toks) (λb o hb e=>eb b o hb e) f0 f1 f3 f4 f5⟩
 self:=λ_ _ _ _ _ st h=>wpAny_pyIter_tupleiter st h
variable {l:Expr} {tl:TE}
def c0X (K:qC) (tl:TE):TI:=λσ H R=>tl σ H λx H1=>∃ a,x=.ref a/\(∃ xs,SqL K H1 a xs)/\R (Itl K a) H1
def c2w (K:qC) (tl:TE):TI:=λσ H R=>tl σ H λx H1=>∃ a,x=.ref a/\(∃ xs,SqT K H1 a xs)/\R (Itt K a) H1
def a8G (hl:PE X l tl):PI X tg l (c0X X.K tl):=by
 intro pz s σ H R I h;refine thn (hl pz s σ H _ I h) λv s1 ⟨x,H1,I1,r1,q1⟩=>?_;obtain ⟨a,e,⟨xs,hq⟩,q⟩:=q1;subst e;cases r1;obtain ⟨its,rv,p,hz⟩:=I1.list hq;refine ym p.isList ?_;refine ⟨s1.heap.objs.size,[s1.heap.objs.size],_,_,H1,rfl,I1.kept (t':=s1.toks) λb o e=>qD _ e,a9H a _,⟨_,qH _ rfl,rfl,rfl⟩,λb hb=>?_,q⟩;have e:b=s1.heap.objs.size:=by simpa using hb
 subst e;exact I1.fpOk (qN _) (I1.hok.fresh (qN _))
def b8c (hl:PE X l tl):PI X tg l (c2w X.K tl):=by
 intro pz s σ H R I h;refine thn (hl pz s σ H _ I h) λv s1 ⟨x,H1,I1,r1,q1⟩=>?_;obtain ⟨a,e,⟨xs,hq⟩,q⟩:=q1;subst e;cases r1;obtain ⟨its,rv,p,hz⟩:=I1.tuple hq;refine wpAny_pyIter_tuple (show s1.heap.IsTuple a its.toArray from p) ?_;refine ⟨s1.heap.objs.size,[s1.heap.objs.size],_,_,H1,rfl,I1.kept (t':=s1.toks) λb o e=>qD _ e,a7g a _,⟨_,qH _ rfl,rfl,rfl⟩,λb hb=>?_,q⟩;have e:b=s1.heap.objs.size:=by simpa using hb
 subst e;exact I1.fpOk (qN _) (I1.hok.fresh (qN _))
def c1N (wi:TI) (g:TG) (tb:TS):TS:=λD σ H=>wi σ H λJ H1=>∃ W:Nat->Nat->St->Hp->Prop,(∃ m,W 0 m σ H1)/\∀ i m σ H,W i m σ H ->
 (J.stop i H/\D.nx σ H)\/(J.go i H/\∃ N:St->Hp->Prop,(∀ σ' H',N σ' H'->∃ m',m'<m/\W (i+1) m' σ' H')/\∀ x H',J.yld i H x H'->g x σ H' λσ2 H2=>tb { D with nx:=N,ct:=N,bk:=D.nx } σ2 H2)
def uJ (fp:T0o) (h:Heap):List (Addr×Obj):=fp.filterMap λb=>(h.get? b).map λo=>(b,o)
def lR {h:Heap} {o:Obj} (hb:b∈fp) (e:h.get? b=some o):(b,o)∈uJ fp h:=List.mem_filterMap.mpr ⟨b,hb,by rw [e];rfl⟩
def b0c {h:Heap} {p:Addr×Obj} (hp:p∈uJ fp h):p.1∈fp/\h.get? p.1=some p.2:=by
 obtain ⟨b,hb,e⟩:=List.mem_filterMap.mp hp;cases q:h.get? b with
 | none=>rw [q] at e;cases e
 | some o=>
  rw [q] at e;have e':(b,o)=p:=qB e;subst e';exact ⟨hb,q⟩
def Inv.pinned (I:Inv X pz σ H s) (hf:∀ b∈fp,yF X pz H b) (ho:∀ b∈fp,∃ o,s.heap.get? b=some o/\∀ v,o.data≠.cell v):Inv X (pz++uJ fp s.heap) σ H s:=
 I.pins_of λp hp=>(jD.mp hp).elim (λz=>I.pin p (qo _ z)) λz=>by
  obtain ⟨hb,e⟩:=b0c z;obtain ⟨f0,f1,f2,_⟩:=hf p.1 hb;obtain ⟨o,e',d⟩:=ho p.1 hb;rw [e] at e';cases e';exact ⟨e,f0,f1,f2,d⟩
def Inv.unpinned {pl:T0b} (I:Inv X (pz++pl) σ H s):Inv X pz σ H s:=I.pins_of λp hp=>I.pin p (qo _ (kQ _ hp))
def b8a {wi:TI} {g:TG} {tb:TS} (hp:PassesOwn (model X.prog X.w) X.A X.env X.xe) (hc:X.calm=true) (hi:PI X tg iter wi) (hg:PG X tg g) (hb:PSs X body tb)
  (hs:∀ x,wj iter X.env x=pure x:=by intro _;rfl):PS X (.For tg iter body [] pos) (c1N wi g tb):=by
 intro pz s σ H D I h;refine wpAny_For (thn (hi pz s σ H _ I h) λv s1 h1=>thn h1 λitv s2 h2=>?_) hs;obtain ⟨it,fp,tn,J,H2,e,I2,T,st2,f2,W,⟨m0,w0⟩,turn⟩:=h2;subst e
 -- what stays true of the iterator's objects through the loop
 have stat:∀ {H':Hp},(∀ b∈fp,H' b=none)->∀ b∈fp,yF X pz H' b:=λhn b hb=>⟨hn b hb,(f2 b hb).2⟩;refine codeAny_forLoop_any (λn s'=>∃ i σ' H',Inv X pz σ' H' s'/\tn i s'.heap/\(∀ b∈fp,H' b=none)/\W i n σ' H') ?_ m0 ⟨0,σ,H2,I2,st2,λb hb=>(f2 b hb).1,w0⟩;rintro n s3 ⟨i,σ3,H3,I3,st3,fr3,w3⟩;rcases turn i n σ3 H3 w3 with ⟨stop,qn⟩ | ⟨go,N,hN,step⟩
 ·refine yj hp (thn (T.done X rfl rfl rfl hc i pz s3 σ3 H3 X.xe I3 (stat fr3) st3 stop) λr s4 ⟨hr,I4⟩=>?_)
  subst hr;exact u3 ⟨σ3,H3,I4,qn⟩
 ·refine yj hp (thn (T.item X rfl rfl rfl hc i pz s3 σ3 H3 X.xe I3 (stat fr3) st3 go) λr s4 ⟨u,hr,h4⟩=>?_)
  subst hr;refine yj hp (thn h4 λ_ s5 ⟨x,H5,I5,r5,y5,st5,fr5⟩=>?_);have I5':=I5.pinned (stat fr5) (T.obj _ _ st5);refine yj hp (thn (hg _ s5 σ3 H5 x u _ I5' r5 (step x H5 y5)) λ_ s6 ⟨σ6,H6,I6,q6⟩=>?_);refine yj hp (thn (hb _ s6 σ6 H6 _ I6 q6) λf s7 q7=>?_);have again:∀ {σ7:St} {H7:Hp},Inv X (pz++uJ fp s5.heap) σ7 H7 s7->N σ7 H7->∃ m,m<n/\∃ i σ' H',Inv X pz σ' H' s7/\tn i s7.heap/\(∀ b∈fp,H' b=none)/\W i m σ' H':=λ{σ7 H7} I7 n7=>by
   obtain ⟨m',hm,w7⟩:=hN σ7 H7 n7;refine ⟨m',hm,i+1,σ7,H7,I7.unpinned,T.keep _ _ _ st5 λb hb o e=>(I7.pin (b,o) (qo _ (qo _ (lR hb e)))).1,λb hb=>?_,w7⟩;obtain ⟨o,e,d⟩:=T.obj _ _ st5 b hb;exact (I7.pin (b,o) (qo _ (qo _ (lR hb e)))).2.1
  cases f with
  | next=>obtain ⟨σ7,H7,I7,n7⟩:=q7;exact again I7 n7
  | cont=>obtain ⟨σ7,H7,I7,n7⟩:=q7;exact again I7 n7
  | brk=>obtain ⟨σ7,H7,I7,q7⟩:=q7;exact ⟨σ7,H7,I7.unpinned,q7⟩
  | ret v=>obtain ⟨x7,σ7,H7,I7,r7,q7⟩:=q7;exact ⟨x7,σ7,H7,I7.unpinned,r7,q7⟩
abbrev R2:=V->V->Hp->VK->Prop
def OpR (X:Cx) (f:Value->Value->Sem Value) (r:R2):Prop:=
 ∀ (pz:T0b) (s:Shared) (σ:St) (H:Hp) (x y:V) (v u:Value) (Q:VK),Inv X pz σ H s->RelV x v->RelV y u->r x y H Q ->
  wpAny (model X.prog X.w) X.A (f v u) (EP X pz σ Q) X.xe s
def UnR (X:Cx) (f:Value->Sem Value) (r:V->Hp->VK->Prop):Prop:=
 ∀ (pz:T0b) (s:Shared) (σ:St) (H:Hp) (x:V) (v:Value) (Q:VK),Inv X pz σ H s->RelV x v->r x H Q ->
  wpAny (model X.prog X.w) X.A (f v) (EP X pz σ Q) X.xe s
def iP (X:Cx) (f:Value) (r:List V->Hp->VK->Prop):Prop:=
 ∀ (pz:T0b) (s:Shared) (σ:St) (H:Hp) (xs:List V) (us:T0m) (Q:VK),Inv X pz σ H s->bB xs us->r xs H Q ->
  wpAny (model X.prog X.w) X.A (call f us) (EP X pz σ Q) X.xe s
def c2K (X:Cx) (r:V->Hp->(Bool->Hp->Prop)->Prop):Prop:=
 ∀ (pz:T0b) (s:Shared) (σ:St) (H:Hp) (x:V) (v:Value) (Q:Bool->Hp->Prop),Inv X pz σ H s->RelV x v->r x H Q ->
  wpAny (model X.prog X.w) X.A (truthy v) (TP X pz σ Q) X.xe s
def tOp (r:R2) (ta tb:TE):TE:=λσ H Q=>ta σ H λx H1=>tb σ H1 λy H2=>r x y H2 Q
def tUn (r:V->Hp->VK->Prop) (ta:TE):TE:=λσ H Q=>ta σ H λx H1=>r x H1 Q
def rI (C:Int->Int->Prop) (g:Int->Int->V):R2:=λx y H Q=>∃ i j,x=.int i/\y=.int j/\C i j/\Q (g i j) H
def rI0 (g:Int->Int->V):R2:=λx y H Q=>∃ i j,x=.int i/\y=.int j/\Q (g i j) H
def rU (g:Int->V):V->Hp->VK->Prop:=λx H Q=>∃ i,x=.int i/\Q (g i) H
variable {r:R2} {g:Int->Int->Int}
section
variable {a b:Expr} {tc:TE}
def b9C (ha:PE X a ta) (hb:PE X b tb) {R:V->V->Hp->Prop} (I:Inv X pz σ H s)
  (h:ta σ H λx H1=>tb σ H1 λy H2=>R x y H2) {f:Value->Value->Sem Value} 
  (hf:∀ v u s2 x y H2,Inv X pz σ H2 s2->RelV x v->RelV y u->R x y H2->wpAny (model X.prog X.w) X.A (f v u) Q X.xe s2):
  wpAny (model X.prog X.w) X.A (eval a X.env) (λv s1z=>wpAny (model X.prog X.w) X.A (eval b X.env) (λu s2z=>wpAny (model X.prog X.w) X.A (f v u) Q X.xe s2z) X.xe s1z) X.xe s:=by
 refine thn (ha pz s σ H _ I h) λv s1 ⟨x,H1,I1,r1,q1⟩=>?_;refine thn (hb pz s1 σ H1 _ I1 q1) λu s2 ⟨y,H2,I2,r2,q2⟩=>?_;exact hf v u s2 x y H2 I2 r1 r2 q2
def c0y {op:Operator} (ho:OpR X (yw op) r) (ha:PE X a ta) (hb:PE X b tb):PE X (.BinOp a op b pos) (tOp r ta tb):=by
 intro pz s σ H Q I h;exact wpAny_BinOp (b9C ha hb I h λv u s2 x y H2 I2 rx ry q=>ho pz s2 σ H2 x y v u Q I2 rx ry q)
def b7i {op:UnaryOp} {r:V->Hp->VK->Prop} (ho:UnR X (unaryOp op) r) (ha:PE X a ta):PE X (.UnaryOp op a pos) (tUn r ta):=by
 intro pz s σ H Q I h;exact UnaryOp_ (thn (ha pz s σ H _ I h) λv s1 ⟨x,H1,I1,r1,q1⟩=>ho pz s1 σ H1 x v Q I1 r1 q1)
def opI {f:Value->Value->Sem Value} {C:Int->Int->Prop} 
  (rule:∀ (i j:Int) (t u:Tok) (s:Shared) (Q:T0a) (E:T0a),C i j->Q (.int (g i j) s.toks) { s with toks:=s.toks+1 }->wpAny (model X.prog X.w) X.A (f (.int i t) (.int j u)) Q E s):
  OpR X f (rI C λi j=>.int (g i j)):=by
 intro pz s σ H x y v u Q I rx ry h;obtain ⟨i,j,rfl,rfl,hc,q⟩:=h;obtain ⟨t,rfl⟩:=rx;obtain ⟨t',rfl⟩:=ry;exact rule i j t t' s _ _ hc ⟨.int (g i j),H,I.tok _,⟨_,rfl⟩,q⟩
def c2g {f:Value->Value->Sem Value} 
  (rule:∀ (i j:Int) (t u:Tok) (s:Shared) (Q:T0a) (E:T0a),Q (.int (g i j) s.toks) { s with toks:=s.toks+1 }->wpAny (model X.prog X.w) X.A (f (.int i t) (.int j u)) Q E s):
  OpR X f (rI0 λi j=>.int (g i j)):=by
 intro pz s σ H x y v u Q I rx ry h;obtain ⟨i,j,rfl,rfl,q⟩:=h;obtain ⟨t,rfl⟩:=rx;obtain ⟨t',rfl⟩:=ry;exact rule i j t t' s _ _ ⟨.int (g i j),H,I.tok _,⟨_,rfl⟩,q⟩
def b5D {f:Value->Value->Sem Value} {g:Int->Int->Bool} 
  (rule:∀ (i j:Int) (t u:Tok) (s:Shared) (Q:T0a) (E:T0a),Q (.bool (g i j)) s->wpAny (model X.prog X.w) X.A (f (.int i t) (.int j u)) Q E s):
  OpR X f (rI0 λi j=>.bl (g i j)):=by
 intro pz s σ H x y v u Q I rx ry h;obtain ⟨i,j,rfl,rfl,q⟩:=h;obtain ⟨t,rfl⟩:=rx;obtain ⟨t',rfl⟩:=ry;exact rule i j t t' s _ _ ⟨.bl (g i j),H,I,rfl,q⟩
def c2O (i j:Int):Prop:=0<j/\j<1073741824
def b9M (i j:Int):Prop:=(-(2 ^ 64)<i/\i<2 ^ 64)\/(-(2 ^ 64)<j/\j<2 ^ 64)
theorem b9M.ok {i j:Int} (h:b9M i j):IntMulOk i j:=by
 rcases h with ⟨h1,h2⟩ | ⟨h1,h2⟩
 ·exact .of_left (intBits_le_64 h1 h2)
 ·exact .of_right (intBits_le_64 h1 h2)
def b8w:OpR X (yw .Add) (rI0 λi j=>.int (i+j)):=c2g λ_ _ _ _ _ _ _ q=>add_int q
def b8q:OpR X (yw .Mult) (rI b9M λi j=>.int (i*j)):=opI λ_ _ _ _ _ _ _ hc q=>mul_int q hc.ok
def b5z:OpR X (yw .FloorDiv) (rI c2O λi j=>.int (i / j)):=opI λi j _ _ _ _ _ hc q=>by
 have h1:(0:Int)<j:=hc.1;have h2:j<1073741824:=hc.2;exact floordiv_int (by omega) (by rw [Int.fdiv_eq_ediv_of_nonneg i (by omega)];exact q) (.inl (PyProof.noPylong_small (by omega)))
def b8r:OpR X (yw .Mod) (rI (λ_ j=>0<j) λi j=>.int (i % j)):=opI λi j _ _ _ _ _ hc q=>by
 have h1:(0:Int)<j:=hc;exact mod_int' (by omega) (by rw [Int.fmod_eq_emod_of_nonneg i (by omega)];exact q)
def unI {f:Value->Sem Value} {g:Int->Int} 
  (rule:∀ (i:Int) (t:Tok) (s:Shared) (Q:T0a) (E:T0a),Q (.int (g i) s.toks) { s with toks:=s.toks+1 }->wpAny (model X.prog X.w) X.A (f (.int i t)) Q E s):
  UnR X f (rU λi=>.int (g i)):=by
 intro pz s σ H x v Q I rx h;obtain ⟨i,rfl,q⟩:=h;obtain ⟨t,rfl⟩:=rx;exact rule i t s _ _ ⟨.int (g i),H,I.tok _,⟨_,rfl⟩,q⟩
def b1r:UnR X (unaryOp .USub) (rU λi=>.int (-i)):=unI λ_ _ _ _ _ q=>neg_int q
end
noncomputable def c0h:V->V->Bool
 | .non,.non=>true | .non,.int _=>true | .int _,.non=>true | .non,.bl _=>true | .bl _,.non=>true | .non,.str _=>true | .str _,.non=>true
 | .int _,.int _=>true | .bl _,.bl _=>true | .str _,.str _=>true | .byt _,.byt _=>true
 | .int _,.str _=>true | .str _,.int _=>true | .bl _,.str _=>true | .str _,.bl _=>true
 | _,_=>false
def rEq:R2:=λx y H Q=>c0h x y=true/\Q (.bl (decide (x=y))) H
def rNe:R2:=λx y H Q=>c0h x y=true/\Q (.bl (!decide (x=y))) H
def a9t {i j:Int}:decide (V.int i=V.int j)=(i==j):=by
 rw [kX];simp
def b3Y {i j:Bool}:decide (V.bl i=V.bl j)=(i==j):=by
 rw [kX];simp
def a9s {i j:Str}:decide (V.str i=V.str j)=(i==j):=by
 rw [kX];simp
def a9u {i j:Array UInt8}:decide (V.byt i=V.byt j)=(i.toList==j.toList):=by
 rw [kX];cases i;cases j;simp
section
variable {a b:Expr} {tc:TE}
def bH {Q:VK} {k k':Bool} (I:Inv X pz σ H s) (q:Q (.bl k) H) (e:k=k'):EP X pz σ Q (.bool k') s:=by
 subst e;exact ⟨.bl k,H,I,rfl,q⟩
def b2y:OpR X (wf .Eq) rEq:=by
 intro pz s σ H x y v u Q I rx ry h;obtain ⟨hs,q⟩:=h;cases x with
 | non=>
  cases rx;cases y with
  | non=>cases ry;exact PySem.EqNone.eq_none_none (bH I q (by simp))
  | bl j=>cases ry;exact PySem.EqNone.eq_none_bool (bH I q (by simp))
  | int j=>obtain ⟨t',rfl⟩:=ry;exact PySem.EqNone.eq_none_int (bH I q (by simp))
  | str j=>obtain ⟨t',rfl⟩:=ry;exact PySem.EqNone.eq_none_str (bH I q (by simp))
  | _=>exact absurd (show false=true from hs) qa
 | bl i=>
  cases rx;cases y with
  | non=>cases ry;exact PySem.EqNone.eq_bool_none (bH I q (by simp))
  | bl j=>cases ry;exact eq_bool (bH I q b3Y)
  | str j=>obtain ⟨t',rfl⟩:=ry;exact PySem.EqMixed.eq_bool_str (bH I q (by simp))
  | _=>exact absurd (show false=true from hs) qa
 | int i=>
  obtain ⟨t,rfl⟩:=rx;cases y with
  | non=>cases ry;exact PySem.EqNone.eq_int_none (bH I q (by simp))
  | int j=>obtain ⟨t',rfl⟩:=ry;exact eq_int (bH I q a9t)
  | str j=>obtain ⟨t',rfl⟩:=ry;exact PySem.EqMixed.eq_int_str (bH I q (by simp))
  | _=>exact absurd (show false=true from hs) qa
 | str i=>
  obtain ⟨t,rfl⟩:=rx;cases y with
  | non=>cases ry;exact PySem.EqNone.eq_str_none (bH I q (by simp))
  | bl j=>cases ry;exact PySem.EqMixed.eq_str_bool (bH I q (by simp))
  | int j=>obtain ⟨t',rfl⟩:=ry;exact PySem.EqMixed.eq_str_int (bH I q (by simp))
  | str j=>obtain ⟨t',rfl⟩:=ry;exact eq_str (bH I q a9s)
  | _=>exact absurd (show false=true from hs) qa
 | byt i=>
  obtain ⟨t,rfl⟩:=rx;cases y with
  | byt j=>obtain ⟨t',rfl⟩:=ry;exact PySem.W.eq_bytes (bH I q a9u)
  | _=>exact absurd (show false=true from hs) qa
 | _=>cases y<;>exact absurd (show false=true from hs) qa
def b2x:OpR X (wf .NotEq) rNe:=by
 intro pz s σ H x y v u Q I rx ry h;obtain ⟨hs,q⟩:=h;cases x with
 | non=>
  cases rx;cases y with
  | non=>cases ry;exact PySem.EqNone.ne_none_none (bH I q (by simp))
  | bl j=>cases ry;exact PySem.EqNone.ne_none_bool (bH I q (by simp))
  | int j=>obtain ⟨t',rfl⟩:=ry;exact PySem.EqNone.ne_none_int (bH I q (by simp))
  | str j=>obtain ⟨t',rfl⟩:=ry;exact PySem.EqNone.ne_none_str (bH I q (by simp))
  | _=>exact absurd (show false=true from hs) qa
 | bl i=>
  cases rx;cases y with
  | non=>cases ry;exact PySem.EqNone.ne_bool_none (bH I q (by simp))
  | bl j=>cases ry;exact ne_bool (bH I q (congrArg not b3Y))
  | str j=>obtain ⟨t',rfl⟩:=ry;exact PySem.EqMixed.ne_bool_str (bH I q (by simp))
  | _=>exact absurd (show false=true from hs) qa
 | int i=>
  obtain ⟨t,rfl⟩:=rx;cases y with
  | non=>cases ry;exact PySem.EqNone.ne_int_none (bH I q (by simp))
  | int j=>obtain ⟨t',rfl⟩:=ry;exact ne_int (bH I q (congrArg not a9t))
  | str j=>obtain ⟨t',rfl⟩:=ry;exact PySem.EqMixed.ne_int_str (bH I q (by simp))
  | _=>exact absurd (show false=true from hs) qa
 | str i=>
  obtain ⟨t,rfl⟩:=rx;cases y with
  | non=>cases ry;exact PySem.EqNone.ne_str_none (bH I q (by simp))
  | bl j=>cases ry;exact PySem.EqMixed.ne_str_bool (bH I q (by simp))
  | int j=>obtain ⟨t',rfl⟩:=ry;exact PySem.EqMixed.ne_str_int (bH I q (by simp))
  | str j=>obtain ⟨t',rfl⟩:=ry;exact ne_str (bH I q (congrArg not a9s))
  | _=>exact absurd (show false=true from hs) qa
 | byt i=>
  obtain ⟨t,rfl⟩:=rx;cases y with
  | byt j=>obtain ⟨t',rfl⟩:=ry;exact PySem.W.ne_bytes (bH I q (congrArg not a9u))
  | _=>exact absurd (show false=true from hs) qa
 | _=>cases y<;>exact absurd (show false=true from hs) qa
def c0D:OpR X (wf .Lt) (rI0 λi j=>.bl (decide (i<j))):=b5D λ_ _ _ _ _ _ _ q=>lt_int q
def c0E:OpR X (wf .LtE) (rI0 λi j=>.bl (decide (i<=j))):=b5D λ_ _ _ _ _ _ _ q=>le_int q
def c0F:OpR X (wf .Gt) (rI0 λi j=>.bl (decide (j<i))):=b5D λ_ _ _ _ _ _ _ q=>gt_int q
def c0G:OpR X (wf .GtE) (rI0 λi j=>.bl (decide (j<=i))):=b5D λ_ _ _ _ _ _ _ q=>ge_int q
def b8s:OpR X (wf .Is) (λx y H Q=>y=.non/\Q (.bl (decide (x=.non))) H):=by
 intro pz s σ H x y v u Q I rx ry h;obtain ⟨rfl,q⟩:=h;cases ry;refine is_none_gen (bH I q ?_);cases x<;>first
  | (cases rx;rfl)
  | (obtain ⟨t,rfl⟩:=rx;rfl)
def b5x:OpR X (wf .IsNot) (λx y H Q=>y=.non/\Q (.bl (!decide (x=.non))) H):=by
 intro pz s σ H x y v u Q I rx ry h;obtain ⟨rfl,q⟩:=h;cases ry;refine isnot_none_gen (bH I q ?_);cases x<;>first
  | (cases rx;rfl)
  | (obtain ⟨t,rfl⟩:=rx;rfl)
def b2A (b:Expr) (h:op≠.In:=by decide) (h2:op≠.NotIn:=by decide):ww op b=false:=by
 have e1:(op==CmpOp.In)=false:=by cases op<;>first | rfl | exact absurd rfl h
 have e2:(op==CmpOp.NotIn)=false:=by cases op<;>first | rfl | exact absurd rfl h2
 cases b<;>simp [ww,e1,e2]
def b5p (ho:OpR X (wf op) r) (ha:PE X a ta) (hb:PE X b tb) (hm:ww op b=false):PE X (.Compare a [op] [b] pos) (tOp r ta tb):=by
 intro pz s σ H Q I h;exact wpAny_Compare1 (b9C ha hb I h λv u s2 x y H2 I2 rx ry q=>ho pz s2 σ H2 x y v u Q I2 rx ry q) hm
def b7b (t:TE):TT:=λσ H Q=>t σ H λx H'=>∃ k,x=.bl k/\Q k H'
def b5a (ho:OpR X (wf op) r) (ha:PE X a ta) (hb:PE X b tb) (hm:ww op b=false):PT X (.Compare a [op] [b] pos) (b7b (tOp r ta tb)):=by
 intro pz s σ H Q I h
 refine ut (thn (ha pz s σ H _ I h) λv s1 ⟨x,H1,I1,r1,q1⟩=>thn (hb pz s1 σ H1 _ I1 q1) λu s2 ⟨y,H2,I2,r2,q2⟩=>
  thn (ho pz s2 σ H2 x y v u _ I2 r1 r2 q2) λc s3 ⟨z,H3,I3,r3,k,e,q3⟩=>?_) hm
 subst e;cases r3;exact v9 ⟨H3,I3,q3⟩
def b7O (r r':R2) (ta tb tc:TE):TE:=λσ H Q=>ta σ H λx H1=>tb σ H1 λy H2=>r x y H2 λz H3=>∃ k,z=.bl k /\
 (if k=true then tc σ H3 λw' H4=>r' y w' H4 Q else Q (.bl false) H3)
def b2a {op':CmpOp} {r':R2} (ho:OpR X (wf op) r) (ho':OpR X (wf op') r') (ha:PE X a ta) (hb:PE X b tb) (hc:PE X c tc)
  (hm:lastMarks [op,op'] [b,c]=false:=by with_unfolding_all rfl):PT X (.Compare a [op,op'] [b,c] pos) (b7b (b7O r r' ta tb tc)):=by
 intro pz s σ H Q I h
 refine isTrue_chain (thn (ha pz s σ H _ I h) λv s1 ⟨x,H1,I1,r1,q1⟩=>test_link (thn (hb pz s1 σ H1 _ I1 q1) λu s2 ⟨y,H2,I2,r2,q2⟩=>
  thn (ho pz s2 σ H2 x y v u _ I2 r1 r2 q2) λd s3 ⟨z,H3,I3,r3,k,e,q3⟩=>?_)) hm
 subst e;cases r3;refine v9 ?_;cases k with
 | false=>
  obtain ⟨k',e',q'⟩:=q3;cases e';exact ite_ff ⟨H3,I3,q'⟩
 | true=>
  refine ite_tt (test_last (thn (hc pz s3 σ H3 _ I3 q3) λw' s4 ⟨z',H4,I4,r4,q4⟩=>thn (ho' pz s4 σ H4 y z' u w' _ I4 r2 r4 q4) λd' s5 ⟨z2,H5,I5,r5,k2,e2,q5⟩=>?_));subst e2;cases r5;exact v9 ⟨H5,I5,q5⟩
def b9J (K:qC) (x:V) (H:Hp) (k:Bool):Prop:=
 match x with
 | .non=>k=false
 | .bl b=>k=b
 | .int i=>k=(i != 0)
 | .str y=>y.length<=j5/\k=((y.length:Int) != 0)
 | .byt y=>y.size<=j5/\k=((y.size:Int) != 0)
 | .ref p=>(∃ xs,SqL K H p xs/\k=!xs.isEmpty)\/(∃ xs,SqT K H p xs/\k=!xs.isEmpty)\/∃ kvs,H p=some (.dK kvs)/\k=!kvs.isEmpty
 | _=>False
def a7N {κ:Type} {kvs:List (κ×V)} {vs:List (κ×Value)} (r:KV kvs vs):(!vs.isEmpty)=!kvs.isEmpty:=by
 cases r<;>rfl
def a2r (r:bB xs its):(!its.toArray.isEmpty)=!xs.isEmpty:=by
 cases r<;>simp
def a0a:(j5:Nat)<2 ^ 63:=by rw [w5];decide
def b7F:c2K X (λx H Q=>∃ k,b9J X.K x H k/\Q k H):=by
 intro pz s σ H x v Q I rx h;obtain ⟨k,e,q⟩:=h;have hl:=a0a;have hs:j5=16777216:=w5;cases x with
 | non=>
  cases rx;have e':k=false:=e;subst e';exact truthy_none ⟨H,I,q⟩
 | bl b=>
  cases rx;have e':k=b:=e;subst e';exact v9 ⟨H,I,q⟩
 | int i=>
  obtain ⟨t,rfl⟩:=rx;have e':k=(i != 0):=e;subst e';exact PySem.P.truthy_int ⟨H,I,q⟩
 | str y=>
  obtain ⟨t,rfl⟩:=rx;obtain ⟨hy,e'⟩:y.length<=j5/\k=((y.length:Int) != 0):=e;subst e';exact PySem.P.truthy_str (by omega) ⟨H,I.tok _,q⟩
 | byt y=>
  obtain ⟨t,rfl⟩:=rx;obtain ⟨hy,e'⟩:y.size<=j5/\k=((y.size:Int) != 0):=e;subst e';exact PySem.W.truthy_bytes (by omega) ⟨H,I.tok _,q⟩
 | ref p=>
  cases rx;have e':(∃ xs,SqL X.K H p xs/\k=!xs.isEmpty)\/(∃ xs,SqT X.K H p xs/\k=!xs.isEmpty)\/∃ kvs,H p=some (.dK kvs)/\k=!kvs.isEmpty:=e;rcases e' with ⟨xs,hx,e'⟩ | ⟨xs,hx,e'⟩ | ⟨kvs,hx,e'⟩
  ·subst e'
   obtain ⟨its,r,pl,hz⟩:=I.list hx;have hlen:=r.length;exact wpAny_truthy_list pl.isList (by simp only [qR];omega) ⟨H,I.tok _,by rw [a2r r];exact q⟩
  ·subst e'
   obtain ⟨its,r,pl,hz⟩:=I.tuple hx;have hlen:=r.length;exact truthy_tuple pl (by simp only [qR];omega) ⟨H,I.tok _,by rw [a2r r];exact q⟩
  ·subst e'
   obtain ⟨hz,hS,vs,r,m⟩:kvs.length<=j5/\(p==wo)=false/\∃ vs,KV kvs vs/\s.heap.DictOf (aW X.prog X.w) p vs:=I.hok p _ hx;have hlen:kvs.length=vs.length:=vm r;exact wpAny_truthy_dict hS m (by omega) ⟨H,I.tok _,by rw [a7N r];exact q⟩
 | _=>exact (show False from e).elim
def a5N (ha:PE X a ta) (he:∀ whole,isTrue a X.env whole=(do let v <-whole;Qb a.pos;holding [v] (truthy v))):
  PT X a (λσ H Q=>ta σ H λx H'=>∃ k,b9J X.K x H' k/\Q k H'):=by
 intro pz s σ H Q I h;exact isTrue_plain (thn (ha pz s σ H _ I h) λv s1 ⟨x,H1,I1,r1,q1⟩=>b7F pz s1 σ H1 x v Q I1 r1 q1) (he _)
def a7z:OpR X (yw .Add) (λx y H Q=>∃ i j,x=.str i/\y=.str j/\i.length+j.length<=j5/\Q (.str (i++j)) H):=by
 intro pz s σ H x y v u Q I rx ry h;obtain ⟨i,j,rfl,rfl,hz,q⟩:=h;obtain ⟨t,rfl⟩:=rx;obtain ⟨t',rfl⟩:=ry;exact add_str (λt' tk=>⟨.str (i++j),H,I.tok _,⟨_,rfl⟩,q⟩) hz
def vals1 {x:V} (r:bB [x] us):∃ u,us=[u]/\RelV x u:=by
 cases r with
 | cons r1 r2=>cases r2;exact ⟨_,rfl,r1⟩
def vals2 {x:V} (r:bB [x,y] us):∃ u w',us=[u,w']/\RelV x u/\RelV y w':=by
 cases r with
 | cons r1 r2=>
  cases r2 with
  | cons r3 r4=>cases r4;exact ⟨_,_,rfl,r1,r3⟩
def b0Q (hc:X.calm=true):iP X (.builtin "max") (λxs H Q=>∃ i j,xs=[.int i,.int j]/\Q (.int (if j > i then j else i)) H):=by
 intro pz s σ H xs us Q I r h;obtain ⟨i,j,rfl,q⟩:=h;obtain ⟨u,w',rfl,⟨t,rfl⟩,⟨t',rfl⟩⟩:=vals2 r;refine max_two_ints (I.ok.hd hc) λh' tk k=>⟨_,H,I.kept k,?_,q⟩;by_cases hj:j > i
 ·rw [if_pos hj,if_pos hj];exact ⟨_,rfl⟩
 ·rw [if_neg hj,if_neg hj];exact ⟨_,rfl⟩
def b0O (hc:X.calm=true):iP X (.builtin "min") (λxs H Q=>∃ i j,xs=[.int i,.int j]/\Q (.int (if j<i then j else i)) H):=by
 intro pz s σ H xs us Q I r h;obtain ⟨i,j,rfl,q⟩:=h;obtain ⟨u,w',rfl,⟨t,rfl⟩,⟨t',rfl⟩⟩:=vals2 r;refine min_two_ints (I.ok.hd hc) λh' tk k=>⟨_,H,I.kept k,?_,q⟩;by_cases hj:j<i
 ·rw [if_pos hj,if_pos hj];exact ⟨_,rfl⟩
 ·rw [if_neg hj,if_neg hj];exact ⟨_,rfl⟩
end
structure ObjM (h:Heap) (x dx C:Addr) (mA:T0d):Prop where
 obj:h.get? x=some (kT C dx)
 ns:h.Ns1 dx mA
 ne:dx≠x
def b0l {h:Heap} {mA:T0d} (n:h.Ns1 dx mA):∃ od,h.get? dx=some od/\∀ name,vq name od=some (mA name):=by
 obtain ⟨o,es,ep,ho,hd,hk,_,hm⟩:=n;refine ⟨o,ho,λname=>?_⟩;have e:=hm name;unfold nsFind findBy at e;rw [<-Array.find?_toList] at e;unfold vq;rw [hd];dsimp only;split
 ·rename_i y q
  rw [q] at e;exact congrArg some e
 ·rename_i q
  rw [q] at e;have a:es.toList.any (·.refKey)=false:=by
   rw [wQ];intro y hy;obtain ⟨z,t,hkey⟩:=hk y (Array.mem_toList_iff.mp hy);simp [QJ.refKey,hkey]
  have a':¬es.toList.any (·.refKey)=true:=by rw [a];exact qa
  rw [if_neg a'];exact congrArg some e
theorem ObjM.look {h:Heap} {x:Addr} {mA:T0d} (I:ObjM h x dx C mA):∃ od,PySem.W.InstAt h x (kT C dx) C (some od)/\∀ name,vq name od=some (mA name):=
 let ⟨od,ho,hl⟩:=b0l I.ns
 ⟨od,⟨I.obj,rfl,rfl,ho⟩,hl⟩
section
variable {K:qC} {x:Addr} {mA:T0d} {v:Value}
def b6j {expr:Bool} (X:K.In s.heap) (I:ObjM s.heap x dx C mA) (hg:zc K C name=true) (hh:vI K C=true)
  (ha:jA K (.ref C) name=some none) (hv:mA name=some v) (hv':PySem.W.handedIn v=true) (h:Q v { s with toks:=s.toks+1 }):
  wpAny (model prog w) A (getAttr (.ref x) name expr) Q E s:=by
 obtain ⟨od,J,hl⟩:=I.look;exact PySem.W.get_value X J (vx hg).1 (PySem.W.findObj_own hh ha rfl (by rw [hl,hv])) hv' h
def b3s {pl:Sem Bool} {Q:Value×List Value->Shared->Prop} (X:K.In s.heap) (I:ObjM s.heap x dx C mA) (hg:zc K C name=true)
  (hf:jA K (.ref C) name=some (some (.ref f))) (ht:ve K (.ref f)=true) (hv:mA name=none) (h:Q (.ref f,[.ref x]) s):
  wpAny (model prog w) A (getMethod (.ref x) name pl) Q E s:=by
 obtain ⟨od,J,hl⟩:=I.look;exact PySem.W.method_fn X J (vx hg).1 (vx hg).2 hf (beq_iff_eq.mp ht) (by show (vq name od).map (·.isSome)=some false;rw [hl,hv];rfl) h
def b4S {ns:T0q} {Q:Unit->Shared->Prop} (X:K.In s.heap) (I:ObjM s.heap x dx C mA)
  (hs:jA K (.ref C) "__setattr__" = some (some (.builtin "object.__setattr__"))) (hp:wI K C=true) (ht:PySem.W.takerIn K C name=some none) (hh:vI K C=true)
  (hw:PySem.Within mA ns) (hsz:ns.length<=j5)
  (h:∀ h',ObjM h' x dx C (λy=>if y=name then some v else mA y)->kB dx s.heap h'->Q () { s with heap:=h',toks:=s.toks+2 }):
  wpAny (model prog w) A (setAttr (.ref x) name v) Q E s:=by
 obtain ⟨od,J,hl⟩:=I.look;refine PySem.W.set_plain X J hs (PySem.W.osa_open (s:={ s with toks:=s.toks+1 }) (r:=none) X J hp ht λb=>?_);obtain ⟨cd,hc,hd'⟩:=PySem.W.any_some hh;have hx:s.heap.get? x=some ⟨.ref C,some dx,.plain,#[]⟩:=I.obj;refine q8 (j3 (q8 (q8 (wpAny_loadPart hx (q8 (PySem.W.Looks.here (s:={ s with toks:=s.toks+1 }) (PySem.W.looks_clsIn X hc) ?_))))));rw [hd'];refine j3 (a:=some dx) (q8 (j3 (q8 ?_)));refine wpAny_nsSet1 (s:={ s with toks:=s.toks+1 }) I.ns λh' hn2 hs2=>?_;obtain ⟨oD,esD,epD,hoD,hdD,hcD⟩:=hn2.count (PySem.Within.cons name v hw);refine q8 (wpAny_lookBehind hoD (by rw [hdD];exact pastItsLine_dict (qi hcD (by rw [qV];omega))) ?_);exact j3 (h _ ⟨(hs2.2 _ (jJ I.ne)).trans I.obj,hn2,I.ne⟩ hs2)
def b2L {R:Result->Shared->Prop} {vs:T0m} (X:K.In s.heap) (hm:PySem.W.makesIn K C=true)
  (hi:jA K (.ref C) "__init__" = some (some (.ref f))) (hf:PySem.W.typeIn K (.ref f)=some (.type "function"))
  (h:yo (model prog w) (A.under (.builtin "type.__call__" ⟨.ref C::vs,kw⟩)) (.call (.ref f) ⟨.ref (s.heap.objs.size+1)::vs,kw⟩) (PySem.W.InitBack (s.heap.objs.size+1) R)
   { s with heap:=(s.heap.push jl).push (kT C s.heap.objs.size) }):
  yo (model prog w) A (.call (.ref C) ⟨vs,kw⟩) R s:=by
 obtain ⟨hh,g,d,t,os⟩:=s;exact PySem.W.make_core (PySem.W.makes_of X hm) (PySem.W.looks_findIn X hi) (λself=>PySem.W.bind_fn X self hf) (.inl rfl) h
end
def lO (f:Str) (v:V):List (Str×V)->List (Str×V)
 | []=>[(f,v)]
 | (g,x)::r=>if g=f then (g,v)::r else (g,x)::lO f v r
theorem a0K (f g:Str) (v:V):∀ fs:List (Str×V),(lO f v fs).lookup g=if g=f then some v else fs.lookup g
 | []=>by
  show zT g [(f,v)]=_;by_cases h:g=f
  ·have hb:(g==f)=true:=beq_iff_eq.mpr h
   simp only [zT,hb,if_pos h]
  ·have hb:(g==f)=false:=beq_eq_false_iff_ne.mpr h
   simp only [zT,hb,if_neg h]
 | (k,x)::r=>by
  have ih:=a0K f g v r;rw [show lO f v ((k,x)::r)=(if k=f then (k,v)::r else (k,x)::lO f v r) from rfl];by_cases hk:k=f
  ·rw [if_pos hk]
   by_cases h:g=k
   ·have hb:(g==k)=true:=beq_iff_eq.mpr h
    simp only [zT,hb,if_pos (h.trans hk)]
   ·have hb:(g==k)=false:=beq_eq_false_iff_ne.mpr h
    simp only [zT,hb,if_neg (λe:g=f=>h (e.trans hk.symm))]
  ·rw [if_neg hk]
   by_cases h:g=k
   ·have hb:(g==k)=true:=beq_iff_eq.mpr h
    simp only [zT,hb,if_neg (λe:g=f=>hk (h.symm.trans e))]
   ·have hb:(g==k)=false:=beq_eq_false_iff_ne.mpr h
    simp only [zT,hb];exact ih
theorem a0b (f:Str) (v:V):∀ fs:List (Str×V),f∈(lO f v fs).map (·.1)/\∀ g,g∈fs.map (·.1)->g∈(lO f v fs).map (·.1)
 | []=>⟨by simp [lO],λg h=>by simp at h⟩
 | (k,x)::r=>by
  obtain ⟨i1,i2⟩:=a0b f v r;rw [show lO f v ((k,x)::r)=(if k=f then (k,v)::r else (k,x)::lO f v r) from rfl];by_cases hk:k=f
  ·rw [if_pos hk]
   subst hk;exact ⟨by simp,λg h=>by simpa using h⟩
  ·rw [if_neg hk]
   refine ⟨?_,λg h=>?_⟩
   ·rw [qI]
    exact qF _ i1
   ·rw [qI] at h ⊢
    rcases qG.mp h with e | e
    ·exact qG.mpr (.inl e)
    ·exact qF _ (i2 g e)
theorem a0L (f:Str) (v:V):∀ fs:List (Str×V),(lO f v fs).length<=fs.length+1
 | []=>by simp [lO]
 | (k,x)::r=>by
  have ih:=a0L f v r;rw [show lO f v ((k,x)::r)=(if k=f then (k,v)::r else (k,x)::lO f v r) from rfl];by_cases hk:k=f
  ·rw [if_pos hk,qV,qV];omega
  ·rw [if_neg hk,qV,qV];omega
def a0y.some_of {o:Option Value} (r:a0y (some v) o):∃ u,o=some u/\RelV v u:=by
 cases o with
 | none=>exact (show False from r).elim
 | some u=>exact ⟨u,rfl,r⟩
def a0y.none_of {o:Option Value} (r:a0y none o):o=none:=by
 cases o with
 | none=>rfl
 | some u=>exact (show False from r).elim
def b0y (r:RelV v u):PySem.W.handedIn u=true:=by
 cases v with
 | non=>cases (show u=jR from r);rfl
 | bl b=>cases (show u=kZ b from r);rfl
 | int i=>obtain ⟨t,e⟩:=(show ∃ t,u=vd i t from r);cases e;rfl
 | str x=>obtain ⟨t,e⟩:=(show ∃ t,u=Value.str x t from r);cases e;rfl
 | byt b=>obtain ⟨t,e⟩:=(show ∃ t,u=Value.bytes b t from r);cases e;rfl
 | flt b=>obtain ⟨t,e⟩:=(show ∃ t,u=Value.float b t from r);cases e;rfl
 | ref a=>cases (show u=qw a from r);rfl
 | ty n=>cases (show u=zF n from r);rfl
section
variable {h:Heap} {fs fs':List (Str×V)}
def a1q (hok:HOk P w H h) (e:H a=some (.ins C dx fs)):∃ mA,ObjM h a dx C mA/\(∀ f,a0y (fs.lookup f) (mA f))/\PySem.Within mA (fs.map (·.1))/\fs.length<=1000/\H dx=some (.own a):=by
 obtain ⟨d,z,ne,ob,mA,n,r,q⟩:=(show bZ P w H h a (.ins C dx fs) from hok a _ e);exact ⟨mA,⟨ob,n,ne⟩,r,q,z,d⟩
end
structure Cls (K:qC) (C:Addr):Prop where
 pg:zc K C Str.empty=true
 hd:vI K C=true
 po:wI K C=true
 sa:jA K (.ref C) "__setattr__" = some (some (.builtin "object.__setattr__"))
theorem Cls.get {K:qC} (c:Cls K C) (f:Str):zc K C f=true:=c.pg
def lZ (K:qC) (C:Addr) (f:Str):Prop:=jA K (.ref C) f=some none
def lZ.taker {K:qC} {f:Str} (n:lZ K C f):PySem.W.takerIn K C f=some none:=by
 unfold PySem.W.takerIn;rw [show jA K (.ref C) f=some none from n];rfl
structure Meth (K:qC) (C:Addr) (m:Str) (f:Addr):Prop where
 at_:jA K (.ref C) m=some (some (.ref f))
 fn:ve K (.ref f)=true
 kp:jj K (.ref f)=true
section
variable {fs:List (Str×V)} {f:Str}
def a7S {b:Bool} (I:Inv X pz σ H s) (e:H a=some (.ins C dx fs)) (c:Cls X.K C) (n:lZ X.K C f) (l:fs.lookup f=some v)
  (h:∀ u s',Inv X pz σ H s'->RelV v u->Q u s'):wpAny (model X.prog X.w) A (getAttr (.ref a) f b) Q E s:=by
 obtain ⟨mA,O,r,_,_,_⟩:=a1q I.hok e;obtain ⟨u,hu,ru⟩:=a0y.some_of (v:=v) (o:=mA f) (by rw [<-l];exact r f);exact b6j I.kIn O (c.get f) c.hd n hu (b0y ru) (h u _ (I.tok _) ru)
def a7R {m:Str} {g:Addr} {pl:Sem Bool} {Q:Value×List Value->Shared->Prop} (I:Inv X pz σ H s) (e:H a=some (.ins C dx fs)) (c:Cls X.K C) (k:Meth X.K C m g) (l:fs.lookup m=none)
  (h:Q (.ref g,[.ref a]) s):wpAny (model X.prog X.w) A (getMethod (.ref a) m pl) Q E s:=by
 obtain ⟨mA,O,r,_,_,_⟩:=a1q I.hok e;have hn:mA m=none:=a0y.none_of (by rw [<-l];exact r m);exact b3s I.kIn O (c.get m) k.at_ k.fn hn h
def a7p {Q:Unit->Shared->Prop} (I:Inv X pz σ H s) (e:H a=some (.ins C dx fs)) (c:Cls X.K C) (n:lZ X.K C f) (hl:fs.length<1000) (ry:RelV y u)
  (h:∀ s',Inv X pz σ (upd H a (.ins C dx (lO f y fs))) s'->Q () s'):wpAny (model X.prog X.w) A (setAttr (.ref a) f u) Q E s:=by
 obtain ⟨mA,O,r,wi,_,ho⟩:=a1q I.hok e;have hz:(fs.map (·.1)).length<=j5:=by rw [qE,w5];omega
 refine b4S I.kIn O c.sa c.po n.taker c.hd wi hz λh' O' sb=>h _ ?_;have hd:∃ o,h'.get? dx=some o:=let ⟨o,_,_,e',_⟩:=O'.ns;⟨o,e'⟩
 refine I.write (x:=a) (e:=dx) (by rw [e];exact kJ) (.inr ho) (λb q hb z=>(sb.2 b hb).trans z) hd ?_;refine ⟨by rw [aE O.ne];exact ho,?_,O.ne,O'.obj,_,O'.ns,λg=>?_,λg hg=>?_⟩
 ·have:=a0L f y fs;omega
 ·show a0y ((lO f y fs).lookup g) (if g=f then some u else mA g)
  rw [a0K];by_cases q:g=f
  ·rw [if_pos q,if_pos q];exact ry
  ·rw [if_neg q,if_neg q];exact r g
 ·by_cases q:g=f
  ·rw [q];exact (a0b f y fs).1
  ·refine (a0b f y fs).2 g (wi g λz=>hg ?_)
   show (if g=f then some u else mA g)=none;rw [if_neg q];exact z
theorem Inv.made (I:Inv X pz σ H s):Inv X pz σ (upd (upd H s.heap.objs.size (.own (s.heap.objs.size+1))) (s.heap.objs.size+1) (.ins C s.heap.objs.size []))
  { s with heap:=(s.heap.push jl).push (kT C s.heap.objs.size) }:=by
 have e1:(s.heap.push jl).get? s.heap.objs.size=some jl:=qH s.heap rfl;have e2:((s.heap.push jl).push (kT C s.heap.objs.size)).get? (s.heap.objs.size+1)=some (kT C s.heap.objs.size):=by
  have:=qH (s.heap.push jl) (o:=kT C s.heap.objs.size) rfl
  rwa [qu] at this
 have e3:(s.heap.push jl).Ns s.heap.objs.size (λ_=>none):=⟨jl,#[],_,e1,rfl,(λe he=>absurd he (by simp)),λ_=>rfl⟩;have I1:=I.laid (a:=s.heap.objs.size) (o:=.own (s.heap.objs.size+1)) (h':=s.heap.push jl) (t':=s.toks) (λb u q=>qD _ q) (qN _) ⟨_,e1⟩;refine I1.laid (a:=s.heap.objs.size+1) (o:=.ins C s.heap.objs.size []) (t':=s.toks) (λb u q=>qD _ q) (Nat.le_of_eq (qu _ _)) ?_;have ne:s.heap.objs.size≠s.heap.objs.size+1:=qW (kn _);refine ⟨by rw [aE ne,aG],jB _,ne,e2,λ_=>none,(Heap.Ns1.of_empty e3).at λo q=>qD _ q,λ_=>kJ,λy hy=>absurd rfl hy⟩
def b6W {env:Env} {f:Str} (hb:wv e f env (eval e env)=eval e env)
  (h:wpAny (model prog w) A (eval e env) (λo s1z=>wpAny (model prog w) A (getAttr o f true) Q E s1z) E s):wpAny (model prog w) A (eval (.Attribute e f pos) env) Q E s:=
 Attribute_any_ h (by rw [arm_eval_Attribute,hb])
end
def c1O (K:qC) (ta:TE) (f:Str):TE:=λσ H Q=>ta σ H λx H1=>∃ a C dx fs v,x=.ref a/\H1 a=some (.ins C dx fs)/\Cls K C/\lZ K C f/\fs.lookup f=some v/\Q v H1
def c2a (K:qC) (ta tv:TE) (f:Str):TS:=λD σ H=>tv σ H λy H1=>ta σ H1 λx H2=>∃ a C dx fs,x=.ref a/\H2 a=some (.ins C dx fs)/\Cls K C/\lZ K C f/\fs.length<1000 /\
 D.nx σ (upd H2 a (.ins C dx (lO f y fs)))
section
variable {o:Expr} {f:Str} {tv:TE}
def b8i (he:PE X e ta) (hb:wv e f X.env (eval e X.env)=eval e X.env):PE X (.Attribute e f pos) (c1O X.K ta f):=by
 intro pz s σ H Q I h;refine b6W hb (thn (he pz s σ H _ I h) λu s1 ⟨x,H1,I1,rx,a,C,dx,fs,v,ex,ea,c,n,l,q⟩=>?_);subst ex;obtain rfl:u=qw a:=rx;exact a7S I1 ea c n l λu' s2 I2 ru=>⟨v,H1,I2,ru,q⟩
def a4G (ha:PE X o ta) (hv:PE X value tv) (hs:wm value (some (.Attribute o f pos')) pos.line X.env=pure false):PS X (.Assign [.Attribute o f pos'] value pos) (c2a X.K ta tv f):=by
 intro pz s σ H D I h;refine plainObj_wpAny_Assign_Attribute (thn (hv pz s σ H _ I h) λu s1 ⟨y,H1,I1,ry,q⟩=>thn (ha pz s1 σ H1 _ I1 q) λov s2 ⟨x,H2,I2,rx,a,C,dx,fs,ex,ea,c,n,l,q2⟩=>?_) hs;subst ex;obtain rfl:ov=qw a:=rx;exact a7p I2 ea c n l ry λs3 I3=>⟨σ,_,I3,q2⟩
end
section
variable {c:Value} {b:Bool}
inductive TyOf (K:qC) (H:Hp):V->Value->Prop where
 | non:TyOf K H .non (.type "NoneType")
 | bl (x:Bool):TyOf K H (.bl x) (.type "bool")
 | int (i:Int):TyOf K H (.int i) (.type "int")
 | str (x:Str):TyOf K H (.str x) (.type "str")
 | flt (x:UInt64):TyOf K H (.flt x) (.type "float")
 | lst {a:Addr} {xs:List V} (e:H a=some (.lst xs)):TyOf K H (.ref a) (.type "list")
 | frz {a:Addr} {o:Obj} {xs:List V} (e:H a=some (.frz o (.lst xs))):TyOf K H (.ref a) (.type "list")
 | tup {a:Addr} {xs:List V} (e:H a=some (.tup xs)):TyOf K H (.ref a) (.type "tuple")
 | dK {a:Addr} {kvs:List (Key×V)} (e:H a=some (.dK kvs)):TyOf K H (.ref a) (.type "dict")
 | dT {a:Addr} {kvs:List (List Key×V)} (e:H a=some (.dT kvs)):TyOf K H (.ref a) (.type "dict")
 | ins {a C dx:Addr} {fs:List (Str×V)} (e:H a=some (.ins C dx fs)) (cl:Cls K C) (ha:jA K (.ref C) "__class__" = some (some (.builtin "object.__class__")))
   (hn:PySem.W.specialIn K (.builtin "object.__class__") "__get__" = some (some (.builtin "getset_descriptor.__get__"))) (htk:PySem.W.takesIn K (.builtin "object.__class__")=some true)
   (hm:PySem.W.mroIn K C (.type "object")=some true):TyOf K H (.ref a) (.ref C)
def tI {x:V} {t:Value} (I:Inv X pz σ H s) (rx:RelV x u) (ty:TyOf X.K H x t) (e:zX X.K t c=some b) (h:∀ tk,Q (.bool b) { s with toks:=tk }):
  wpAny (model X.prog X.w) A (call (.builtin "isinstance") [u,c]) Q E s:=by
 cases ty with
 | non=>cases (show u=jR from rx);exact jO PySem.W.kitx_none I.kIn kJ e (λz=>nomatch z) h
 | bl y=>cases (show u=kZ y from rx);exact jO PySem.W.kitx_bool I.kIn kJ e (λz=>nomatch z) h
 | int i=>obtain ⟨t,q⟩:=(show ∃ t,u=vd i t from rx);cases q;exact jO PySem.W.kitx_int I.kIn kJ e (λz=>nomatch z) h
 | str y=>obtain ⟨t,q⟩:=(show ∃ t,u=Value.str y t from rx);cases q;exact jO PySem.W.kitx_str I.kIn kJ e (λz=>nomatch z) h
 | flt y=>obtain ⟨t,q⟩:=(show ∃ t,u=Value.float y t from rx);cases q;exact jO PySem.W.kitx_float I.kIn kJ e (λz=>nomatch z) h
 | @lst a xs ea=>
  cases (show u=qw a from rx);obtain ⟨_,_,n,_,h1⟩:=(show bZ X.prog X.w H s.heap a (.lst xs) from I.hok a _ ea);exact jO wK I.kIn ⟨_,h1,rfl⟩ e (λz=>nomatch z) h
 | @frz a ob xs ea=>
  cases (show u=qw a from rx);obtain ⟨_,_,_,n,_,h1⟩:=(show bZ X.prog X.w H s.heap a (.frz ob (.lst xs)) from I.hok a _ ea);exact jO wK I.kIn ⟨_,h1,rfl⟩ e (λz=>nomatch z) h
 | @tup a xs ea=>
  cases (show u=qw a from rx);obtain ⟨_,_,_,p⟩:=(show bZ X.prog X.w H s.heap a (.tup xs) from I.hok a _ ea);obtain ⟨o,h1,h2,_⟩:=p;exact jO PySem.W.kitx_tuple I.kIn ⟨o,h1,h2⟩ e (λz=>nomatch z) h
 | @dK a kvs ea=>
  cases (show u=qw a from rx);obtain ⟨_,_,vs,_,p⟩:=(show bZ X.prog X.w H s.heap a (.dK kvs) from I.hok a _ ea);obtain ⟨o,es,ep,h1,h2,_⟩:=p;exact jO PySem.W.kitx_dict I.kIn ⟨o,h1,h2.1⟩ e (λz=>nomatch z) h
 | @dT a kvs ea=>
  cases (show u=qw a from rx);obtain ⟨_,_,xs,_,o,es,ep,h1,h2,_⟩:=(show bZ X.prog X.w H s.heap a (.dT kvs) from I.hok a _ ea);exact jO PySem.W.kitx_dict I.kIn ⟨o,h1,h2.1⟩ e (λz=>nomatch z) h
 | @ins a C dx fs ea cl ha hn htk hm=>
  cases (show u=qw a from rx);obtain ⟨mA,O,_⟩:=a1q I.hok ea;obtain ⟨od,J,_⟩:=O.look;exact jO (PySem.W.kitx_own (cl.get _) cl.hd ha hn htk hm) I.kIn J e (λz=>nomatch z) h
end
structure Room (k:Nat) (A:Around):Prop where
 hd:A.handled=none
 dp:A.depth+3*k+5<recursionLimit
 un:A.units+16*k+200<cLine
theorem Room.mono (r:Room k A) (h:j<=k):Room j A:=⟨r.hd,by have:=r.dp;omega,by have:=r.un;omega⟩
theorem Room.deeper {k:Nat} {A:Around} (r:Room (k+1) A) (env:Env):Room k (A.deeper env):=
 ⟨r.hd,by have:=r.dp;show A.depth+1+3*k+5<_;omega,by have:=r.un;show A.units+3+16*k+200<_;omega⟩
theorem Room.in1 {k:Nat} {A:Around} (r:Room (k+1) A):Room k A.in1:=
 ⟨r.hd,by have:=r.dp;show A.depth+3*k+5<_;omega,by have:=r.un;show A.units+1+16*k+200<_;omega⟩
def a7I:(A.under (.builtin "type.__call__" ⟨.ref C::us,kw⟩)).depth=A.depth+1:=by
 first | rfl | simp [Around.under,Code.weight,Code.isCreation,Code.isGuard,Code.isCaller,Code.frames,Code.isFrame,guardIds]
def a7H:(A.under (.builtin "type.__call__" ⟨.ref C::us,kw⟩)).units=A.units+1:=by
 first | rfl | simp [Around.under,Code.cUnits,Code.frames,Code.isFrame]
theorem Room.make (r:Room (k+1) A) (C:Addr) (us:T0m) (kw:T0g):Room k (A.under (.builtin "type.__call__" ⟨.ref C::us,kw⟩)):=
 ⟨r.hd,by have:=r.dp;rw [a7I];omega,by have:=r.un;rw [a7H];omega⟩
theorem Room.depth {k:Nat} {A:Around} (r:Room k A):A.depth<recursionLimit:=by have:=r.dp;omega
theorem Room.units {k:Nat} {A:Around} (r:Room k A):A.units+64<cLine:=by have:=r.un;omega
def b7M:TA:=λ_ H Q=>Q [] H
def b7c (ta:TE) (tr:TA):TA:=λσ H Q=>ta σ H λx H1=>tr σ H1 λxs H2=>Q (x::xs) H2
variable {t:TA}
def pA:PA X [] b7M:=λ_ _ _ _ H Q I h=>Calls.spliced_nil ⟨[],H,I,.nil,h⟩
def iY (ha:PE X e te) (hr:PA X es t) (hs:j4 (e::es) X.env=(false,eval e X.env)::j4 es X.env:=by rfl):PA X (e::es) (b7c te t):=by
 intro pos pz s σ H Q I h;rw [hs];show wpAny _ _ (spliced ((false,eval e X.env)::v0 pos (j4 es X.env))) _ _ s;refine Calls.spliced_cons (thn (ha pz s σ H _ I h) λu s1 ⟨x,H1,I1,r1,q1⟩=>?_);exact thn (hr pos pz s1 σ H1 _ I1 q1) λus s2 ⟨xs,H2,I2,r2,q2⟩=>⟨x::xs,H2,I2,.cons r1 r2,q2⟩
def c1F (t:TA):TE:=λσ H Q=>t σ H λxs H1=>xs.length<=j5/\∀ p,H1 p=none->Q (.ref p) (upd H1 p (.tup xs))
def c1K (t:TA):TE:=λσ H Q=>t σ H λxs H1=>xs.length<=j5/\∀ p,H1 p=none->Q (.ref p) (upd H1 p (.lst xs))
def b8e {x1:_} (h:PA X es t):PE X (.Tuple es x1 pos) (c1F t):=by
 intro pz s σ H Q I hq;refine wpAny_Tuple_spliced (thn (h pos pz s σ H _ I hq) λus s1 ⟨xs,H1,I1,r,z,q⟩=>⟨by rw [<-r.length];exact z,?_⟩);have hf:H1 s1.heap.objs.size=none:=I1.hok.fresh (qN _);refine ⟨.ref s1.heap.objs.size,upd H1 s1.heap.objs.size (.tup xs),I1.laid (t':=s1.toks) (λb u e=>qD _ e) (qN _) ?_,rfl,q _ hf⟩;exact ⟨z,us,r,⟨_,qH _ rfl,rfl,_,rfl⟩⟩
def a4H (h:PA X es t):PE X (.List es pos) (c1K t):=by
 intro pz s σ H Q I hq;refine wpAny_List_spliced (thn (h pos pz s σ H _ I hq) λus s1 ⟨xs,H1,I1,r,z,q⟩=>⟨by rw [<-r.length];exact z,?_⟩);have hf:H1 s1.heap.objs.size=none:=I1.hok.fresh (qN _);refine ⟨.ref s1.heap.objs.size,upd H1 s1.heap.objs.size (.lst xs),I1.laid (t':=s1.toks) (λb u e=>qD _ e) (qN _) ?_,rfl,q _ hf⟩;exact ⟨z,us,0,r,qH _ rfl⟩
abbrev Sp:=List V->Hp->VK->XK->Prop
abbrev CXT:=List Env->Hp->Shared->XK->Value->Shared->Prop
structure Env0 (P:Program) (w:World) (K:qC) (mg:T0d) (base:Heap) (A:Around) (outer:List Env) (s:Shared) (H:Hp):Prop where
 frames:A.frames=some outer
 mod:Mod K mg base
 bs:∀ b o,base.get? b=some o->s.heap.get? b=some o/\H b=none
 bsz:base.objs.size<=s.heap.objs.size
 funs:s.heap.FunFrames base outer
 frf:∀ b∈frs outer,H b=none
 hok:HOk P w H s.heap
 bare:u6 s.gens
def CE (outer:List Env) (P:Program) (w:World) (H:Hp) (s:Shared) (Q:VK) (u:Value) (s':Shared):Prop:=
 ∃ v H',s'.os=s.os/\u6 s'.gens/\Un (frs outer) [] H H' s.heap s'.heap/\HOk P w H' s'.heap/\RelV v u/\Q v H'
def CR (CX:CXT) (outer:List Env) (P:Program) (w:World) (H:Hp) (s:Shared) (Q:VK) (E:XK) (r:Result) (s':Shared):Prop:=
 match r with
 | .ok (.ret u)=>CE outer P w H s Q u s'
 | .ok _=>False
 | .error e=>CX outer H s E e s'
structure FnOk (P:Program) (w:World) (K:qC) (mg:T0d) (base:Heap) (CX:CXT) (k:Nat) (f:Addr) (fd:w8) (ps:T0q) (sp:Sp):Prop where
 len:∀ vs H Q E,sp vs H Q E->vs.length=ps.length
 run:∀ (A:Around) (outer:List Env) (s:Shared) (H:Hp) (args:Args) (us:T0m) (vs:List V) (Q:VK) (E:XK),Room k A->Env0 P w K mg base A outer s H->BindsTo s fd args (ps.zip us)->bB vs us->sp vs H Q E ->
  yo (model P w) A (.call (.ref f) args) (CR CX outer P w H s Q E) s
variable {CX:CXT} {sp:Sp}
theorem FnOk.imp {K:qC} {sp':Sp} (F:FnOk P w K mg base CX k f fd ps sp)
  (h:∀ vs H Q E,sp' vs H Q E->sp vs H Q E):FnOk P w K mg base CX k f fd ps sp':=
 ⟨λvs H Q E q=>F.len vs H Q E (h _ _ _ _ q),λA outer s H args us vs Q E hr he hb hv hs=>F.run A outer s H args us vs Q E hr he hb hv (h _ _ _ _ hs)⟩
theorem Env0.make {K:qC} {outer:List Env} (e:Env0 P w K mg base A outer s H) (C:Addr) (us:T0m) (kw:T0g):
  Env0 P w K mg base (A.under (.builtin "type.__call__" ⟨.ref C::us,kw⟩)) outer s H:=⟨by first | exact e.frames | (simpa [Around.under,Code.envs,Code.isFrame,pushEnvs] using e.frames),e.mod,e.bs,e.bsz,e.funs,e.frf,e.hok,e.bare⟩
theorem Env0.in1 {P:Program} {w:World} {K:qC} {mg:T0d} {base:Heap} {A:Around} {outer:List Env} {s:Shared} {H:Hp} (e:Env0 P w K mg base A outer s H) :
  Env0 P w K mg base A.in1 outer s H:=⟨e.frames,e.mod,e.bs,e.bsz,e.funs,e.frf,e.hok,e.bare⟩
theorem Inv.env0 (I:Inv X pz σ H s):Env0 X.prog X.w X.K X.mg X.base X.A X.stack s H:=
 ⟨I.ok.frames,I.ok.mod,I.bs,qi I.ok.bsz I.sz,I.stack,I.stkFree,I.hok,I.bare⟩
def Inv.after {Q:VK} (I:Inv X pz σ H s) (h:CE X.stack X.prog X.w H s Q u s'):EP X pz σ Q u s':=by
 obtain ⟨v,H',os,bare,un,hok,r,q⟩:=h;obtain ⟨hh,g,d,t,os'⟩:=s';obtain rfl:os'=s.os:=os;exact ⟨v,H',I.call (h':=hh) (g':=g) (d':=d) (t':=t) (ch:=[]) un hok bare (λb z=>absurd z (by simp)),r,q⟩
def c0d (sp:Sp) (dvs:List V) (E:XK) (t:TA):TE:=λσ H Q=>t σ H λvs H1=>sp (vs++dvs) H1 Q E
def b9Z (C:Addr) (m:Str) (sp:Sp) (dvs:List V) (E:XK) (ta:TE) (t:TA):TE:=λσ H Q=>ta σ H λx H1=>∃ a dx fs,x=.ref a/\H1 a=some (.ins C dx fs)/\fs.lookup m=none /\
 t σ H1 λvs H2=>sp (x::(vs++dvs)) H2 Q E
def c0a (C:Addr) (sp:Sp) (dvs:List V) (E:XK) (t:TA):TE:=λσ H Q=>t σ H λvs H1=>∀ x dx,H1 x=none->H1 dx=none->dx≠x ->
 sp (.ref x::(vs++dvs)) (upd (upd H1 dx (.own x)) x (.ins C dx [])) (λv H2=>v=.non/\Q (.ref x) H2) E
def Binds (K:qC) (fd:w8) (ps:T0q) (ds:T0m):Prop:=
 ∀ (s:Shared) (us:T0m),K.In s.heap->(us++ds).length=ps.length->BindsTo s fd ⟨us,[]⟩ (ps.zip (us++ds))
theorem Binds.all {K:qC} (h:∀ us:List Value,us.length=ps.length->ug fd ⟨us,[]⟩=pure (ps.zip us)):Binds K fd ps []:=λs us _ hl=>by
 rw [kW] at hl ⊢;exact .of_eq (h us hl)
def a0z (CX:CXT) (X:Cx) (E:XK):Prop:=∀ (pz:T0b) (σ:St) (H:Hp) (s:Shared) (e:Value) (s':Shared),Inv X pz σ H s->CX X.stack H s E e s'->X.xe e s'
variable {vs:List V}
section
variable {dvs:List V} {ds:T0m} {E:XK} {x m:Str} {o:Expr}
def b1R {Q:VK} (F:FnOk X.prog X.w X.K X.mg X.base CX k f fd ps sp) (hr:Room k X.A) (hb:Binds X.K fd ps ds) (hd:bB dvs ds) (hx:a0z CX X E)
  (I:Inv X pz σ H s) (r:bB vs us) (h:sp (vs++dvs) H Q E):wpAny (model X.prog X.w) X.A (call (.ref f) us) (EP X pz σ Q) X.xe s:=by
 have r2:bB (vs++dvs) (us++ds):=r.append hd;have hl:(us++ds).length=ps.length:=by rw [<-r2.length];exact F.len _ _ _ _ h
 refine uv (wy (F.run X.A X.stack s H ⟨us,[]⟩ (us++ds) (vs++dvs) Q E hr I.env0 (hb s us I.kIn hl) r2 h) λr s' hq=>?_);cases r with
 | error e=>exact hx pz σ H s e s' I hq
 | ok fl=>
  cases fl with
  | ret u=>exact I.after hq
  | next=>exact jN hq
  | brk=>exact jN hq
  | cont=>exact jN hq
def a8I (F:FnOk X.prog X.w X.K X.mg X.base CX k f fd ps sp) (hr:Room k X.A) (hg:Gl X x) (hm:X.mg x=some (.ref f)) (hk:jj X.K (.ref f)=true) (hb:Binds X.K fd ps ds) (hd:bB dvs ds) (hx:a0z CX X E)
  (ha:PA X (e::es) t) (hdb:(x==("__debug__" : Str))=false:=by decide) (he:j4 (e::es) X.env=(false,eval e X.env)::j4 es X.env:=by rfl) (hpl:(v0 pos (j4 es X.env)).any (·.1)=false:=by rfl):
  PE X (.Call (.Name x p) (e::es) [] pos) (c0d sp dvs E t):=by
 intro pz s σ H Q I h;refine k6 (a8W I hg hm ?_ hdb);refine PySem.W.callWith_K (h₀:=X.base) I.ok.mod.kin hk (thn (ha pos pz s σ H _ I h) λus s1 ⟨vs,H1,I1,r,q⟩=>⟨I1.kIn,?_⟩) he hpl;exact b1R F hr hb hd hx I1 r q
def b2o {pl:Sem Bool} (he:PE X o ta) (c:Cls X.K C) (hm:Meth X.K C m f) (F:FnOk X.prog X.w X.K X.mg X.base CX k f fd ps sp) (hr:Room k X.A) (hb:Binds X.K fd ps ds) (hd:bB dvs ds) (hx:a0z CX X E)
  (ht:eval (.Call (.Attribute o m apos) [] [] pos) X.env=(do
   let ov <-eval o X.env
   Qb apos.atName
   let (f,first) <-holding [ov] (getMethod ov m pl)
   callWith pos f first (v0 pos (j4 [] X.env)) (yq pos (wu [] X.env))):=by rfl):
  PE X (.Call (.Attribute o m apos) [] [] pos) (b9Z C m sp dvs E ta b7M):=by
 intro pz s σ H Q I h;refine PySem.W.methodCall_KW (pl:=pl) (thn (he pz s σ H _ I h) λu s1 ⟨x,H1,I1,rx,a,dx,fs,ex,ea,l,q⟩=>?_) ht;subst ex;obtain rfl:u=qw a:=rx;refine a7R I1 ea c hm l ?_;exact PySem.W.callWith_K0 (first:=[.ref a]) I1.kIn hm.kp (b1R (us:=[.ref a]) (vs:=[.ref a]) F hr hb hd hx I1 (.cons rfl .nil) q)
structure Mk (K:qC) (C f:Addr):Prop where
 makes:PySem.W.makesIn K C=true
 init:jA K (.ref C) "__init__" = some (some (.ref f))
 fn:ve K (.ref f)=true
 kp:jj K (.ref C)=true
def b1Q {Q:VK} (M:Mk X.K C f) (F:FnOk X.prog X.w X.K X.mg X.base CX k f fd ps sp) (hr:Room (k+1) X.A) (hb:Binds X.K fd ps ds) (hd:bB dvs ds)
  (hx:a0z CX X E) (I:Inv X pz σ H s) (r:bB vs us)
  (h:∀ x dx,H x=none->H dx=none->dx≠x->sp (.ref x::(vs++dvs)) (upd (upd H dx (.own x)) x (.ins C dx [])) (λv H2=>v=.non/\Q (.ref x) H2) E):
  wpAny (model X.prog X.w) X.A (call (.ref C) us) (EP X pz σ Q) X.xe s:=by
 have hq:=h (s.heap.objs.size+1) s.heap.objs.size (I.hok.fresh (jx _)) (I.hok.fresh (qN _)) (qW (kn _));have I2:=Inv.made (C:=C) I;have r2:bB (V.ref (s.heap.objs.size+1)::(vs++dvs)) (qw (s.heap.objs.size+1)::(us++ds)):=.cons rfl (r.append hd);have hl:(qw (s.heap.objs.size+1)::us++ds).length=ps.length:=by
  have e:=r2.length;rw [F.len _ _ _ _ hq] at e;exact e.symm
 refine uv (b2L (f:=f) I.kIn M.makes M.init (beq_iff_eq.mp M.fn) (wy (F.run _ X.stack _ _ ⟨qw (s.heap.objs.size+1)::us,[]⟩ (qw (s.heap.objs.size+1)::(us++ds)) _ _ E (hr.make C us [])
  (I2.env0.make C us []) (hb _ (qw (s.heap.objs.size+1)::us) I2.kIn hl) r2 hq) λr s' hq'=>?_))
 cases r with
 | error e=>exact hx pz σ _ _ e s' I2 hq'
 | ok fl=>
  cases fl with
  | ret u=>
   obtain ⟨v,H',I3,rv,ev,q3⟩:=I2.after hq';subst ev;exact ⟨rv,⟨V.ref (s.heap.objs.size+1),H',I3,rfl,q3⟩⟩
  | next=>exact jN hq'
  | brk=>exact jN hq'
  | cont=>exact jN hq'
def b5n (M:Mk X.K C f) (F:FnOk X.prog X.w X.K X.mg X.base CX k f fd ps sp) (hr:Room (k+1) X.A) (hg:Gl X x) (hm:X.mg x=some (.ref C)) (hb:Binds X.K fd ps ds) (hd:bB dvs ds) (hx:a0z CX X E)
  (ha:PA X (e::es) t) (hdb:(x==("__debug__" : Str))=false:=by decide) (he:j4 (e::es) X.env=(false,eval e X.env)::j4 es X.env:=by rfl) (hpl:(v0 pos (j4 es X.env)).any (·.1)=false:=by rfl):
  PE X (.Call (.Name x p) (e::es) [] pos) (c0a C sp dvs E t):=by
 intro pz s σ H Q I h;refine k6 (a8W I hg hm ?_ hdb);refine PySem.W.callWith_K (h₀:=X.base) I.ok.mod.kin M.kp (thn (ha pos pz s σ H _ I h) λus s1 ⟨vs,H1,I1,r,q⟩=>⟨I1.kIn,?_⟩) he hpl;exact b1Q M F hr hb hd hx I1 r q
end
def PK (X:Cx) (kws:List Keyword) (t:TA):Prop:=
 ∀ (pos:Pos) (pz:T0b) (s:Shared) (σ:St) (H:Hp) (Q:List V->Hp->Prop),Inv X pz σ H s->t σ H Q->wpAny (model X.prog X.w) X.A (evalAll ((yq pos (wu kws X.env)).map (·.2))) (AP X pz σ Q) X.xe s
section
variable {ks:T0q} {E:XK} {x m:Str} {kpos:Pos} {o:Expr} {kws:List Keyword} {tk:TA} {nm:Option Str}
def b8b:PK X [] b7M:=λ_ _ _ _ H Q I h=>wpAny_evalAll_nil ⟨[],H,I,.nil,h⟩
def b5g (ha:PE X e te) (hr:PK X kws t):PK X (⟨nm,e,kpos⟩::kws) (b7c te t):=by
 intro pos pz s σ H Q I h;show wpAny _ _ (evalAll ((do let v <-eval e X.env;Qb pos;pure v)::(yq pos (wu kws X.env)).map (·.2))) _ _ s;refine QD (q8 (thn (ha pz s σ H _ I h) λu s1 ⟨x,H1,I1,r1,q1⟩=>q8 (y0 (j3 ?_))));exact thn (hr pos pz s1 σ H1 _ I1 q1) λus s2 ⟨xs,H2,I2,r2,q2⟩=>⟨x::xs,H2,I2,.cons r1 r2,q2⟩
variable {g:List Value->List Value->List Value} {gV:List V->List V->List V}
end
structure FnScope (N P:T0q) (sc:Scope):Prop where
 kind:sc.kind=.function
 co:sc.isCoroutine=false
 gen:sc.isGenerator=false
 nd:N.Nodup
 pre:N.take P.length=P
 par:∀ x∈P,sc.names.lookup x=some .local\/sc.names.lookup x=some .cell
 nofree:∀ y∈sc.names,y.2≠.free
theorem a4j {kindOf:Str->Option yk} {x:Str}:∀ {binds:T0g} {m:T0d},(∀ v,(x,v)∉binds)->bindL kindOf binds m x=m x
 | [],_,_=>rfl
 | (n,v)::r,m,h=>by
  unfold bindL;rw [a4j λw hw=>h w (qF _ hw)];split
  ·have:x≠n:=by rintro rfl;exact h v qY
   simp [this]
  ·rfl
theorem a4l {kindOf:Str->Option yk} {x:Str}:∀ {binds:T0g} {m:T0d},(∀ v,(x,v)∉binds)->bindC kindOf binds m x=m x
 | [],_,_=>rfl
 | (n,v)::r,m,h=>by
  unfold bindC;rw [a4l λw hw=>h w (qF _ hw)];split
  ·rfl
  ·have:x≠n:=by rintro rfl;exact h v qY
   simp [this]
theorem a4k {kindOf:Str->Option yk} {x:Str} {v:Value}:∀ {P:T0q} {vs:T0m} {i:Nat} {m:T0d},P.Nodup->P[i]?=some x->vs[i]?=some v->kindOf x=some .local ->
  bindL kindOf (P.zip vs) m x=some v
 | [],_,_,_,_,h,_,_=>by simp at h
 | _::_,[],_,_,_,_,h,_=>by simp at h
 | p::P,w::vs,0,m,nd,h1,h2,hk=>by
  simp at h1 h2;subst h1;subst h2;show bindL kindOf ((p,w)::P.zip vs) m p=_;unfold bindL;rw [a4j λv hv=>(kF.mp nd).1 (List.of_mem_zip hv).1,if_pos hk];simp
 | p::P,w::vs,i+1,m,nd,h1,h2,hk=>by
  show bindL kindOf ((p,w)::P.zip vs) m x=_;unfold bindL;exact a4k (i:=i) (kF.mp nd).2 (by simpa using h1) (by simpa using h2) hk
theorem a4m {kindOf:Str->Option yk} {x:Str} {v:Value}:∀ {P:T0q} {vs:T0m} {i:Nat} {m:T0d},P.Nodup->P[i]?=some x->vs[i]?=some v->kindOf x≠some .local ->
  bindC kindOf (P.zip vs) m x=some v
 | [],_,_,_,_,h,_,_=>by simp at h
 | _::_,[],_,_,_,_,h,_=>by simp at h
 | p::P,w::vs,0,m,nd,h1,h2,hk=>by
  simp at h1 h2;subst h1;subst h2;show bindC kindOf ((p,w)::P.zip vs) m p=_;unfold bindC;rw [a4l λv hv=>(kF.mp nd).1 (List.of_mem_zip hv).1,if_neg hk];simp
 | p::P,w::vs,i+1,m,nd,h1,h2,hk=>by
  show bindC kindOf ((p,w)::P.zip vs) m x=_;unfold bindC;exact a4m (i:=i) (kF.mp nd).2 (by simpa using h1) (by simpa using h2) hk
def start (N:T0q) (vs:List V):St:=vs.map some++List.replicate (N.length - vs.length) none
def a6I (CX:CXT) (P:Program) (w:World) (K:qC) (mg:T0d) (base:Heap) (N:T0q) (qual:Str) (scope:Scope) (f:Addr) (cd:Value) (A:Around) (outer:List Env) (s:Shared) (H:Hp) (E:XK):Cx where
 prog:=P
 w:=w
 K:=K
 mg:=mg
 base:=base
 A:=A.deeper (uf qual scope s.heap.objs.size f cd)
 N:=N
 s₀:=s
 H₀:=H
 env:=uf qual scope s.heap.objs.size f cd
 outer:=outer
 stack:=uf qual scope s.heap.objs.size f cd::outer
 ex:=[]
 calm:=true
 fn:=λ_=>true
 pn:=[]
 xe:=λe s'=>wpAny (model P w) (A.deeper (uf qual scope s.heap.objs.size f cd)) (leaving (uf qual scope s.heap.objs.size f cd) e) (λ_ s''=>CX outer H s E e s'') (λe' s''=>CX outer H s E e' s'') s'
def xW {sc:Scope} {x:Str} (h:sc.names.lookup x=some .cell):∃ c,(k8 n sc.names []).lookup x=some c:=by
 have q:=vZ sc.names n [] (.inl h);exact Option.isSome_iff_exists.mp q
def a3U {K:qC} {cd:Value} {outer:List Env} {s1:Shared} {E:XK} 
  (S:FnScope N ps scope) (hd:A.handled=none) (e0:Env0 P w K mg base A outer s H) (hl:vs.length=ps.length) (r:bB vs us)
  (x:InCallC s s.heap.objs.size (bindL (uf qual scope s.heap.objs.size f cd).kindOf (ps.zip us) λ_=>none) (k8 (s.heap.objs.size+1) scope.names []) (bindC (uf qual scope s.heap.objs.size f cd).kindOf (ps.zip us) λ_=>none) s1):
  Inv (a6I CX P w K mg base N qual scope f cd A outer s H E) [] (start N vs) H s1:=by
 have hpl:ps.length<=N.length:=by have:=congrArg zV S.pre;rw [jQ] at this;omega
 obtain ⟨h1,tk,rfl,hk⟩:=x.done;have noA:∀ b:Addr,b∉(a6I CX P w K mg base N qual scope f cd A outer s H E).ex:=λb z=>absurd (show b∈([]:T0o) from z) (by simp)
 refine ⟨⟨e0.mod,S.kind,rfl,rfl,qN _,λy z c h1 h2=>?_,λy hy=>?_,λy c _ h=>?_,λ_=>hd,Around.frames_deeper e0.frames,.inr ⟨rfl,rfl⟩,λb z=>absurd z (noA b),e0.bs,e0.bsz,λb _ _=>noA b,λb z=>absurd z (noA b),e0.funs,e0.frf⟩,
  rfl,e0.bare,Un.kept hk,⟨_,x.toInCall.ns,λi y v h1 h2 h3=>?_⟩,λy c h=>⟨_,x.cell y c h⟩,e0.hok.fresh (qN _),λy c h=>?_,λp hp=>absurd (show p∈([]:T0b) from hp) (by simp),e0.hok.kept hk,?_⟩
 ·exact name_of_addr x.apart (qj h1) (qj h2)
 ·have hy:scope.names.lookup y=some .cell\/scope.names.lookup y=some .free:=hy
  rcases hy with hy | hy
  ·exact xW hy
  ·exact absurd rfl (S.nofree _ (qj hy))
 ·exact jF (x.above y c (qj h))
 ·have hi:i<vs.length:=by
   unfold start at h2;by_cases hi:i<vs.length
   ·exact hi
   ·rw [jU (by simpa using hi)] at h2
    rw [vO] at h2;split at h2<;>cases h2
  have ha:vs[i]?=some v:=by
   unfold start at h2;rw [ja (by simpa using hi),qQ] at h2;cases e:vs[i]? with
   | none=>rw [e] at h2;cases h2
   | some a=>rw [e] at h2;cases h2;rfl
  obtain ⟨u,hu,rv⟩:=r.get ha;have hp:ps[i]?=some y:=by
   rw [<-S.pre,zI (by omega)];exact h1
  have ndP:ps.Nodup:=by rw [<-S.pre];exact S.nd.sublist (List.take_sublist _ _)
  refine ⟨u,rv,?_⟩;rcases S.par y (List.mem_of_getElem? hp) with k | k
  ·exact .inl ⟨k,a4k ndP hp hu k⟩
  ·obtain ⟨c,e⟩:=xW (n:=s.heap.objs.size+1) k
   refine .inr ⟨.inl k,c,e,?_⟩;have q:=x.cell y c e;rw [a4m ndP hp hu (by show scope.names.lookup y≠_;rw [k];decide)] at q;exact q
 ·exact e0.hok.fresh (jF (x.above y c (qj h)))
 ·unfold start
  show _=N.length;rw [qf,qE,List.length_replicate];omega
def b7s {K:qC} {dV kV:Value} 
  {osl:Array (Option Value)} (lk:K.lookup f=some ⟨oc,od,.func (jV name qual params body scope dV kV doc pm an cdv ct),osl⟩) (hcd:zA K cdv qual=true) (S:FnScope N ps scope)
  (len:∀ vs H Q E,sp vs H Q E->vs.length=ps.length)
  (hbody:∀ (A:Around) (outer:List Env) (s:Shared) (H:Hp) (vs:List V) (Q:VK) (E:XK),Room k (A.deeper (uf qual scope s.heap.objs.size f cdv))->sp vs H Q E ->
   ∃ t,PSs (a6I CX P w K mg base N qual scope f cdv A outer s H E) body t/\t { nx:=λ_ H'=>Q .non H',rt:=Q } (start N vs) H):
  FnOk P w K mg base CX (k+1) f (jV name qual params body scope dV kV doc pm an cdv ct) ps sp:=by
 refine ⟨len,λA outer s H args us vs Q E hr e0 hb r hsp=>?_⟩;have hl:=len _ _ _ _ hsp;have KX:K.In s.heap:=e0.mod.kin.keeps λb o e=>(e0.bs b o e).1;have lim:s.heap.NoLimit:=e0.mod.nolimit.keeps λb o e=>(e0.bs b o e).1;have hkind:∀ y∈ps.zip us,scope.names.lookup y.1=some .local\/(scope.names.lookup y.1=some .cell/\((k8 (s.heap.objs.size+1) scope.names []).lookup y.1).isSome=true):=λ⟨n,v⟩ hy=>by
  rcases S.par n (List.of_mem_zip hy).1 with q | q
  ·exact .inl q
  ·exact .inr ⟨q,vZ _ _ _ (.inl q)⟩
 refine codeAny_call_function hr.depth (KX _ _ lk) rfl S.co S.gen rfl (PySem.W.codeRec_of KX hcd) (hb _ _ _ _ ?_);refine wpAny_newFunctionEnv_cells S.kind hkind λenv he s1 x=>?_;subst he;refine ⟨lim.keeps x.toInCall.keep,codeAny_func ?_⟩;obtain ⟨t,ht,hq⟩:=hbody A outer s H vs Q E (hr.deeper _) hsp;have I:Inv (a6I CX P w K mg base N qual scope f cdv A outer s H E) [] (start N vs) H s1:=a3U S hr.hd e0 hl r x;refine wz (ht [] s1 (start N vs) H _ I hq) (λfl s' hs=>?_) λe s' hs=>hs;have fin:∀ {σ':St} {H':Hp} {v:V} {u:Value},Inv (a6I CX P w K mg base N qual scope f cdv A outer s H E) [] σ' H' s'->RelV v u->Q v H'->CE outer P w H s Q u s':=
  λ{σ' H' v u} J rv q=>⟨v,H',J.os,J.bare,J.base,J.hok,rv,q⟩
 cases fl with
 | ret u=>
  obtain ⟨v,σ',H',J,rv,q⟩:=hs;exact fin J rv q
 | next=>
  obtain ⟨σ',H',J,q⟩:=hs;exact fin (v:=V.non) (u:=jR) J rfl q
 | brk=>
  obtain ⟨_,_,_,q⟩:=hs;exact jN q
 | cont=>
  obtain ⟨_,_,_,q⟩:=hs;exact jN q
section
variable {x:Str} {id:String} {r:List V->Hp->VK->Prop}
def tCB (r:List V->Hp->VK->Prop) (t:TA):TE:=λσ H Q=>t σ H λvs H1=>r vs H1 Q
def a5Q (hc:iP X (.builtin id) r) (hg:Gl X x) (hm:X.mg x=none) (hv:wg x=some (.builtin id)) (ha:PA X (e::es) t) (hn:x ≠ "__name__":=by decide) (hdb:(x==("__debug__" : Str))=false:=by decide)
  (he:j4 (e::es) X.env=(false,eval e X.env)::j4 es X.env:=by rfl) (hpl:(v0 pos (j4 es X.env)).any (·.1)=false:=by rfl):PE X (.Call (.Name x p) (e::es) [] pos) (tCB r t):=by
 intro pz s σ H Q I h;refine k6 (iG I hg hm hv ?_ hn hdb);exact PyProof.Rows.callWith_builtin1 (thn (ha pos pz s σ H _ I h) λus s1 ⟨vs,H1,I1,r1,q1⟩=>hc pz s1 σ H1 vs us Q I1 r1 q1) he hpl
def a3w (hc:iP X (.type T) r) (hg:Gl X x) (hm:X.mg x=none) (hv:wg x=some (.type T)) (ha:PA X (e::es) t) (hn:x ≠ "__name__":=by decide) (hdb:(x==("__debug__" : Str))=false:=by decide)
  (he:j4 (e::es) X.env=(false,eval e X.env)::j4 es X.env:=by rfl) (hpl:(v0 pos (j4 es X.env)).any (·.1)=false:=by rfl):PE X (.Call (.Name x p) (e::es) [] pos) (tCB r t):=by
 intro pz s σ H Q I h;refine k6 (iG I hg hm hv ?_ hn hdb);exact kr (thn (ha pos pz s σ H _ I h) λus s1 ⟨vs,H1,I1,r1,q1⟩=>hc pz s1 σ H1 vs us Q I1 r1 q1) he hpl
end
end L2
variable {H H' H1 H2 G G' H0 Gz G1:L2.Hp} {o o':L2.HO} {X:L2.Cx} {σ:L2.St} {v y:L2.V} {ta tb te tv td:L2.TE} {xs:List L2.V} {tc:L2.TT} {wi:L2.TI} {r:L2.R2} {CX:L2.CXT} {sp:L2.Sp} {J:L2.It} {kvs:List (L2.Key×L2.V)}
namespace HT
open PySem PyProof.Rows
section
open PySem.SeqAt
open PySem.AutoSeq1 (wpAny_loadPart')
open PySem.MeetsSeq PySem.MeetsSeq2 PySem.MeetsSeq3
end
variable {t sl:Addr} {lo hi:Option Int}
def cat_tup {b:Addr} {ws:T0m} (ht:IsTup s.heap t vs.toArray) (hb:IsTup s.heap b ws.toArray) (hv:vs≠[])
  (h1:ws=[]->Q (.ref t) s) (h2:ws≠[]->Q (.ref s.heap.objs.size) { s with heap:=s.heap.push { cls:=.type "tuple", data:=.seq (vs++ws).toArray } })
  (hsz:vs.length+ws.length<=j5):wpAny (model prog w) A (yw .Add (.ref t) (.ref b)) Q E s:=by
 obtain ⟨⟨cls,dd,data,sl⟩,ho,hc,n,hd⟩:=id ht;obtain ⟨⟨cls2,dd2,data2,sl2⟩,ho2,hc2,n2,hd2⟩:=id hb;simp only at hc hd hc2 hd2;subst hc hd hc2 hd2;have e:vs.toArray++ws.toArray=(vs++ws).toArray:=by simp
 by_cases hw:ws=[]
 ·exact QR ⟨_,ho,rfl⟩ ⟨_,ho2,rfl⟩ QL seq_tuple_add PySem.F.slot_tuple_add PySem.F.entry_tuple_add (PySem.F.args_tuple_add_2 _ _)
   (tuple_addW1 t b vs.toArray ws.toArray n n2 dd dd2 sl sl2 (by simpa using hv) (by simp [hw])) ⟨ho,ho2,h1 hw⟩
 ·refine QR ⟨_,ho,rfl⟩ ⟨_,ho2,rfl⟩ QL seq_tuple_add PySem.F.slot_tuple_add PySem.F.entry_tuple_add (PySem.F.args_tuple_add_2 _ _)
   (tuple_addW2 t b vs.toArray ws.toArray n n2 dd dd2 sl sl2 (by simpa using hv) (by simpa using hw) (by rw [qR,qR];exact hsz)) ⟨ho,ho2,?_⟩
  rw [e];exact h2 hw
def sIx (n d:Nat):Option Int->Nat
 | none=>d
 | some v=>if v<0 then (v+(n:Int)).toNat else min v.toNat n
def sIx_none (n d:Nat):sIx n d none=d:=rfl
def b7S (n d:Nat) (hd:d<=n) (o:Option Int):sIx n d o<=n:=by
 cases o with
 | none=>exact hd
 | some v=>
  show (if v<0 then (v+(n:Int)).toNat else min v.toNat n)<=n;by_cases hv:v<0
  ·rw [if_pos hv];omega
  ·rw [if_neg hv];exact Nat.min_le_right _ _
def a9x (v:Int) (n d:Nat):(if v<0 then max (v+(n:Int)) 0 else min v (n:Int))=((sIx n d (some v):Nat):Int):=by
 show (if v<0 then max (v+(n:Int)) 0 else min v (n:Int))=(((if v<0 then (v+(n:Int)).toNat else min v.toNat n):Nat):Int);by_cases hv:v<0
 ·simp only [if_pos hv];omega
 ·simp only [if_neg hv];omega
def a8s (lo hi:Option Int) (n:Nat):vc lo hi 1 (n:Int)=(((sIx n 0 lo:Nat):Int),((sIx n n hi:Nat):Int)):=by
 have h1:¬((1:Int)<0):=by omega
 unfold vc;simp only [h1,if_false];refine Prod.ext ?_ ?_
 ·cases lo with
  | none=>rfl
  | some v=>exact a9x v n 0
 ·cases hi with
  | none=>rfl
  | some v=>exact a9x v n n
def a7x (i j:Nat):zP (i:Int) (j:Int) 1=j - i:=by
 unfold zP;have h1:(1:Int) > 0:=by omega
 simp only [h1,if_true,Int.ediv_one];split<;>omega
def a1K {v:Value} {o:Option Int} {Q:Option Int->Shared->Prop} (p:QP v o) (h:Q o s):wpAny (model prog w) A (Builtin.Slice.slicePartIndex v) Q E s:=by
 cases p with
 | none=>exact slicePart_none h
 | int i t=>exact slicePart_int h
def nU {vl:Value} {Q:Int×Int×Nat->Shared->Prop} (hs:s.heap.IsSliceOf sl vl vu .none) (pl:QP vl lo) (pu:QP vu hi)
  (h:Q (((sIx n 0 lo:Nat):Int),1,sIx n n hi - sIx n 0 lo) s):wpAny (model prog w) A (Builtin.Slice.sliceApplied (.ref sl) (pure (n:Int))) Q E s:=by
 obtain ⟨os,hos,hcs,hds⟩:=id hs;unfold Builtin.Slice.sliceApplied Builtin.Slice.sliceFields;refine q8 (q8 (wq hos hds (x:=vl) rfl (q8 (wq hos hds (x:=vu) rfl (q8 (wq hos hds (x:=.none) rfl (j3 ?_)))))));refine q8 (slicePart_none ?_);show wpAny _ _ (if ((1:Int)==0)=true then _ else _) _ _ s;rw [if_neg (by decide)];refine q8 (a1K pl (q8 (a1K pu (q8 (j3 ?_)))));show wpAny _ _ (match vc lo hi 1 (n:Int) with | (lo,hi)=>pure (lo,(1:Int),zP lo hi 1)) _ _ s;rw [a8s lo hi n];show wpAny _ _ (pure (((sIx n 0 lo:Nat):Int),(1:Int),zP ((sIx n 0 lo:Nat):Int) ((sIx n n hi:Nat):Int) 1)) _ _ s;rw [a7x];exact j3 h
def b2j (xs:Array Value) (i k:Nat):((qm k).filterMap λ(m:Nat)=>xs[((i:Int)+(m:Int)*1).toNat]?).toArray=((xs.toList.drop i).take k).toArray:=by
 have e:(λ(m:Nat)=>xs[((i:Int)+(m:Int)*1).toNat]?)=λm=>xs[i+m]?:=by
  funext m
  have:((i:Int)+(m:Int)*1).toNat=i+m:=by omega
  rw [this]
 rw [e];have:=pick_run xs i k;rw [List.filterMap_map] at this;have e2:((λx=>xs[x]?)∘λx=>i+x)=λm=>xs[i+m]?:=rfl;rw [e2] at this;rw [this]
def getItem_tuple_cut {vl:Value} (ht:IsTup s.heap t items) (hs:s.heap.IsSliceOf sl vl vu .none) (pl:QP vl lo) (pu:QP vu hi)
  (hw:¬(sIx items.size 0 lo=0/\sIx items.size items.size hi=items.size))
  (h:Q (.ref s.heap.objs.size) { s with heap:=s.heap.push { cls:=.type "tuple", data:=.seq ((items.toList.drop (sIx items.size 0 lo)).take (sIx items.size items.size hi - sIx items.size 0 lo)).toArray } })
  (hsz:items.size<=j5):wpAny (model prog w) A (QX (.ref t) (.ref sl)) Q E s:=by
 have htake:sizeOk (.seq ((items.toList.drop (sIx items.size 0 lo)).take (sIx items.size items.size hi - sIx items.size 0 lo)).toArray):=by
  show ((items.toList.drop (sIx items.size 0 lo)).take (sIx items.size items.size hi - sIx items.size 0 lo)).toArray.size<=j5;rw [qR,jQ,zj,qP];omega
 have hj:sIx items.size items.size hi<=items.size:=b7S _ _ (qN _) hi;obtain ⟨os,hos,hcs,hds⟩:=id hs;have hTs:s.TypeIs (.ref sl) "slice" := ⟨os,hos,hcs⟩;unfold QX
 try with_reducible refine v8 ?_
 first | refine q8 (j3 ?_) | skip
 refine q8 (wpAny_sequenceKey ht.typeIs (by decide) ?_)
 refine q8 (k5 (name:=qx "__getitem__") ht.typeIs jS
  (j9 jS ht.typeIs entry_tuple_getitem ?_ (args_tuple_getitem _ _)))
 show wpAny _ _ (vR (.ref t)>>=_) _ _ s;refine q8 (tupleItemsOf_ ht ?_);refine q8 (yv hTs ?_);rw [if_pos (by decide)];refine q8 (nU hs pl pu ?_);have hno:¬((((sIx items.size 0 lo:Nat):Int)==0&&(1:Int)==1&&(sIx items.size items.size hi - sIx items.size 0 lo)==items.size)=true):=by
  intro q;rw [qJ,qJ] at q;have q1:((sIx items.size 0 lo:Nat):Int)=0:=eq_of_beq q.1.1;have q2:sIx items.size items.size hi - sIx items.size 0 lo=items.size:=eq_of_beq q.2;exact hw ⟨by omega,by omega⟩
 show wpAny _ _ (if (((sIx items.size 0 lo:Nat):Int)==0&&(1:Int)==1&&(sIx items.size items.size hi - sIx items.size 0 lo)==items.size)=true then _ else _) _ _ s;rw [if_neg hno,b2j]
 first
  | exact q8 (m:=zR _) (j8 (j3 ⟨_,rfl,j3 h⟩) htake)
  | exact q8 (m:=zR _) (j8 (q8 (j3 (j3 ⟨_,rfl,j3 h⟩))) htake)
  | exact q8 (q8 (m:=zR _) (j8 (j3 (j3 ⟨_,rfl,j3 h⟩)) htake))
  | exact q8 (q8 (m:=zR _) (j8 (j3 ⟨_,rfl,j3 h⟩) htake))
end HT
namespace L2
open PySem PySem.Spec PyProof.Rows
abbrev TO:=St->Hp->(Option Int->Hp->Prop)->Prop
def PO (X:Cx) (e:Option Expr) (t:TO):Prop:=
 ∀ (pz:T0b) (s:Shared) (σ:St) (H:Hp) (Q:Option Int->Hp->Prop),Inv X pz σ H s->t σ H Q ->
  wpAny (model X.prog X.w) X.A (evalPart e X.env) (λu s'=>∃ o H',Inv X pz σ H' s'/\QP u o/\Q o H') X.xe s
def b4G:TO:=λ_ H Q=>Q none H
def b9W (t:TE):TO:=λσ H Q=>t σ H λx H1=>∃ i,x=.int i/\Q (some i) H1
def intsAre_of:∀ {us:T0m},bB (ns.map V.int) us->ud us ns:=by
 induction ns with
 | nil=>intro us r;rw [vA] at r;cases r;exact .nil
 | cons n ns ih=>
  intro us r;rw [qI] at r;cases r with
  | cons r1 r2=>
   obtain ⟨t,e⟩:=r1;subst e;exact .cons n t (ih r2)
section
variable {tl th:TO}
def b5f:PO X none b4G:=by
 intro pz s σ H Q I h;rw [evalPart_none];exact j3 ⟨none,H,I,.none,h⟩
def b5e (h:PE X e te):PO X (some e) (b9W te):=by
 intro pz s σ H Q I hw;rw [evalPart_some];refine thn (h pz s σ H _ I hw) λu s1 ⟨x,H1,I1,r1,q1⟩=>?_;obtain ⟨i,rfl,q⟩:=q1;obtain ⟨t,rfl⟩:=r1;exact ⟨some i,H1,I1,.int i t,q⟩
def SlR (X:Cx) (r:V->Option Int->Option Int->Hp->VK->Prop):Prop:=
 ∀ (pz:T0b) (s:Shared) (σ:St) (H:Hp) (x:V) (v vl vu:Value) (lo hi:Option Int) (sl:Addr) (Q:VK),Inv X pz σ H s->RelV x v->s.heap.IsSliceOf sl vl vu .none->QP vl lo->QP vu hi->r x lo hi H Q ->
  ∃ T id,typeLookup (.type T) "__getitem__" = pure (some (.builtin id))/\s.TypeIs v T/\wpAny (model X.prog X.w) X.A (QX v (.ref sl)) (EP X pz σ Q) X.xe s
theorem SlR.or {r r':V->Option Int->Option Int->Hp->VK->Prop} (h:SlR X r) (h':SlR X r'):SlR X (λx lo hi H Q=>r x lo hi H Q\/r' x lo hi H Q):=by
 intro pz s σ H x v vl vu lo hi sl Q I rx hs pl pu q;rcases q with q | q
 ·exact h pz s σ H x v vl vu lo hi sl Q I rx hs pl pu q
 ·exact h' pz s σ H x v vl vu lo hi sl Q I rx hs pl pu q
def tSl (r:V->Option Int->Option Int->Hp->VK->Prop) (te:TE) (tl th:TO):TE:=λσ H Q=>te σ H λx H1=>tl σ H1 λl H2=>th σ H2 λu H3=>r x l u H3 Q
def a5P {r:V->Option Int->Option Int->Hp->VK->Prop} (hr:SlR X r) (he:PE X e te) (hl:PO X lo tl) (hu:PO X hi th):PE X (.Subscript e (.Slice lo hi none p2) pos) (tSl r te tl th):=by
 intro pz s σ H Q I h;refine Subscript_ (thn (he pz s σ H _ I h) λv s1 ⟨x,H1,I1,r1,q1⟩=>?_);refine wpAny_Slice (thn (hl pz s1 σ H1 _ I1 q1) λvl s2 ⟨l,H2,I2,pl,q2⟩=>thn (hu pz s2 σ H2 _ I2 q2) λvu s3 ⟨u,H3,I3,pu,q3⟩=>?_);rw [evalPart_none];refine j3 ?_;have I4:Inv X pz σ H3 { s3 with heap:=s3.heap.push { cls:=.type "slice", data:=.fields #[vl,vu,.none] } }:=I3.kept (t':=s3.toks) λb ob q=>qD _ q;obtain ⟨T,id,hT,ht,hg⟩:=hr pz { s3 with heap:=s3.heap.push { cls:=.type "slice", data:=.fields #[vl,vu,.none] } } σ H3 x v vl vu l u s3.heap.objs.size Q I4 r1 (Heap.IsSliceOf.new ..) pl pu q3;show wpAny (model X.prog X.w) X.A (subscriptTail e (.Slice lo hi none p2) v (.ref s3.heap.objs.size)) (EP X pz σ Q) X.xe { s3 with heap:=s3.heap.push { cls:=.type "slice", data:=.fields #[vl,vu,.none] } };exact tail_any (ops:=[.ref s3.heap.objs.size,v]) ht hT hg (by with_unfolding_all rfl)
def a6J (xs:List V) (lo hi:Option Int):List V:=(xs.drop (HT.sIx xs.length 0 lo)).take (HT.sIx xs.length xs.length hi - HT.sIx xs.length 0 lo)
def a0U (xs:List V) (lo hi:Option Int):(a6J xs lo hi).length<=xs.length:=by
 unfold a6J;rw [jQ,zj];omega
def c2c (K:qC):V->Option Int->Option Int->Hp->VK->Prop:=λx lo hi H Q=>∃ a xs,x=.ref a/\SqT K H a xs /\
 ¬(HT.sIx xs.length 0 lo=0/\HT.sIx xs.length xs.length hi=xs.length)/\∀ p,H p=none->Q (.ref p) (upd H p (.tup (a6J xs lo hi)))
def b1K:SlR X (c2c X.K):=by
 intro pz s σ H x v vl vu lo hi sl Q I rx hs pl pu h;obtain ⟨a,xs,rfl,hx,hw,q⟩:=h;cases rx;obtain ⟨its,r,ht,hz⟩:=I.tuple hx;have hlen:its.toArray.size=xs.length:=by rw [qR];exact r.length.symm
 refine ⟨"tuple", _,jS.lookup,ht.typeIs,?_⟩;refine HT.getItem_tuple_cut ht hs pl pu (by rw [hlen];exact hw) ?_ (by rw [hlen];exact hz);rw [hlen];refine ⟨.ref s.heap.objs.size,_,I.laid (t':=s.toks) (o:=.tup (a6J xs lo hi)) (λb ob q=>qD _ q) (qN _) ?_,rfl,q _ (I.hok.fresh (qN _))⟩;exact ⟨qi (a0U xs lo hi) hz,_,(r.drop (HT.sIx xs.length 0 lo)).take (HT.sIx xs.length xs.length hi - HT.sIx xs.length 0 lo),IsTup.new _ _⟩
def c0p (K:qC):R2:=λx y H Q=>∃ a b xs ys,x=.ref a/\y=.ref b/\SqT K H a xs/\SqT K H b ys/\xs≠[]/\xs.length+ys.length<=j5 /\
 (ys=[]->Q (.ref a) H)/\(ys≠[]->∀ p,H p=none->Q (.ref p) (upd H p (.tup (xs++ys))))
def bB.nil_iff (r:bB xs us):us=[]↔xs=[]:=by
 cases r with
 | nil=>simp
 | cons _ _=>simp
def b5B:OpR X (yw .Add) (c0p X.K):=by
 intro pz s σ H x y v u Q I rx ry h;obtain ⟨a,b,xs,ys,rfl,rfl,ha,hb,hx,hz,q1,q2⟩:=h;cases rx;cases ry;obtain ⟨its,r1,p1,_⟩:=I.tuple ha;obtain ⟨its2,r2,p2,_⟩:=I.tuple hb;refine HT.cat_tup p1 p2 (λz=>hx (r1.nil_iff.mp z)) (λz=>⟨.ref a,H,I,rfl,q1 (r2.nil_iff.mp z)⟩) (λz=>?_) (by rw [<-r1.length,<-r2.length];exact hz);refine ⟨.ref s.heap.objs.size,_,I.laid (t':=s.toks) (o:=.tup (xs++ys)) (λb ob q=>qD _ q) (qN _) ?_,rfl,q2 (λw=>z (r2.nil_iff.mpr w)) _ (I.hok.fresh (qN _))⟩;exact ⟨by rw [qf];exact hz,_,r1.append r2,IsTup.new _ _⟩
end
def ixN (n:Nat) (i:Int):Option Nat:=if 0<=i then (if i<n then some i.toNat else none) else if -(n:Int)<=i then some (i+n).toNat else none
def atI {α:Type} (xs:List α) (i:Int):Option α:=(ixN xs.length i).bind λj=>xs[j]?
variable {i:Int}
def b6b (h:ixN n i=some j):seqIndex? i n=some j/\j<n/\-(n:Int)<=i/\i<n:=by
 unfold ixN at h;by_cases h0:0<=i
 ·rw [if_pos h0] at h
  by_cases h1:i<n
  ·rw [if_pos h1] at h
   have e:i.toNat=j:=qB h;exact ⟨by rw [seqIndex_of h0 h1,e],by omega,by omega,h1⟩
  ·rw [if_neg h1] at h;cases h
 ·rw [if_neg h0] at h
  by_cases h1:-(n:Int)<=i
  ·rw [if_pos h1] at h
   have e:(i+n).toNat=j:=qB h;exact ⟨by rw [seqIndex_neg (by omega) h1,e],by omega,h1,by omega⟩
  ·rw [if_neg h1] at h;cases h
def a5t {α:Type} {xs:List α} {v:α} (h:atI xs i=some v):∃ j,seqIndex? i xs.length=some j/\xs[j]?=some v/\j<xs.length/\-(xs.length:Int)<=i/\i<xs.length:=by
 unfold atI at h;cases e:ixN xs.length i with
 | none=>rw [e] at h;cases h
 | some j=>
  rw [e] at h;obtain ⟨h1,h2,h3,h4⟩:=b6b e;exact ⟨j,h1,h,h2,h3,h4⟩
def a1t (b:Expr):Prop:=∀ o i,subscripted b false o i=operate [o,i] (QX o i)
def IxR (X:Cx) (r:R2):Prop:=
 ∀ (value slice:Expr) (pz:T0b) (s:Shared) (σ:St) (H:Hp) (x y:V) (v u:Value) (Q:VK),Inv X pz σ H s->RelV x v->RelV y u->r x y H Q ->
  subscripted slice false v u=operate [v,u] (QX v u)->wpAny (model X.prog X.w) X.A (subscriptTail value slice v u) (EP X pz σ Q) X.xe s
def MtR (X:Cx) (id:String) (r:V->List V->Hp->VK->Prop):Prop:=
 ∀ (pz:T0b) (s:Shared) (σ:St) (H:Hp) (x:V) (xs:List V) (v:Value) (us:T0m) (Q:VK),Inv X pz σ H s->RelV x v->bB xs us->r x xs H Q ->
  wpAny (model X.prog X.w) X.A (call (.builtin id) (v::us)) (EP X pz σ Q) X.xe s
variable {v:Value}
section
variable {a:Expr}
theorem IxR.or {r':R2} (h:IxR X r) (h':IxR X r'):IxR X (λx y H Q=>r x y H Q\/r' x y H Q):=by
 intro value slice pz s σ H x y v u Q I rx ry q hs;rcases q with q | q
 ·exact h value slice pz s σ H x y v u Q I rx ry q hs
 ·exact h' value slice pz s σ H x y v u Q I rx ry q hs
def b2p (hr:IxR X r) (ha:PE X a ta) (hb:PE X b tb) (hs:a1t b):PE X (.Subscript a b pos) (tOp r ta tb):=by
 intro pz s σ H Q I h;exact Subscript_ (b9C ha hb I h λv u s2 x y H2 I2 rx ry q=>hr a b pz s2 σ H2 x y v u Q I2 rx ry q (hs _ _))
def c0l (K:qC):R2:=λx y H Q=>∃ p xs i v,x=.ref p/\y=.int i/\SqL K H p xs/\atI xs i=some v/\Q v H
def c0j (K:qC):R2:=λx y H Q=>∃ p xs i v,x=.ref p/\y=.int i/\SqT K H p xs/\atI xs i=some v/\Q v H
def c0k:R2:=λx y H Q=>∃ z i c,x=.str z/\y=.int i/\z.length<=j5/\atI z.cps.toList i=some c/\Q (.str ⟨#[c]⟩) H
def a9b:IxR X (c0l X.K):=by
 intro value slice pz s σ H x y v u Q I rx ry h hs;obtain ⟨p,xs,i,z,rfl,rfl,hq,he,q⟩:=h;cases rx;obtain ⟨t,rfl⟩:=ry;obtain ⟨its,r,pl,hz⟩:=I.list hq;obtain ⟨j,h1,h2,h3,h4,h5⟩:=a5t he;obtain ⟨w,ew,rw'⟩:=r.get h2;have hl:=r.length;have hn:=a0a;have fin:EP X pz σ Q w s:=⟨z,H,I,rw',q⟩;by_cases h0:0<=i
 ·have hj:i.toNat=j:=by
   rw [seqIndex_of h0 h5] at h1;exact qB h1
  exact item_listR pl.isList h0 (by omega) (by rw [hj];simpa using ew) fin hs
 ·have hj:(i+(its.toArray.size:Int)).toNat=j:=by
   rw [seqIndex_neg (by omega) h4] at h1;rw [qR,<-hl];exact qB h1
  exact um (x:=w) pl.isList.typeIs slot_list_getitem.lookup
   (wpAny_getItem_list_neg (Q:=λr s'=>r=w/\EP X pz σ Q r s') pl.isList (by omega) (by rw [qR]<;>omega) (by omega) (by rw [hj];simpa using ew) ⟨rfl,fin⟩) hs
def b8S:IxR X (c0j X.K):=by
 intro value slice pz s σ H x y v u Q I rx ry h hs;obtain ⟨p,xs,i,z,rfl,rfl,hq,he,q⟩:=h;cases rx;obtain ⟨t,rfl⟩:=ry;obtain ⟨its,r,pl,hz⟩:=I.tuple hq;obtain ⟨j,h1,h2,h3,h4,h5⟩:=a5t he;obtain ⟨w,ew,rw'⟩:=r.get h2;have hl:=r.length;have hn:=a0a;have fin:EP X pz σ Q w s:=⟨z,H,I,rw',q⟩;exact um (x:=w) pl.typeIs slot_tuple_getitem.lookup
  (getItem_tuple (j:=j) (Q:=λr s'=>r=w/\EP X pz σ Q r s') pl (by omega) (by omega) (by rw [qR,<-hl];exact h1) (by simpa using ew) ⟨rfl,fin⟩) hs
def b8T:IxR X c0k:=by
 intro value slice pz s σ H x y v u Q I rx ry h hs;obtain ⟨z,i,c,rfl,rfl,hz,he,q⟩:=h;obtain ⟨t,rfl⟩:=rx;obtain ⟨t',rfl⟩:=ry;obtain ⟨j,h1,h2,h3,h4,h5⟩:=a5t he;have hl:z.cps.toList.length=z.length:=by simp [Str.length]
 rw [hl] at h1 h4 h5;have hn:=a0a
 exact tail_any (typeIs_str s z t) slot_str_getitem.lookup (getItem_str (c:=c) (by
  have e1:decide (i < -(2 ^ 63:Int))=false:=decide_eq_false (by omega);have e2:decide (i>=2 ^ 63)=false:=decide_eq_false (by omega)
  rw [e1,e2,wH]) (by rw [h1];simpa using h2) ⟨.str ⟨#[c]⟩,H,I.tok _,⟨_,rfl⟩,q⟩) hs
def rIx (K:qC):R2:=λx y H Q=>c0l K x y H Q\/c0j K x y H Q\/c0k x y H Q
def b8U:IxR X (rIx X.K):=a9b.or (b8S.or b8T)
def a4A (lo hi:Option Int) (n:Nat):(uj lo hi none n).1=((HT.sIx n 0 lo:Nat):Int)/\(uj lo hi none n).2.1=((HT.sIx n n hi:Nat):Int)/\(uj lo hi none n).2.2=1:=by
 refine ⟨?_,?_,rfl⟩
 ·cases lo with
  | none=>simp [uj,HT.sIx]
  | some i=>
   simp only [uj,HT.sIx,Option.getD_none,show (1:Int) > 0 by decide,if_true];by_cases h:i<0
   ·simp only [h,if_true]<;>omega
   ·simp only [h,if_false]<;>omega
 ·cases hi with
  | none=>simp [uj,HT.sIx]
  | some i=>
   simp only [uj,HT.sIx,Option.getD_none,show (1:Int) > 0 by decide,if_true];by_cases h:i<0
   ·simp only [h,if_true]<;>omega
   ·simp only [h,if_false]<;>omega
def a3b (its:T0m) (lo hi:Option Int):slicePick its.toArray lo hi none=((its.drop (HT.sIx its.length 0 lo)).take (HT.sIx its.length its.length hi - HT.sIx its.length 0 lo)).toArray:=by
 obtain ⟨h1,h2,h3⟩:=a4A lo hi its.toArray.size;unfold slicePick;rw [h1,h2,h3];simp only [sliceRange_one,pick_run,qR]<;>rfl
def c2d (K:qC):V->Option Int->Option Int->Hp->VK->Prop:=λx lo hi H Q=>∃ a xs,x=.ref a/\SqL K H a xs/\∀ p,H p=none->Q (.ref p) (upd H p (.lst (a6J xs lo hi)))
def b4O:SlR X (c2d X.K):=by
 intro pz s σ H x v vl vu lo hi sl Q I rx hs pl pu h;obtain ⟨a,xs,rfl,hx,q⟩:=h;cases rx;obtain ⟨its,r,ht,hz⟩:=I.list hx;have hlen:=r.length;refine ⟨"list", _,slot_list_getitem.lookup,ht.isList.typeIs,?_⟩;refine wpAny_getItem_list_slice ht.isList hs pl pu .none (by simp) ?_ (by rw [qR]<;>omega);rw [a3b,<-hlen];refine ⟨.ref s.heap.objs.size,_,I.laid (t':=s.toks) (o:=.lst (a6J xs lo hi)) (λb ob q=>qD _ q) (qN _) ?_,rfl,q _ (I.hok.fresh (qN _))⟩;exact ⟨qi (a0U xs lo hi) hz,_,0,(r.drop (HT.sIx xs.length 0 lo)).take (HT.sIx xs.length xs.length hi - HT.sIx xs.length 0 lo),qH _ rfl⟩
def rF:V->Bool
 | .non=>true
 | .bl _=>true
 | .int _=>true
 | .str _=>true
 | _=>false
def eqV:V->V->Bool
 | .non,.non=>true
 | .bl a,.bl b=>a==b
 | .bl a,.int b=>(if a then 1 else 0)==b
 | .int a,.bl b=>a==(if b then 1 else 0)
 | .int a,.int b=>a==b
 | .str a,.str b=>a==b
 | _,_=>false
def b9h {x:V} (ry:RelV y u) (rx:RelV x v) (fy:rF y=true) (fx:rF x=true):SeqAt.EqAt A s u v (eqV y x):=by
 cases y with
 | non=>
  cases ry;cases x with
  | non=>cases rx;exact SeqAt.EqAt.same _
  | bl b=>cases rx;exact SeqAt.EqAt.none_bool b
  | int b=>obtain ⟨t,rfl⟩:=rx;exact SeqAt.EqAt.none_int b t
  | str b=>obtain ⟨t,rfl⟩:=rx;exact SeqAt.EqAt.none_str b t
  | _=>exact absurd (show false=true from fx) qa
 | bl a=>
  cases ry;cases x with
  | non=>cases rx;exact SeqAt.EqAt.bool_none a
  | bl b=>cases rx;exact SeqAt.EqAt.bool_bool a b
  | int b=>obtain ⟨t,rfl⟩:=rx;exact SeqAt.EqAt.bool_int a b t
  | str b=>obtain ⟨t,rfl⟩:=rx;exact SeqAt.EqAt.bool_str a b t
  | _=>exact absurd (show false=true from fx) qa
 | int a=>
  obtain ⟨t',rfl⟩:=ry;cases x with
  | non=>cases rx;exact SeqAt.EqAt.int_none a t'
  | bl b=>cases rx;exact SeqAt.EqAt.int_bool a t' b
  | int b=>obtain ⟨t,rfl⟩:=rx;exact SeqAt.EqAt.int_int a t' b t
  | str b=>obtain ⟨t,rfl⟩:=rx;exact SeqAt.EqAt.int_str a t' b t
  | _=>exact absurd (show false=true from fx) qa
 | str a=>
  obtain ⟨t',rfl⟩:=ry;cases x with
  | non=>cases rx;exact SeqAt.EqAt.str_none a t'
  | bl b=>cases rx;exact SeqAt.EqAt.str_bool a t' b
  | int b=>obtain ⟨t,rfl⟩:=rx;exact SeqAt.EqAt.str_int a t' b t
  | str b=>obtain ⟨t,rfl⟩:=rx;exact SeqAt.EqAt.str_str a t' b t
  | _=>exact absurd (show false=true from fx) qa
 | _=>exact absurd (show false=true from fy) qa
def eqU (x:V) (u:Value):Bool:=match u with
 | .none=>eqV .non x
 | .bool b=>eqV (.bl b) x
 | .int i _=>eqV (.int i) x
 | .str z _=>eqV (.str z) x
 | _=>false
def b3D {x:V} (r:RelV y u) (f:rF y=true):eqU x u=eqV y x:=by
 cases y with
 | non=>cases r;rfl
 | bl b=>cases r;rfl
 | int i=>obtain ⟨t,rfl⟩:=r;rfl
 | str z=>obtain ⟨t,rfl⟩:=r;rfl
 | _=>exact absurd (show false=true from f) qa
theorem a5u {x:V}:∀ {xs:List V} {us:T0m},bB xs us->xs.all rF=true->us.any (eqU x)=xs.any λy=>eqV y x
 | _,_,.nil,_=>rfl
 | y::xs,u::us,.cons r t,f=>by
  rw [qz,qJ] at f;rw [kY,kY,b3D r f.1,a5u t f.2]
theorem a2b {A:Around} {s:Shared} {x:V} {v:Value} (rx:RelV x v) (fx:rF x=true):∀ {xs:List V} {us:T0m},bB xs us->xs.all rF=true->∀ u∈us,SeqAt.EqAt A s u v (eqU x u)
 | _,_,.nil,_=>λu hu=>by cases hu
 | y::xs,u::us,.cons r t,f=>λu' hu=>by
  rw [qz,qJ] at f;rcases qG.mp hu with rfl | hu
  ·rw [b3D r f.1];exact b9h r rx f.1 fx
  ·exact a2b rx fx t f.2 u' hu
def inV (x:V) (xs:List V):Bool:=xs.any λy=>eqV y x
def rIn (K:qC) (neg:Bool):R2:=λx y H Q=>∃ p xs,y=.ref p/\(SqL K H p xs\/SqT K H p xs)/\rF x=true/\xs.all rF=true/\Q (.bl (if neg then !inV x xs else inV x xs)) H
def a3z:OpR X (wf .In) (rIn X.K false):=by
 intro pz s σ H x y v u Q I rx ry h;obtain ⟨p,xs,rfl,hq,fx,fs,q⟩:=h;cases ry;rcases hq with hq | hq
 ·obtain ⟨its,r,pl,hz⟩:=I.list hq
  refine SeqAt.in_listAt (eqU x) pl.isList (λw hw=>a2b rx fx r fs w (by simpa using hw)) ⟨.bl _,H,I,rfl,?_⟩;rw [show its.toArray.any (eqU x)=its.any (eqU x) by simp,a5u r fs];exact q
 ·obtain ⟨its,r,pl,hz⟩:=I.tuple hq
  refine SeqAt.in_tupleAt (eqU x) pl (λw hw=>a2b rx fx r fs w (by simpa using hw)) ⟨.bl _,H,I,rfl,?_⟩;rw [show its.toArray.any (eqU x)=its.any (eqU x) by simp,a5u r fs];exact q
def xY:iP X (.builtin "len") (λxs H Q=>∃ p ys,xs=[.ref p]/\(SqL X.K H p ys\/SqT X.K H p ys)/\Q (.int ys.length) H):=by
 intro pz s σ H xs us Q I r h;obtain ⟨p,ys,rfl,hq,q⟩:=h;obtain ⟨u,rfl,rx⟩:=vals1 r;cases rx;have hn:=a0a;rcases hq with hq | hq
 ·obtain ⟨its,r',pl,hz⟩:=I.list hq
  have hlen:=r'.length;exact Calls.call_len_list pl.isList (by simp only [qR]<;>omega) ⟨.int ys.length,H,I.tok _,⟨s.toks+1,by rw [qR,hlen]⟩,q⟩
 ·obtain ⟨its,r',pl,hz⟩:=I.tuple hq
  have hlen:=r'.length;exact len_tuple pl (by simp only [qR]<;>omega) ⟨.int ys.length,H,I.tok _,⟨s.toks+1,by rw [qR,hlen]⟩,q⟩
def a5n:iP X (.builtin "len") (λxs H Q=>∃ z,xs=[.str z]/\z.length<=j5/\Q (.int z.length) H):=by
 intro pz s σ H xs us Q I r h;obtain ⟨z,rfl,hz,q⟩:=h;obtain ⟨u,rfl,t,rfl⟩:=vals1 r;have hn:=a0a;exact len_str (by omega) ⟨.int z.length,H,I.tok _,⟨_,rfl⟩,q⟩
def uB:iP X (.type "tuple") (λxs H Q=>∃ p ys,xs=[.ref p]/\((SqL X.K H p ys/\∀ l,H l=none->Q (.ref l) (upd H l (.tup ys)))\/(SqT X.K H p ys/\Q (.ref p) H))):=by
 intro pz s σ H xs us Q I r h;obtain ⟨p,ys,rfl,h⟩:=h;obtain ⟨u,rfl,rx⟩:=vals1 r;cases rx;rcases h with ⟨hq,q⟩ | ⟨hq,q⟩
 ·obtain ⟨its,r',pl,hz⟩:=I.list hq
  have hlen:=r'.length;refine call_tuple_list pl.isList (λh' kp=>?_) (by simp only [qR]<;>omega);have I1:Inv X pz σ H { s with heap:=h' }:=I.kept (t':=s.toks) kp;have I2:Inv X pz σ (upd H h'.objs.size (.tup ys)) { s with heap:=h'.push { cls:=.type "tuple", data:=.seq its.toArray } }:=
   I1.laid (t':=s.toks) (λb o e=>qD _ e) (qN _) (show bZ X.prog X.w _ _ _ (.tup ys) from ⟨hz,its,r',IsTup.new _ _⟩)
  exact ⟨.ref h'.objs.size,_,I2,rfl,q _ (I1.hok.fresh (qN _))⟩
 ·obtain ⟨its,r',pl,hz⟩:=I.tuple hq
  exact call_tuple_same pl ⟨.ref p,H,I,rfl,q⟩
def tyV (K:qC) (T:String) (x:V) (H:Hp):Prop:=match x with
 | .str _=>T = "str"
 | .int _=>T = "int"
 | .ref p=>(T = "list" /\ ∃ xs,SqL K H p xs)\/(T = "tuple" /\ ∃ o,K.lookup p=some o/\o.cls=.type "tuple" /\ o.dict=none) \/
   (T = "dict" /\ ((∃ kvs,H p=some (.dK kvs))\/∃ kvs,H p=some (.dT kvs)))\/(T = "set" /\ ∃ S n,H p=some (.set S n))
 | _=>False
def b1s {x:V} (I:Inv X pz σ H s) (r:RelV x v) (ty:tyV X.K T x H):
  s.TypeIs v T/\∀ a,v=.ref a->∃ ob,s.heap.get? a=some ob/\ob.dict=none:=by
 cases x with
 | str z=>
  obtain ⟨t,rfl⟩:=r;cases (show T = "str" from ty);exact ⟨typeIs_str s z t,λ_ e=>nomatch e⟩
 | int i=>
  obtain ⟨t,rfl⟩:=r;cases (show T = "int" from ty);exact ⟨typeIs_int s i t,λ_ e=>nomatch e⟩
 | ref p=>
  cases r;rcases ty with ⟨rfl,xs,hq⟩ | ⟨rfl,o,hk,hc,hd⟩ | ⟨rfl,hk⟩ | ⟨rfl,S,n,hk⟩
  ·obtain ⟨its,_,pl,_⟩:=I.list hq
   refine ⟨pl.isList.typeIs,λa e=>?_⟩;cases e;obtain ⟨o,n,e,c,hd,_⟩:=pl;exact ⟨o,e,hd⟩
  ·refine ⟨⟨o,I.kIn p o hk,hc⟩,λa e=>?_⟩
   cases e;exact ⟨o,I.kIn _ o hk,hd⟩
  ·have z:∃ o,s.heap.get? p=some o/\o.ExactDict:=by
    rcases hk with ⟨kvs,hk⟩ | ⟨kvs,hk⟩
    ·obtain ⟨_,_,_,_,o,_,_,e,ex,_⟩:=I.hok p _ hk
     exact ⟨o,e,ex⟩
    ·obtain ⟨_,_,_,_,o,_,_,e,ex,_⟩:=I.hok p _ hk
     exact ⟨o,e,ex⟩
   obtain ⟨o,e,ex⟩:=z;refine ⟨⟨o,e,ex.1⟩,λa e2=>?_⟩;cases e2;exact ⟨o,e,ex.2.1⟩
  ·obtain ⟨o,_,_,_,e,ex,_⟩:=I.hok p _ hk
   refine ⟨⟨o,e,ex.1⟩,λa e2=>?_⟩;cases e2;exact ⟨o,e,ex.2.1⟩
 | _=>exact jN ty
def c1P (K:qC) (T:String) (r:V->List V->Hp->VK->Prop) (to:TE):TE:=λσ H Q=>to σ H λx H1=>tyV K T x H1/\r x [] H1 Q
def tBM (K:qC) (T:String) (r:V->List V->Hp->VK->Prop) (to:TE) (t:TA):TE:=λσ H Q=>to σ H λx H1=>tyV K T x H1/\t σ H1 λxs H2=>r x xs H2 Q
variable {o:Expr} {to:TE} {t:TA} {id:String} {r:V->List V->Hp->VK->Prop}
def b8j (pa:PlainAttrs T) (slot:Slot T name id) (hty:typeOf (.builtin id)=pure (.type "method_descriptor")) (hm:MtR X id r) (ho:PE X o to)
  (hbase:wv o name X.env (eval o X.env)=eval o X.env:=by rfl) (hline:(apos.endLine==cpos.line)=true:=by rfl):PE X (.Call (.Attribute o name apos) [] [] cpos) (c1P X.K T r to):=by
 intro pz s σ H Q I h;refine wpAny_Call_method0_late hbase hline (thn (ho pz s σ H _ I h) λv s1 ⟨x,H1,I1,r1,ty,q1⟩=>?_);obtain ⟨h1,h2⟩:=b1s I1 r1 ty;exact ⟨T,id,pa,slot,hty,h1,h2,zn rfl (vw (hm pz s1 σ H1 x [] v [] Q I1 r1 .nil q1))⟩
def a8J (pa:PlainAttrs T) (slot:Slot T name id) (hty:typeOf (.builtin id)=pure (.type "method_descriptor")) (hm:MtR X id r) (ho:PE X o to) (ha:PA X (e::es) t)
  (hbase:wv o name X.env (eval o X.env)=eval o X.env:=by rfl)
  (hfew:((v0 cpos (j4 (e::es) X.env)).all (λx=>!x.1)&&(yq cpos (wu [] X.env)).all (λx=>x.1.isSome)
   && decide ((e::es).length+([]:List Keyword).length+(if ([]:List Keyword).isEmpty then 0 else 1)<30))=true:=by rfl)
  (hline:(apos.endLine==cpos.line)=true:=by rfl) (hs:j4 (e::es) X.env=(false,eval e X.env)::j4 es X.env:=by rfl) (hplain:(v0 cpos (j4 es X.env)).any (·.1)=false:=by rfl):
  PE X (.Call (.Attribute o name apos) (e::es) [] cpos) (tBM X.K T r to t):=by
 intro pz s σ H Q I h;refine wpAny_Call_method_late hbase hfew hline rfl (thn (ho pz s σ H _ I h) λv s1 ⟨x,H1,I1,r1,ty,q1⟩=>?_);obtain ⟨h1,h2⟩:=b1s I1 r1 ty;refine ⟨T,id,pa,slot,hty,h1,h2,?_⟩;have hA:=ha cpos pz s1 σ H1 _ I1 q1;rw [hs] at hA ⊢;refine zn (by show (false || (v0 cpos (j4 es X.env)).any (·.1))=false;rw [hplain]<;>rfl) (Calls.evalArgs_plain ?_);exact thn hA λus s2 ⟨vs,H2,I2,r2,q2⟩=>hm pz s2 σ H2 x vs v us Q I2 r1 r2 q2
end
def MtM (X:Cx) (id:String) (r:V->List V->Hp->VK->Prop):Prop:=
 ∀ (pz:T0b) (s:Shared) (σ:St) (H:Hp) (x:V) (xs:List V) (v:Value) (us:T0m) (Q:VK),Inv X pz σ H s->RelV x v->bB xs us->r x xs H Q ->
  wpAny (model X.prog X.w) X.A (call (.builtin id) (v::us)) (EP X pz σ Q) X.xe s
theorem bB.one:∀ {x:V} {us:T0m},bB [x] us->∃ u,us=[u]/\RelV x u
 | _,_,.cons r .nil=>⟨_,rfl,r⟩
def bB.zero:∀ {us:T0m},bB [] us->us=[]
 | _,.nil=>rfl
theorem bB.dropLast {xs:List V} {us:T0m} (h:bB xs us):bB xs.dropLast us.dropLast:=by
 induction h with
 | nil=>exact .nil
 | cons r t ih=>
  cases t with
  | nil=>exact .nil
  | cons q t'=>exact .cons r ih
def a7X {α:Type} (l:List α):l.eraseIdx (l.length - 1)=l.dropLast:=by
 induction l with
 | nil=>rfl
 | cons a r ih=>
  cases r with
  | nil=>rfl
  | cons b r=>
   have e:(a::b::r).length - 1=((b::r).length - 1)+1:=by
    have h1:(a::b::r).length=r.length+2:=rfl;have h2:(b::r).length=r.length+1:=rfl;omega
   rw [e,List.eraseIdx_cons_succ,ih]
   all_goals rfl
section
variable {b:Addr} {ys zs:List V}
theorem Inv.lset {its':T0m} {f:Array Value->Array Value} (I:Inv X pz σ H s) (hH:H l=some (.lst xs))
  (e:s.heap.get? l=some { cls:=.type "list", data:=.seq its.toArray n }) (hf:f its.toArray=its'.toArray) (hv:bB ys its') (hz:ys.length<=j5):
  Inv X pz σ (upd H l (.lst ys)) { s with heap:=s.heap.update l (kC f),toks:=t' }:=by
 have q:=PySem.IsL.update e f;rw [hf] at q;refine I.write (x:=l) (e:=l) (by rw [hH];exact trivial) (.inl rfl) (λb' u hb hu=>(je s.heap (kC f) (jJ hb)).trans hu) ⟨_,q⟩ ?_;exact ⟨hz,its',_,hv,q⟩
theorem Inv.lnew (I:Inv X pz σ H s) (hv:bB ys its) (hz:ys.length<=j5):
  Inv X pz σ (upd H s.heap.objs.size (.lst ys)) { s with heap:=s.heap.push { cls:=.type "list", data:=.seq its.toArray },toks:=t' }:=
 I.laid (λ_ _ q=>qD _ q) (qN _) ⟨hz,its,0,hv,qH _ rfl⟩
theorem Inv.fresh (I:Inv X pz σ H s):H s.heap.objs.size=none:=I.hok.fresh (qN _)
theorem Inv.lstM (I:Inv X pz σ H s) (hH:H l=some (.lst xs)):xs.length<=j5/\∃ (its:T0m) (n:Nat),bB xs its/\xs.length=its.length/\s.heap.get? l=some { cls:=.type "list", data:=.seq its.toArray n }:=by
 obtain ⟨z,its,n,r,e⟩:=I.hok l _ hH;exact ⟨z,its,n,r,r.length,e⟩
end
def b4W:V->List V->Hp->VK->Prop:=λx vs H Q=>∃ l xs y,x=.ref l/\vs=[y]/\H l=some (.lst xs)/\xs.length<j5/\Q .non (upd H l (.lst (xs++[y])))
def tG:MtM X "list.append" b4W:=by
 intro pz s σ H x vs v us Q I rx rv h;obtain ⟨l,xs,y,rfl,rfl,hH,hz,q⟩:=h;cases rx;obtain ⟨u,rfl,ru⟩:=rv.one;obtain ⟨z,its,n,r,hl,e⟩:=I.lstM hH;refine call_meets F.slot_list_append ⟨_,e,rfl⟩ F.entry_list_append (F.args_list_append_2 _ _) (PySem.list_append l its.toArray n u (by rw [qR];omega)) ⟨e,?_⟩;refine ⟨.non,_,I.lset (its':=its++[u]) hH e (by simp) (r.append (.cons ru .nil)) ?_,rfl,q⟩;rw [qf,jg];omega
def c2e:V->List V->Hp->VK->Prop:=λx vs H Q=>∃ l xs y,x=.ref l/\vs=[]/\H l=some (.lst xs)/\xs[xs.length - 1]?=some y/\Q y (upd H l (.lst xs.dropLast))
def b8H:MtM X "list.pop" c2e:=by
 intro pz s σ H x vs v us Q I rx rv h;obtain ⟨l,xs,y,rfl,rfl,hH,hy,q⟩:=h;cases rx;have hus:=rv.zero;subst hus;obtain ⟨z,its,n,r,hl,e⟩:=I.lstM hH;obtain ⟨u,hu,ru⟩:=r.get hy;have hy':its.toArray[its.toArray.size - 1]?=some u:=by
  show its.toArray[its.length - 1]?=some u;rw [<-ju,<-hl];exact hu
 refine call_meets F.slot_list_pop ⟨_,e,rfl⟩ F.entry_list_pop (F.args_list_pop_1 _) (MeetsSeq.list_pop_last l its.toArray n u hy' (by rw [qR];omega)) ⟨e,?_⟩;refine ⟨y,_,I.lset (its':=its.dropLast) hH e ?_ r.dropLast ?_,ru,q⟩
 ·show its.toArray.eraseIdxIfInBounds (its.toArray.size - 1)=its.dropLast.toArray
  rw [qR,List.eraseIdxIfInBounds_toArray,a7X]
 ·rw [List.length_dropLast]
  omega
end L2
namespace Att
open PySem PySem.W PySem.Calls PyProof.Rows
def a1f {P:Params} {h:Heap}:∀ (ns:T0s) (vs:T0m),WellAll P h vs (ns.map WData.int)->ud vs ns:=by
 intro ns
 induction ns with
 | nil=>
  intro vs w;rw [vA] at w;cases w;exact .nil
 | cons n ns ih=>
  intro vs w;rw [qI] at w;cases w with
  | cons a b=>
   cases a;exact .cons _ _ (ih _ b)
def a9T {l:OpenLaw} (hn:l.most=some n) {P:Params} {h:Heap} {args:List WData} {vals:T0m} 
  (hpre:l.row.toRowW.claim.pre args=true) (hwl:WellAll P h vals args):
  ∃ a vs ns,vals=[qw a]/\args=[WData.list (ns.map WData.int)]/\h.get? a=some { cls:=.type "list", data:=.seq vs.toArray }/\ud vs ns/\ns.length<=n:=by
 have hsh:WShape.hasAll [] args [.list .int]=true:=(pre_splitW hpre).1;have hc:l.pre.holds [] { args:=args }=true:=(pre_splitW hpre).2;obtain ⟨d,r,rfl,h1,h2⟩:=hasAllW_cons hsh;obtain rfl:=hasAllW_nil h2;obtain ⟨xs,rfl,h3⟩:=hasW_list h1;obtain ⟨ns,rfl⟩:=items_int h3;have hlen:ns.length<=n:=by
  unfold OpenLaw.pre at hc;have h4:(WTm.not (.lt (.lit (.int (n:Int))) (.len (.arg 0)))).holds [] { args:=[.list (ns.map .int)] }=true:=by
   have h4:=(holds_andW hc).1;rw [hn] at h4;exact h4
  have h5:=condW_of h4 (w_not (w_lt w_lit (w_len_list (w_arg rfl))));rw [qE] at h5;refine Nat.le_of_not_lt λq=>?_;have q':(n:Int)<((ns.length:Nat):Int):=by omega
  first
   | (rw [decide_eq_true q'] at h5;exact absurd h5 (by decide))
   | (simp at h5;omega)
 cases hwl with
 | cons w1 w2=>
  cases w2;cases w1 with
  | list ho hall=>exact ⟨_,_,ns,rfl,rfl,ho,a1f ns _ hall,hlen⟩
def a9Z (l:OpenLaw) (args:List WData):l.row.toRowW.claim.post args (.bool true) args=true:=
 postW_of (r:=l.row.toRowW) (X:=(true==true))
  (show WShape.has [] (.bool true) .bool=true by first | rfl | decide | simp [WShape.has,WShape.arms,WShape.armsAll])
  (show (WTm.eq .res (.lit (.bool true))).value [] { args:=args,res:=some (.bool true),after:=args }=some (.bool (true==true)) from w_eq_bool (w_res rfl) w_lit) rfl
def attach_call {l:OpenLaw} {q:Program} {loose:T0q} {XP:(Str->Option Value)->Heap->Prop} {YP:World->Heap->Prop} {d:DefRec} 
  (hn:l.most=some n) (hdf:d.params.defaults=[])
  (call:∀ (w:World) (s₀ s1z:Shared) (mg mb:T0d) (fa:Addr) (o:Obj) (pm cd doc:Value) (a:Addr) (vs:T0m) (ns:T0s),
   Ground q loose [] XP w s₀ mg mb s1z.heap->YP w s1z.heap ->
   s1z.heap.get? fa=some o->o.data=.func (docDef d.name d.params d.body d.scope pm cd doc)->s1z.heap.CodeRec cd d.name->mg d.name=some (.ref fa) ->
   s1z.heap.get? a=some { cls:=.type "list", data:=.seq vs.toArray }->ud vs ns->ns.length<=n->s1z.gens=#[] ->
   yo (model l.prog w) QW (.call (.ref fa) ⟨[.ref a],[]⟩) (λr s'=>r=.ok (.ret (.bool true))/\OldK s1z.heap s'.heap/\s'.os=s1z.os/\u6 s'.gens) s1z):
  WalkO q loose XP YP l.row.toRowW d [] (λf vs=>PySem.call f vs):=by
 intro w s₀ s1z mg mb G Y fa o pm cd doc dV kV ho hd hcd hD hmg hg args vals as hpre hlay hrd hwl hlo;obtain rfl:dV=.none:=Dflts.none hD hdf;obtain rfl:kV=.none:=Dflts.noKw hD;obtain ⟨a,vs,ns,rfl,rfl,hobj,hints,hlen⟩:=a9T hn hpre hwl;refine enter_call (wy (call w s₀ s1z mg mb fa o pm cd doc a vs ns G Y ho (fd_plain hd) hcd hmg hobj hints hlen hg) λr s' hq=>?_);obtain ⟨rfl,h2,h3,h4⟩:=hq;exact ⟨.inl ⟨.bool true,.bool true,[],rfl,λ_=>rfl,.bool true,a9Z l _,λ_=>⟨List.Pairwise.nil,λ_ hm=>(nomatch hm)⟩⟩,h2,h3,h4⟩
section
variable {K:Frag}
end
end Att
namespace L2
open PySem PySem.Spec PyProof.Rows
theorem yK:∀ {vs:T0m} {ns:T0s},ud vs ns->bB (ns.map V.int) vs
 | _,_,.nil=>.nil
 | _,_,.cons n t h=>.cons ⟨t,rfl⟩ (yK h)
def c2L (H:Hp):Prop:=∀ b,H b=none\/∃ o xs,H b=some (.frz o (.lst xs))
def eK (s:Stmt):Arguments:=match s with
 | .FunctionDef _ a _ _ _ _ _ _ _ _=>a
 | _=>{ posonlyargs:=[],args:=[],vararg:=none,kwonlyargs:=[],kw_defaults:=[],kwarg:=none,defaults:=[] }
def bR (s:Stmt):List Stmt:=match s with
 | .FunctionDef _ _ b _ _ _ _ _ _ _=>b
 | _=>[]
def aD (s:Stmt):Scope:=match s with
 | .FunctionDef _ _ _ _ _ _ sc _ _ _=>sc
 | _=>{ kind:=.function,names:=[],isGenerator:=false,isCoroutine:=false }
abbrev CX0:CXT:=λ_ _ _ _ _ _=>False
abbrev E0:XK:=λ_ _ _=>False
def a8L:a0z CX0 X E0:=λ_ _ _ _ _ _ _ h=>h.elim
structure Fun (K:qC) (x qual:Str) (st:Stmt) (f:Addr) (fd:w8):Prop where
 ex:∃ (oc:Value) (od:T0k) (kV doc pm:Value) (an:T0k) (cdv ct:Value) (osl:Array (Option Value)),
  fd=jV x qual (eK st) (bR st) (aD st) .none kV doc pm an cdv ct/\K.lookup f=some ⟨oc,od,.func fd,osl⟩/\zA K cdv qual=true
 kp:jj K (.ref f)=true
section
variable {K:qC}
theorem Fun.ok {x:Str} (F:Fun K x qual st f fd) (S:FnScope N ps (aD st)) (len:∀ vs H Q E,sp vs H Q E->vs.length=ps.length)
  (hbody:∀ (cdv:Value) (A:Around) (outer:List Env) (s:Shared) (H:Hp) (vs:List V) (Q:VK) (E:XK),Room k (A.deeper (uf qual (aD st) s.heap.objs.size f cdv))->sp vs H Q E ->
   ∃ t,PSs (a6I CX0 P w K mg base N qual (aD st) f cdv A outer s H E).nox (bR st) t/\t { nx:=λ_ H'=>Q .non H',rt:=Q } (start N vs) H):FnOk P w K mg base CX0 (k+1) f fd ps sp:=by
 obtain ⟨oc,od,kV,doc,pm,an,cdv,ct,osl,rfl,lk,hcd⟩:=F.ex;refine b7s lk hcd S len λA outer s H vs Q E hr hsp=>?_;obtain ⟨t,h,q⟩:=hbody cdv A outer s H vs Q E hr hsp;exact ⟨t,h.nox,q⟩
def Fun.binds {x:Str} (F:Fun K x qual st f fd)
  (h:∀ (kV doc pm:Value) (an:T0k) (cdv ct:Value) (us:T0m),us.length=ps.length->ug (jV x qual (eK st) (bR st) (aD st) .none kV doc pm an cdv ct) ⟨us,[]⟩=pure (ps.zip us)):Binds K fd ps []:=by
 obtain ⟨oc,od,kV,doc,pm,an,cdv,ct,osl,rfl,lk,hcd⟩:=F.ex;exact .all (h kV doc pm an cdv ct)
def a4Y {x:Str} {osl:Array (Option Value)} {kV:Value} (l:K.lookup f=some ⟨oc,od,.func (jV x qual (eK st) (bR st) (aD st) .none kV doc pm an cdv ct),osl⟩)
  (c:zA K cdv qual=true) (k:jj K (.ref f)=true):Fun K x qual st f (jV x qual (eK st) (bR st) (aD st) .none kV doc pm an cdv ct):=⟨⟨oc,od,kV,doc,pm,an,cdv,ct,osl,rfl,l,c⟩,k⟩
end
def nR (h:n<=1000):n<j5:=zM h (by decide)
def pv (i:Nat) {x:Str} (hN:X.N[i]?=some x:=by rfl) (hv:Vis X.env.scope x:=by first | exact jw rfl | exact jP (jw rfl) | exact jP (jP rfl)) (hd:(x==("__debug__" : Str))=false:=by decide)
  (hcd:(x==("__classdict__" : Str))=false:=by decide):PE X (.Name x pos) (b9V i):=dR hN hv hd hcd
variable {A B:Prop}
def c2n (h:B):if false=true then A else B:=by
 rw [if_neg qa];exact h
def c2m (h:A):if true=true then A else B:=by
 rw [if_pos rfl];exact h
def bG (H H':Hp):Prop:=∀ b o,H b=some o->H' b=some o
def bG.refl (H:Hp):bG H H:=λ_ _ h=>h
def bG.trans (a:bG H H1) (b:bG H1 H2):bG H H2:=λc o h=>b c o (a c o h)
def bG.free (e:bG H H') (h:H' l=Option.none):H l=Option.none:=by
 cases q:H l with
 | none=>rfl
 | some o=>
  rw [e l o q] at h;cases h
theorem bG.seq {K:qC} (e:bG H H') (h:SqL K H a xs):SqL K H' a xs:=by
 rcases h with (h | ⟨o,h⟩) | h
 ·exact .inl (.inl (e _ _ h))
 ·exact .inl (.inr ⟨o,e _ _ h⟩)
 ·exact .inr h
def a7U {α β:Type} {l:List α} {f:α->β->Sem (ForInStep β)} {g:α->β->β}:∀ (c:β),(∀ x∈l,∀ c,f x c=pure (.yield (g x c)))->(forIn l c f:Sem β)=pure (l.foldl (λc x=>g x c) c):=by
 induction l with
 | nil=>intro c _;rfl
 | cons x r ih=>
  intro c h;rw [zx,h x qY];exact ih _ λy hy=>h y (qF _ hy)
def nG (env:Env) (p:Str×yk) (cs:T0f):List (Str×Addr):=
 if p.2=.free then (match env.cells.lookup p.1 with | some a=>(p.1,a)::cs | none=>cs) else cs
def xV (scope:Scope) (env:Env):List (Str×Addr):=scope.names.foldl (λcs p=>nG env p cs) []
def pR {env:Env} (h:∀ p∈scope.names,p.2=.free->∃ c,env.cells.lookup p.1=some c):closureFor scope env=pure (xV scope env):=by
 simp only [closureFor]
 rw [a7U (g:=nG env) [] (λx hx c=>by
  obtain ⟨n,kind⟩:=x;by_cases hk:kind=.free
  ·subst hk
   obtain ⟨a,e⟩:=h _ hx rfl;have e':env.cells.lookup n=some a:=e;simp [nG,e',cellOf]
   try rfl
  ·have hb:(kind==kq)=false:=by simpa using hk
   simp [nG,hb,hk])]
 rfl
theorem b7y {env:Env}:∀ (names:List (Str×yk)) (cs:T0f),(∀ x c,(x,c)∈cs->env.cells.lookup x=some c) ->
  ∀ x c,(x,c)∈names.foldl (λcs p=>nG env p cs) cs->env.cells.lookup x=some c
 | [],cs,h=>h
 | p::r,cs,h=>by
  refine b7y r _ ?_;intro x c hx;unfold nG at hx;dsimp only at hx;split at hx
  ·split at hx
   ·rename_i a e
    rcases qG.mp hx with z | z
    ·cases z;exact e
    ·exact h x c z
   ·exact h x c hx
  ·exact h x c hx
theorem a9y {env:Env} {q:Str×Addr}:∀ (names:List (Str×yk)) (cs:T0f),q∈cs->q∈names.foldl (λcs p=>nG env p cs) cs
 | [],_,h=>h
 | p::r,cs,h=>by
  refine a9y r _ ?_;unfold nG;dsimp only;split
  ·split
   ·exact qF _ h
   ·exact h
  ·exact h
theorem b4l {env:Env} {x:Str} {c:Addr} (e:env.cells.lookup x=some c):∀ (names:List (Str×yk)) (cs:T0f),(x,kq)∈names->(x,c)∈names.foldl (λcs p=>nG env p cs) cs
 | [],_,h=>by simp at h
 | p::r,cs,h=>by
  rcases qG.mp h with z | z
  ·subst z
   refine a9y r _ ?_;unfold nG;dsimp only;rw [if_pos rfl,e];exact qY
  ·exact b4l e r _ z
theorem lS {α:Type} {x:Str} {c:α}:∀ {l:List (Str×α)},(x,c)∈l->∃ c',l.lookup x=some c'
 | [],h=>by simp at h
 | (y,d)::r,h=>by
  by_cases e:x=y
  ·subst e;exact ⟨d,by simp [kM]⟩
  ·have hb:(x==y)=false:=by simpa using e
   rcases qG.mp h with z | z
   ·cases z;exact absurd rfl e
   ·obtain ⟨c',q⟩:=lS z
    exact ⟨c',by simp [kM,hb,q]⟩
variable {c:Addr}
def a5k {env:Env} {x:Str} (h:(xV scope env).lookup x=some c):env.cells.lookup x=some c:=
 b7y scope.names [] (λ_ _ z=>by simp at z) x c (qj h)
def xU {env:Env} {x:Str} (hx:(x,kq)∈scope.names) (e:env.cells.lookup x=some c):(xV scope env).lookup x=some c:=by
 obtain ⟨c',q⟩:=lS (b4l e scope.names [] hx);have:=a5k (scope:=scope) q;rw [e] at this;cases this;exact q
theorem iW {env:Env} (hf:env.scope.kind=.function):∀ {names:List (Str×yk)} {x:Str},names.lookup x=some .free->env.kindOf x=some .cell ->
  (names.map λ(n,k)=>if (k==kq&&env.scope.kind==.function&&env.kindOf n==some .cell) then (n,vn) else (n,k)).lookup x=some .cell
 | [],_,h,_=>by simp at h
 | (n,k)::r,x,h,hk=>by
  have ih:=@iW env hf r x;show zT x ((if (k==kq&&env.scope.kind==.function&&env.kindOf n==some .cell)=true then (n,vn) else (n,k))::_)=_;cases hx:x==n with
  | true=>
   simp only [kM,hx] at h;have e:x=n:=by simpa using hx
   subst e;cases h;have hc:(kq==kq&&env.scope.kind==.function&&env.kindOf x==some vn)=true:=by rw [hf,hk];rfl
   rw [if_pos hc];simp [kM]
  | false=>
   simp only [kM,hx] at h;by_cases hc:(k==kq&&env.scope.kind==.function&&env.kindOf n==some .cell)=true
   ·rw [if_pos hc];simp only [kM,hx];exact ih h hk
   ·rw [if_neg hc];simp only [kM,hx];exact ih h hk
theorem lH:∀ (names:List (Str×yk)) (n:Nat) (acc cl:T0f),k8 n names (acc++cl)=k8 n names acc++cl
 | [],_,_,_=>rfl
 | (x,k)::r,n,acc,cl=>by
  unfold k8;split
  ·exact lH r (n+1) ((x,n)::acc) cl
  ·exact lH r n acc cl
def gF (names:List (Str×yk)) (n:Nat) (cl:T0f) {x:Str} (h:(k8 n names cl).lookup x=some c):
  (k8 n names []).lookup x=some c\/((k8 n names []).lookup x=none/\cl.lookup x=some c):=by
 have e:=lH names n [] cl;rw [jq] at e;rw [e,vB] at h;cases q:(k8 n names []).lookup x with
 | some d=>rw [q] at h;exact .inl h
 | none=>rw [q] at h;exact .inr ⟨rfl,h⟩
def a6P (names:List (Str×yk)) (n:Nat) (cl:T0f) {x:Str} (h:cl.lookup x=some c):∃ d,(k8 n names cl).lookup x=some d:=by
 have e:=lH names n [] cl;rw [jq] at e;rw [e,vB];cases q:(k8 n names []).lookup x with
 | some d=>exact ⟨d,rfl⟩
 | none=>exact ⟨c,h⟩
def a6Q (names:List (Str×yk)) (n:Nat) (cl:T0f) {x:Str} (h0:(k8 n names []).lookup x=none) (h:cl.lookup x=some c):(k8 n names cl).lookup x=some c:=by
 have e:=lH names n [] cl;rw [jq] at e;rw [e,vB,h0];exact h
def a6R (names:List (Str×yk)) (n:Nat) (cl:T0f) {x:Str} (h:(k8 n names []).lookup x=some c):(k8 n names cl).lookup x=some c:=by
 have e:=lH names n [] cl;rw [jq] at e;rw [e,vB,h];rfl
theorem a0r:∀ (names:List (Str×yk)) (n:Nat) (acc:T0f) {x:Str} {c:Addr},(x,c)∈k8 n names acc->(x,c)∈acc\/(x,vn)∈names
 | [],_,_,_,_,h=>.inl h
 | (y,k)::r,n,acc,x,c,h=>by
  unfold k8 at h;split at h
  ·rename_i hk
   have hk':k=.cell:=by simpa using hk
   rcases a0r r (n+1) ((y,n)::acc) h with z | z
   ·rcases qG.mp z with z | z
    ·cases z;subst hk';exact .inr qY
    ·exact .inl z
   ·exact .inr (qF _ z)
  ·rcases a0r r n acc h with z | z
   ·exact .inl z
   ·exact .inr (qF _ z)
def b6U {A:Around} {globals:Addr} {cl:T0f} {env:Env} {Q:Env->Shared->Prop} 
  (hQ:Q (newEnv scope s.heap.objs.size globals (k8 (s.heap.objs.size+1) scope.names cl) qual none .none (some env) uu) { s with heap:=Qa (s.heap.push { cls:=.type "dict", data:=.dict #[] }) scope.names }):
  wpAny M A (QC scope globals cl [] qual none .none (some env)) Q E s:=by
 simp only [QC,Option.isSome_some,if_true];refine q8 (wpAny_alloc ?_);refine q8 (wpAny_layCells _ (λname kind cells=>by cases hkc:kind==vn<;>simp [hkc]) _ _ _ _ ?_);rw [show ({ s with heap:=s.heap.push { cls:=.type "dict", data:=.dict #[] } }:Shared).heap.objs.size=s.heap.objs.size+1 from qu ..];refine q8 (j3 ?_);exact j3 hQ
structure Blk (X:Cx) (scope:Scope) (N':T0q) (cap:T0e):Prop where
 kind:scope.kind=.function
 cells:∀ y∈scope.names,y.2=.cell->scope.names.lookup y.1=some .cell
 names:∀ y∈scope.names,y.2=.local->scope.names.lookup y.1=some .local
 free:∀ y∈scope.names,y.2=.free->X.env.kindOf y.1=some .cell
 caps:∀ (i j:Nat),cap[i]?=some (some j)->∃ x,N'[i]?=some x/\X.N[j]?=some x/\scope.names.lookup x=some .free
 len:cap.length=N'.length
 nd:N'.Nodup
def gG (cap:T0e) (σ:St):St:=cap.map λo=>match o with
 | some j=>(σ[j]?).getD none
 | none=>none
noncomputable def bV (X:Cx) (scope:Scope) (N':T0q) (C:Addr) (s3z:Shared) (H3z:Hp) (fp:T0o):Cx:=
 { X with env:=compEnvC scope (k8 (C+1) scope.names (xV scope X.env)) C X.env,N:=N',s₀:=s3z,H₀:=H3z,outer:=X.stack,ex:=fp,fn:=λx=>decide (scope.names.lookup x=some .cell),pn:=[],xe:=λ_ _=>False }
def b6T {cap:T0e} {tk:Nat} {m':T0d} 
  (B:Blk X scope N' cap) (I:Inv X pz σ H s) (hf:∀ b∈fp,yF X pz H b) (hlt:∀ b∈fp,b<s.heap.objs.size)
  (hn:h'.Ns s.heap.objs.size m') (hk:∀ b o,s.heap.get? b=some o->h'.get? b=some o) (ow:CellsOk h' (s.heap.objs.size+1) (k8 (s.heap.objs.size+1) scope.names [])):
  Inv (bV X scope N' s.heap.objs.size s H fp) [] (gG cap σ) H { s with heap:=h',toks:=tk }:=by
 have cl:∀ x c,(xV scope X.env).lookup x=some c->X.env.cells.lookup x=some c:=λx c h=>a5k h;have hsz:∀ x c,X.env.cells.lookup x=some c->c<s.heap.objs.size:=λx c e=>by
  obtain ⟨v,q⟩:=I.cell x c e;exact q.lt
 have own:∀ x c,(k8 (s.heap.objs.size+1) scope.names []).lookup x=some c->h'.IsCell c none/\s.heap.objs.size<c:=λx c e=>by
  obtain ⟨q1,q2⟩:=ow.empty x c (qj e);exact ⟨q1,qX (kn _) q2⟩
 refine ⟨⟨I.ok.mod,B.kind,I.ok.glob,I.ok.blt,qN _,?_,?_,?_,I.ok.hd,I.ok.frames,.inl rfl,?_,I.bs,qi I.ok.bsz I.sz,?_,?_,I.stack,I.stkFree⟩,
  rfl,I.bare,Un.kept hk,⟨m',hn,?_⟩,?_,I.hok.fresh (qN _),?_,?_,I.hok.kept hk,?_⟩
 ·intro x y c h1 h2
  rcases gF _ _ _ h1 with a1 | ⟨_,a1⟩<;>rcases gF _ _ _ h2 with a2 | ⟨_,a2⟩
  ·exact name_of_addr ow.apart (qj a1) (qj a2)
  ·exact absurd (hsz y c (cl y c a2)) (wX (own x c a1).2)
  ·exact absurd (hsz x c (cl x c a1)) (wX (own y c a2).2)
  ·exact I.ok.inj x y c (cl x c a1) (cl y c a2)
 ·intro x hx
  have hx:(relabel scope X.env).names.lookup x=some .cell\/(relabel scope X.env).names.lookup x=some .free:=hx;have key:∃ k,(relabel scope X.env).names.lookup x=some k/\(k=.cell\/k=.free):=by
   rcases hx with h | h
   ·exact ⟨_,h,.inl rfl⟩
   ·exact ⟨_,h,.inr rfl⟩
  obtain ⟨k,hk1,hk2⟩:=key;obtain ⟨⟨n,k0⟩,hm,he⟩:=qU.mp (qj hk1);have fr:(k0=.free\/k0=.cell)/\n=x:=by
   dsimp only at he;by_cases hc:(k0==kq&&X.env.scope.kind==.function&&X.env.kindOf n==some .cell)=true
   ·rw [if_pos hc] at he
    cases he;simp only [qJ] at hc;exact ⟨.inl (by simpa using hc.1.1),rfl⟩
   ·rw [if_neg hc] at he
    cases he;rcases hk2 with z | z
    ·exact ⟨.inr z,rfl⟩
    ·exact ⟨.inl z,rfl⟩
  obtain ⟨hk0,rfl⟩:=fr;rcases hk0 with rfl | rfl
  ·obtain ⟨c,e⟩:=I.ok.has n (.inl (B.free _ hm rfl))
   exact a6P _ _ _ (xU hm e)
  ·obtain ⟨c,e⟩:=xW (sc:=scope) (n:=s.heap.objs.size+1) (B.cells _ hm rfl)
   exact ⟨c,a6R _ _ _ e⟩
 ·intro x c hx e
  have hx:scope.names.lookup x=some .cell:=of_decide_eq_true hx;rcases gF _ _ _ e with e | ⟨n0,_⟩
  ·exact jF (own x c e).2
  ·obtain ⟨d,q⟩:=xW (sc:=scope) (n:=s.heap.objs.size+1) hx
   rw [q] at n0;cases n0
 ·intro b hb
  refine ⟨qW (hlt b hb),λx c e=>?_⟩;rcases gF _ _ _ e with e | ⟨_,e⟩
  ·exact λz=>absurd (hlt b hb) (wX (by rw [<-z];exact (own x c e).2))
  ·exact (hf b hb).2.2.2.2.1 x c (cl x c e)
 ·intro b o e hb
  rcases (hf b hb).2.2.2.1 with z | z
  ·exact I.ok.noex b o e z
  ·exact absurd (qX (qM e) (qi I.ok.bsz z)) (jK _)
 ·intro b hb hfs
  rcases qG.mp (I.stkSub b hfs) with z | z
  ·exact (hf b hb).2.1 z
  ·exact (hf b hb).2.2.1 z
 ·intro i x v e1 e2 _
  have e1:N'[i]?=some x:=e1;have e2:(gG cap σ)[i]?=some (some v):=e2;unfold gG at e2;rw [qQ] at e2;cases hc:cap[i]? with
  | none=>rw [hc] at e2;cases e2
  | some o=>
   rw [hc] at e2;cases o with
   | none=>cases e2
   | some j=>
    have e3:(σ[j]?).getD none=some v:=qB e2;have e4:σ[j]?=some (some v):=by
     cases q:σ[j]? with
     | none=>rw [q] at e3;cases e3
     | some w'=>rw [q] at e3;have:w'=some v:=e3;rw [this]
    obtain ⟨y,h1,h2,h3⟩:=B.caps i j hc;rw [e1] at h1;cases h1;have hcell:X.env.kindOf x=some .cell:=B.free _ (qj h3) rfl;obtain ⟨m,_,hl⟩:=I.loc;obtain ⟨u,r,l⟩:=hl j x v h2 e4 (.inr (.inl hcell));refine ⟨u,r,?_⟩;rcases l with ⟨k,_⟩ | ⟨_,c,e,z⟩
    ·rw [hcell] at k;cases k
    ·refine .inr ⟨.inl ?_,c,a6Q _ _ _ ?_ (xU (qj h3) e),?_⟩
     ·exact iW I.ok.kind h3 hcell
     ·cases q:(k8 (s.heap.objs.size+1) scope.names []).lookup x with
      | none=>rfl
      | some d=>
       rcases a0r _ _ _ (qj q) with z | z
       ·cases z
       ·rw [B.cells _ z rfl] at h3;cases h3
     ·obtain ⟨o,q1,q2⟩:=z
      exact ⟨o,hk c o q1,q2⟩
 ·intro x c e
  rcases gF _ _ _ e with e | ⟨_,e⟩
  ·exact ⟨none,(own x c e).1⟩
  ·obtain ⟨v,o,q1,q2⟩:=I.cell x c (cl x c e)
   exact ⟨v,o,hk c o q1,q2⟩
 ·intro x c e
  rcases gF _ _ _ e with e | ⟨_,e⟩
  ·exact I.hok.fresh (jF (own x c e).2)
  ·exact I.freeC x c (cl x c e)
 ·intro p hp
  exact absurd (show p∈([]:T0b) from hp) (by simp)
 ·show (gG cap σ).length=N'.length
  unfold gG;rw [qE];exact B.len
def PTs (X:Cx) (ifs:T0n) (t:TT):Prop:=
 ∀ (pz:T0b) (s:Shared) (σ:St) (H:Hp) (Q:Bool->Hp->Prop),Inv X pz σ H s->t σ H Q ->
  wpAny (model X.prog X.w) X.A (forIn ifs true λc r=>if r=true then do let ok <-isTrue c X.env (eval c X.env);pure (ForInStep.yield ok) else pure (ForInStep.yield r)) (TP X pz σ Q) X.xe s
def c1S:TT:=λ_ H Q=>Q true H
def b4Z:PTs X [] c1S:=λ_ _ _ H _ I h=>wpAny_tests_nil ⟨H,I,h⟩
def b4Y {c:Expr} {t:TT} (h:PT X c t):PTs X [c] t:=λpz s σ H Q I hw=>wpAny_tests_one (h pz s σ H Q I hw)
def yE (J:It) (g:TG) (tc:TT) (te:TE) (σ0:St) (H:Hp) (Q:VK):Prop:=
 ∃ W:Addr->Nat->Nat->List V->St->Hp->Prop,∀ D,H D=none->(∃ m,W D 0 m [] σ0 (upd H D (.lst [])))/\∀ i m ys σ1 H1,W D i m ys σ1 H1->H1 D=some (.lst ys) ->
  (J.stop i H1/\Q (.ref D) H1)\/(J.go i H1/\∀ x H2,J.yld i H1 x H2->g x σ1 H2 λσ3 H3=>tc σ3 H3 λb H4=>
   if b=true then te σ3 H4 λv H5=>H5 D=some (.lst ys)/\ys.length<j5/\∃ m',m'<m/\W D (i+1) m' (ys++[v]) σ3 (upd H5 D (.lst (ys++[v])))
   else H4 D=some (.lst ys)/\∃ m',m'<m/\W D (i+1) m' ys σ3 H4)
variable {tn:Nat->Heap->Prop} {g:TG} {Q:VK}
def b0L (XE:Addr->Shared->Hp->List Addr->Value->Shared->Prop) {cap:T0e} 
  {RR:Value->Addr->Result->Shared->Prop} (hc:X.calm=true) (B:Blk X scope N' cap) (I:Inv X pz σ H s) (T:Turn X.prog X.w X.K tg J fp it tn) (st:tn 0 s.heap) (hf:∀ b∈fp,yF X pz H b)
  (hg:∀ C s3z H3z fp,PG (bV X scope N' C s3z H3z fp) tg g) (ht:∀ C s3z H3z fp,PTs (bV X scope N' C s3z H3z fp) ifs tc) (he:∀ C s3z H3z fp,PE ((bV X scope N' C s3z H3z fp).wish (XE C s3z H3z fp)) elt te)
  (w:yE J g tc te (gG cap σ) H Q)
  (hx:∀ D s3z H3z e s',Inv X pz σ H3z s3z->(∀ b∈fp,yF X pz H3z b)->H D=none->H3z=upd H D (.lst [])->s.heap.objs.size<=s3z.heap.objs.size->XE s3z.heap.objs.size s3z H3z fp e s' ->
   notedBy (model X.prog X.w) X.A (compEnvC scope (k8 (s3z.heap.objs.size+1) scope.names (xV scope X.env)) s3z.heap.objs.size X.env) (λx s'=>RR (.ref D) s3z.heap.objs.size (.error x) s') e s')
  (fin:∀ D C s' H' m',s.heap.get? C=none->s.heap.objs.size<=C->s'.heap.Ns C m'->H' C=none->Inv X pz σ H' s'->Q (.ref D) H'->RR (.ref D) C (.ok .next) s'):
  wpAny (model X.prog X.w) X.A (newList []) (λacc s3z=>wpAny (model X.prog X.w) X.A (QC scope X.env.globals (xV scope X.env) [] X.env.qual none .none (some X.env)) (λcenv s4z=>
   cenv.frame=X.env.frame/\yo (model X.prog X.w) X.A (.compStart (.ListComp elt [⟨tg,iter,ifs,0⟩] scope pos) 0 (.ref it) acc { cenv with scope:=relabel scope X.env }) (RR acc cenv.locals) s4z) X.xe s3z) X.xe s:=by
 refine j8 (b6U ?_);dsimp only;obtain ⟨W,hW⟩:=w;have hD:H s.heap.objs.size=none:=I.hok.fresh (qN _);obtain ⟨⟨m0,w0⟩,turn⟩:=hW s.heap.objs.size hD;have I3:Inv X pz σ (upd H s.heap.objs.size (.lst [])) { s with heap:=s.heap.push { cls:=.type "list", data:=.seq ([]:T0m).toArray } }:=I.lnew (its:=[]) (ys:=[]) (t':=s.toks) .nil (jB _);generalize hH2:s.heap.push { cls:=.type "list", dict:=none,data:=.seq ([]:T0m).toArray }=H2 at I3 ⊢;have hC:H2.objs.size=s.heap.objs.size+1:=by rw [<-hH2,qu]
 have lt3:∀ b∈fp,b<s.heap.objs.size:=λb hb=>by
  obtain ⟨o,e,_⟩:=T.obj 0 _ st b hb;exact qM e
 have hf3:∀ b∈fp,yF X pz (upd H s.heap.objs.size (.lst [])) b:=λb hb=>by
  refine ⟨?_,(hf b hb).2⟩;rw [aE (qW (lt3 b hb))];exact (hf b hb).1
 have ow:CellsOk (Qa (H2.push { cls:=.type "dict", data:=.dict #[] }) scope.names) (H2.objs.size+1) (k8 (H2.objs.size+1) scope.names []):=by
  have ok:=cellsFrom_ok scope.names (H2.push { cls:=.type "dict", data:=.dict #[] }) (H2.objs.size+1) [] ⟨λ_ _ hm=>(nomatch hm),List.Pairwise.nil⟩ (by rw [qu];exact qN _);rw [qu] at ok;exact ok
 have hns1:(Qa (H2.push { cls:=.type "dict", data:=.dict #[] }) scope.names).Ns H2.objs.size λ_=>none:=(Heap.Ns.new H2 (.type "dict")).keeps (pushCells_keeps _ _);have keep:∀ b o,H2.get? b=some o->(Qa (H2.push { cls:=.type "dict", data:=.dict #[] }) scope.names).get? b=some o:=λb o e=>pushCells_keeps _ _ b o (qD _ e);generalize Qa (H2.push { cls:=.type "dict", data:=.dict #[] }) scope.names=h₁ at ow hns1 keep ⊢;have I4:Inv (bV X scope N' H2.objs.size { s with heap:=H2 } (upd H s.heap.objs.size (.lst [])) fp) [] (gG cap σ) (upd H s.heap.objs.size (.lst [])) { s with heap:=h₁ }:=
  b6T (s:={ s with heap:=H2 }) B I3 hf3 (λb hb=>by show b<H2.objs.size;rw [hC];exact jm (lt3 b hb)) hns1 keep ow
 have st4:tn 0 h₁:=T.keep 0 _ _ st λb hb o e=>keep b o (by rw [<-hH2];exact qD _ e);have loop:∀ s5z:Shared,s5z={ s with heap:=h₁ } ->
   yo (model X.prog X.w) X.A (.compLoop (.ListComp elt [⟨tg,iter,ifs,0⟩] scope pos) 0 (.ref it) (.ref s.heap.objs.size) (compEnvC scope (k8 (H2.objs.size+1) scope.names (xV scope X.env)) H2.objs.size X.env))
    (RR (.ref s.heap.objs.size) H2.objs.size) s5z:=by
  rintro s5z rfl;refine codeAny_loop rfl (λn s'=>∃ i ys σ' H',Inv (bV X scope N' H2.objs.size { s with heap:=H2 } (upd H s.heap.objs.size (.lst [])) fp) [] σ' H' s'/\tn i s'.heap/\(∀ b∈fp,H' b=none)/\H' s.heap.objs.size=some (.lst ys)/\W s.heap.objs.size i n ys σ' H') ?_ m0
   ⟨0,[],_,_,I4,st4,λb hb=>(hf3 b hb).1,aG,w0⟩
  rintro n s6 ⟨i,ys,σ6,H6,I6,st6,fr6,hD6,w6⟩;show wpAny _ X.A ((compTurn (.ListComp elt [⟨tg,iter,ifs,0⟩] scope pos) 0 (.ref it) (.ref s.heap.objs.size) (compEnvC scope (k8 (H2.objs.size+1) scope.names (xV scope X.env)) H2.objs.size X.env)).onRaise (λx=>do noteFrame x (compEnvC scope (k8 (H2.objs.size+1) scope.names (xV scope X.env)) H2.objs.size X.env);theTreesLotGoes x)) _ _ s6;refine wpAny_noted ?_;rw [compTurn_list];have stat:∀ {H':Hp},(∀ b∈fp,H' b=none)->∀ b∈fp,yF (bV X scope N' H2.objs.size { s with heap:=H2 } (upd H s.heap.objs.size (.lst [])) fp) [] H' b:=λhn b hb=>
   ⟨hn b hb,qW (by show b<H2.objs.size;rw [hC];exact jm (lt3 b hb)),I4.ok.exfs b hb,.inl hb,λx c e=>(I4.ok.exf b hb).2 x c e,λp hp=>absurd (show p∈([]:T0b) from hp) (by simp)⟩
  rcases turn i n ys σ6 H6 w6 hD6 with ⟨stop,qn⟩ | ⟨go,step⟩
  ·refine q8 (y0 (q8 (thn (T.done (bV X scope N' H2.objs.size { s with heap:=H2 } (upd H s.heap.objs.size (.lst [])) fp) rfl rfl rfl hc i [] s6 _ H6 _ I6 (stat fr6) st6 stop) λr s7 ⟨hr,I7⟩=>?_)))
   subst hr;refine j3 ?_;obtain ⟨m7,hn7,_⟩:=I7.loc;refine fin _ _ s7 H6 m7 ?_ ?_ hn7 I7.free ?_ qn
   ·exact vC (by rw [hC];exact jx _)
   ·rw [hC];exact jx _
   ·refine I3.call' (ch:=fp) ?_ ?_ I7.hok I7.bare λb hb=>?_
    ·exact I7.os
    ·exact I7.base
    ·obtain ⟨f0,f1,f2,f3,f4,f5⟩:=hf3 b hb
     exact ⟨f3,f1,f4,f5⟩
  ·refine q8 (y0 (q8 (thn (T.item (bV X scope N' H2.objs.size { s with heap:=H2 } (upd H s.heap.objs.size (.lst [])) fp) rfl rfl rfl hc i [] s6 _ H6 _ I6 (stat fr6) st6 go) λr s7 ⟨u,hr,h7⟩=>?_)))
   subst hr;refine q8 (thn h7 λ_ s8 ⟨x,H8,I8,r8,y8,st8,fr8⟩=>?_);have I8':=I8.pinned (stat fr8) (T.obj _ _ st8);have bad:∀ {α:Type} {t:Sem α} {Q':α->Shared->Prop} {s':Shared} {E:T0a},wpAny (model X.prog X.w) X.A t Q' (λ_ _=>False) s'->wpAny (model X.prog X.w) X.A t Q' E s':=λh=>wz h (λ_ _ q=>q) λ_ _ z=>z.elim;refine q8 (bad (thn (hg _ _ _ _ _ s8 _ H8 x u _ I8' r8 (step x H8 y8)) λ_ s9 ⟨σ9,H9,I9,q9⟩=>?_));refine q8 (bad (thn (ht _ _ _ _ _ s9 σ9 H9 _ I9 q9) λok s10 ⟨H10,I10,q10⟩=>?_));have again:∀ {σ':St} {H':Hp} {ys':List V} {s':Shared} {m':Nat},Inv (bV X scope N' H2.objs.size { s with heap:=H2 } (upd H s.heap.objs.size (.lst [])) fp) ([]++uJ fp s8.heap) σ' H' s'->H' s.heap.objs.size=some (.lst ys') ->
     m'<n->W s.heap.objs.size (i+1) m' ys' σ' H' ->
     ∃ m,m<n/\∃ i ys σ' H',Inv (bV X scope N' H2.objs.size { s with heap:=H2 } (upd H s.heap.objs.size (.lst [])) fp) [] σ' H' s'/\tn i s'.heap/\(∀ b∈fp,H' b=none)/\H' s.heap.objs.size=some (.lst ys)/\W s.heap.objs.size i m ys σ' H':=λ{σ' H' ys' s' m'} J' hD' hm' w'=>by
    refine ⟨m',hm',i+1,ys',σ',H',J'.unpinned,T.keep _ _ _ st8 λb hb o e=>(J'.pin (b,o) (qo _ (qo _ (lR hb e)))).1,λb hb=>?_,hD',w'⟩;obtain ⟨o,e,d⟩:=T.obj _ _ st8 b hb;exact (J'.pin (b,o) (qo _ (qo _ (lR hb e)))).2.1
   cases ok with
   | false=>
    obtain ⟨hD10,m',hm',w'⟩:=q10;exact j3 ⟨rfl,again I10 hD10 hm' w'⟩
   | true=>
    refine q8 (q8 (wz (he _ _ _ _ _ s10 σ9 H10 _ (I10.wish _) q10) (λy s11 ⟨v,H11,I11w,r11,hD11,hlen,m',hm',w'⟩=>?_) λe s' z=>hx _ { s with heap:=H2 } _ e s' I3 hf3 hD rfl (by show s.heap.objs.size<=H2.objs.size;rw [hC];exact jx _) z));have I11:=I11w.unwish;refine q8 (bad <| thn (tG (X:=bV X scope N' H2.objs.size { s with heap:=H2 } (upd H s.heap.objs.size (.lst [])) fp) _ s11 σ9 H11 (.ref s.heap.objs.size) [v] (.ref s.heap.objs.size) [y] (λ_ H'=>H'=upd H11 s.heap.objs.size (.lst (ys++[v]))) I11 rfl (.cons r11 .nil) ⟨_,_,_,rfl,rfl,hD11,hlen,rfl⟩) λ_ s12 ⟨_,H12,I12,_,e12⟩=>?_);subst e12;exact j3 (j3 ⟨rfl,again I12 aG hm' w'⟩)
 exact ⟨rfl,codeAny_compStart_list (loop _ rfl) (T.self _ 0 _ _ _ st4 (loop _ rfl))⟩
def a6K {cap:T0e} 
  {RR:Value->Addr->Result->Shared->Prop} (hc:X.calm=true) (B:Blk X scope N' cap) (I:Inv X pz σ H s) (T:Turn X.prog X.w X.K tg J fp it tn) (st:tn 0 s.heap) (hf:∀ b∈fp,yF X pz H b)
  (hg:∀ C s3z H3z fp,PG (bV X scope N' C s3z H3z fp) tg g) (ht:∀ C s3z H3z fp,PTs (bV X scope N' C s3z H3z fp) ifs tc) (he:∀ C s3z H3z fp,PE (bV X scope N' C s3z H3z fp) elt te)
  (w:yE J g tc te (gG cap σ) H Q)
  (fin:∀ D C s' H' m',s.heap.get? C=none->s.heap.objs.size<=C->s'.heap.Ns C m'->H' C=none->Inv X pz σ H' s'->Q (.ref D) H'->RR (.ref D) C (.ok .next) s'):
  wpAny (model X.prog X.w) X.A (newList []) (λacc s3z=>wpAny (model X.prog X.w) X.A (QC scope X.env.globals (xV scope X.env) [] X.env.qual none .none (some X.env)) (λcenv s4z=>
   yo (model X.prog X.w) X.A (.compStart (.ListComp elt [⟨tg,iter,ifs,0⟩] scope pos) 0 (.ref it) acc { cenv with scope:=relabel scope X.env }) (RR acc cenv.locals) s4z) X.xe s3z) X.xe s:=
 wz (b0L (λ_ _ _ _ _ _=>False) hc B I T st hf hg ht he w (λ_ _ _ _ _ _ _ _ _ _ z=>z.elim) fin) (λ_ _ h=>wz h (λ_ _ z=>z.2) λ_ _ z=>z) λ_ _ z=>z
def b7d (wi:TI) (cap:T0e) (g:TG) (tc:TT) (te:TE):TE:=λσ H Q=>wi σ H λJ H1=>yE J g tc te (gG cap σ) H1 Q
section
variable {cap:T0e}
def a4I (hc:X.calm=true) (B:Blk X scope N' cap) (hi:PI X tg iter wi)
  (hg:∀ C s3z H3z fp,PG (bV X scope N' C s3z H3z fp) tg g) (ht:∀ C s3z H3z fp,PTs (bV X scope N' C s3z H3z fp) ifs tc) (he:∀ C s3z H3z fp,PE (bV X scope N' C s3z H3z fp) elt te)
  (hs:∀ x,wj iter X.env x=pure x:=by intro _;rfl):PE X (.ListComp elt [⟨tg,iter,ifs,0⟩] scope pos) (b7d wi cap g tc te):=by
 intro pz s σ H Q I h;rw [eval_ListComp];refine wpAny_comprehension_free (use:=none) rfl hs (pR λp hp hk=>I.ok.has p.1 (.inl (B.free p hp hk))) B.kind B.names ?_;refine thn (hi pz s σ H _ I h) λv s1 h1=>thn h1 λitv s2 ⟨it,fp,tn,J,H2,e,I2,T,st2,f2,w⟩=>?_;subst e;refine a6K (RR:=λacc C=>compPost (model X.prog X.w) X.A X.xe none (EP X pz σ Q) acc C) hc B I2 T st2 f2 hg ht he w ?_;intro D C s' H' m' hC hCs hn hCf I' q;refine ⟨m',hn,λh'' hs''=>⟨.ref D,H',?_,rfl,q⟩⟩;refine I'.turned (t':=s'.toks) (it:=C) (λb o hb e=>hs''.extBut b o hb e) hCf ?_ (.inr (qi I2.sz hCs)) ?_ ?_
 ·exact jW (qX I2.lt hCs)
 ·intro x c e z
  obtain ⟨v,q⟩:=I2.cell x c e;exact absurd (qX q.lt (by rw [z];exact hCs)) (jK _)
 ·intro p hp z
  exact absurd (qX (qM (I2.pin p hp).1) (by rw [z];exact hCs)) (jK _)
def a4F {x:Str} (hN:X.N.Nodup) (hxi:X.N[i]?=some x) (hx:X.env.scope.names.lookup x=some .local) (hc:X.calm=true) (B:Blk X scope N' cap) (hi:PI X tg iter wi)
  (hg:∀ C s3z H3z fp,PG (bV X scope N' C s3z H3z fp) tg g) (ht:∀ C s3z H3z fp,PTs (bV X scope N' C s3z H3z fp) ifs tc) (he:∀ C s3z H3z fp,PE (bV X scope N' C s3z H3z fp) elt te)
  (hsw:wm (.ListComp elt [⟨tg,iter,ifs,0⟩] scope pos) (some (.Name x pos')) spos.line X.env=pure true)
  (hs:∀ x,wj iter X.env x=pure x:=by intro _;rfl):
  PS X (.Assign [.Name x pos'] (.ListComp elt [⟨tg,iter,ifs,0⟩] scope pos) spos) (c0e (b7d wi cap g tc te) (b3w i)):=by
 intro pz s σ H Dn I h;rw [exec_Assign_Name_used _ _ _ _ hsw];refine q8 (y0 (q8 ?_));show wpAny _ X.A (do let _ <-comprehension (.ListComp elt [⟨tg,iter,ifs,0⟩] scope pos) scope X.env _ (newList []) false (eval iter X.env) (some (assign (.Name x pos') X.env))) _ _ s;refine q8 (wz (wpAny_comprehension_free (use:=some (assign (.Name x pos') X.env)) (Q:=λ_ s'=>SP X pz Dn .next s') rfl hs (pR λp hp hk=>I.ok.has p.1 (.inl (B.free p hp hk))) B.kind B.names ?_) (λ_ s' hq=>j3 (j3 hq)) λ_ _ e=>e);refine thn (hi pz s σ H _ I h) λv s1 h1=>thn h1 λitv s2 ⟨it,fp,tn,J,H2,e,I2,T,st2,f2,w⟩=>?_;subst e;refine a6K (RR:=λacc C=>compPost (model X.prog X.w) X.A X.xe (some (assign (.Name x pos') X.env)) (λ_ s'=>SP X pz Dn .next s') acc C) hc B I2 T st2 f2 hg ht he w ?_;intro D C s' H' m' hC hCs hn hCf I' q;have nL:C≠X.env.locals:=jW (qX I2.lt hCs);have nC:∀ y c,X.env.cells.lookup y=some c->c≠C:=λy c e z=>by
  obtain ⟨v,q⟩:=I2.cell y c e;exact absurd (qX q.lt (by rw [z];exact hCs)) (jK _)
 show wpAny _ X.A (assign (.Name x pos') X.env (.ref D)) _ _ _;refine wpAny_assign_Name (a3j (v:=.ref D) I' hN hxi (.inl hx) rfl (λs3 I3 ⟨a,hsb,ha⟩=>?_) (.inr hx));have ne:C≠a:=by
  rcases ha with z | z
  ·rw [z];exact nL
  ·exact λy=>nC x a z y.symm
 refine ⟨m',hn.sameBut hsb ne,λh'' hs''=>⟨_,H',?_,q⟩⟩;refine I3.turned (t':=s3.toks) (it:=C) (λb o hb e=>hs''.extBut b o hb e) hCf nL (.inr (qi I2.sz hCs)) nC ?_;intro p hp z;exact absurd (qX (qM (I2.pin p hp).1) (by rw [z];exact hCs)) (jK _)
end
end L2
namespace L2.L3
open PySem PySem.Spec PyProof.Rows PySem.W
def c1c (K:Frag) (c:Str):Option Addr:=match nsIn K j6 c with
 | some (some (.ref C))=>some C
 | _=>none
structure ExO (h:Heap) (a C:Addr) (ox:Obj):Prop where
 at_:h.get? a=some ox
 cls:ox.cls=.ref C
end L2.L3
namespace L2.HS
open PySem PyProof.Rows
def hsh:Nat->j0->Bool
 | _,.int _=>true
 | _,.str x=>jH (.str x)
 | n+1,.tuple ds=>ds.all (hsh n)
 | _,_=>false
def hD (w:World):Nat->j0->Int
 | _,.int i=>hashInt i
 | _,.str x=>hashStr w x
 | n+1,.tuple ds=>reduceHash (ji (ds.map (hD w n)))
 | _,_=>0
def drw:Nat->j0->Nat
 | _,.int _=>1
 | _,.str _=>1
 | n+1,.tuple ds=>(ds.map (drw n)).sum+1
 | _,_=>0
def pE:∀ (n:Nat) (d:j0),hsh n d=true->d.canLay0=true:=by
 intro n
 induction n with
 | zero=>intro d h;cases d<;>first | (simp [hsh] at h;done) | (simp [jH];done) | exact h
 | succ n ih=>
  have all:∀ ds:List j0,ds.all (hsh n)=true->km ds=true:=by
   intro ds
   induction ds with
   | nil=>intro _;simp [km]
   | cons x xs ihx=>
    intro h;rw [qz,qJ] at h;rw [km,qJ];exact ⟨ih x h.1,ihx h.2⟩
  intro d h;cases d with
  | tuple ds=>rw [jH];exact all ds h
  | int i=>simp [jH]
  | str x=>exact h
  | _=>simp [hsh] at h
def b0w:∀ (n:Nat) (d:j0),hsh n d=true->d.depth<=n+1:=by
 intro n
 induction n with
 | zero=>intro d h;cases d<;>first | (simp [hsh] at h;done) | (simp [kI];done)
 | succ n ih=>
  have all:∀ ds:List j0,ds.all (hsh n)=true->zY ds<=n+1:=by
   intro ds
   induction ds with
   | nil=>intro _;simp [zY]
   | cons x xs ihx=>
    intro h;rw [qz,qJ] at h;rw [zY];exact Nat.max_le.mpr ⟨ih x h.1,ihx h.2⟩
  intro d h;cases d with
  | tuple ds=>
   have:=all ds h;rw [kI];omega
  | int i=>simp [kI]
  | str x=>simp [kI]
  | _=>simp [hsh] at h
def b9f:∀ (n m:Nat) (x y:j0),hsh n x=true->hsh m y=true->jd x y=true->x=y:=by
 intro n
 induction n with
 | zero=>
  intro m x y h h' e;cases x<;>first | (simp [hsh] at h;done) | (cases y<;>first | (simp [jd] at e;done) | (cases m<;>simp [hsh] at h';done) | (rw [jd] at e;rw [eq_of_beq e]))
 | succ n ih=>
  intro m x y h h' e;cases x with
  | tuple xs=>
   cases y with
   | tuple ys=>
    cases m with
    | zero=>simp [hsh] at h'
    | succ m=>
     have all:∀ xs ys:List j0,xs.all (hsh n)=true->ys.all (hsh m)=true->ko xs ys=true->xs=ys:=by
      intro xs
      induction xs with
      | nil=>intro ys _ _ e;cases ys with | nil=>rfl | cons _ _=>simp [ko] at e
      | cons a xs ihx=>
       intro ys h h' e;cases ys with
       | nil=>simp [ko] at e
       | cons b ys=>
        rw [qz,qJ] at h h';rw [ko,qJ] at e;rw [ih m a b h.1 h'.1 e.1,ihx ys h.2 h'.2 e.2]
     rw [jd] at e;rw [all xs ys h h' e]
   | _=>simp [jd] at e
  | int i=>cases y<;>first | (simp [jd] at e;done) | (cases m<;>simp [hsh] at h';done) | (rw [jd] at e;rw [eq_of_beq e])
  | str i=>cases y<;>first | (simp [jd] at e;done) | (cases m<;>simp [hsh] at h';done) | (rw [jd] at e;rw [eq_of_beq e])
  | _=>simp [hsh] at h
def a7Q:∀ (n:Nat) (d:j0) (v:Value) (as:T0o) (A:Around) (E:T0a) (s:Shared) (Q:Int->Shared->Prop),hsh n d=true->Reads s.heap v d as->A.units+n<cLine->Q (hD w n d) { s with toks:=s.toks+drw n d }->wpAny (model prog w) A (pyHash v) Q E s:=by
 intro n
 induction n with
 | zero=>
  intro d v as A E s Q h r hu q;cases r with
  | int i t=>exact QN q
  | str x t=>exact QO q
  | _=>simp [hsh] at h
 | succ n ih=>
  intro d v as A E s Q h r hu q;cases r with
  | int i t=>exact QN q
  | str x t=>exact QO q
  | @tuple a o vs n' ds as ho hcl hd hi=>
   have hT:s.TypeIs (.ref a) "tuple" := ⟨o,ho,hcl⟩;unfold pyHash
   first | unfold pyHashByItsType | skip
   first | refine q8 (wpAny_cRoomFor_or (.inr (by omega)) ?_) | skip
   refine q8 (u5 hT vg.lookup ?_);show wpAny _ _ (if (some (Value.builtin "tuple.__hash__")==some jR)=true then _ else _) Q E s;rw [if_neg (by rw [beq_builtin_none];exact qa)];refine q8 (u5 hT vg.lookup ?_);show wpAny _ _ (callSpecialIfBoundUnlessNone? (.ref a) "__hash__" _>>=_) Q E s;refine q8 (wpAny_callSpecialIfBoundUnlessNone?_slot hT vg (j9 vg hT F.entry_tuple_hash ?_ (F.args_tuple_hash_1 _)));show wpAny _ _ (vR (.ref a)>>=_) _ _ s;refine q8 (QE ho hd ?_);refine q8 ?_;rw [<-vE];refine ue _
    (λrest (b:Array Int) s'=>∃ done left bs,ds=done++left/\u9 s.heap rest left bs/\left.all (hsh n)=true/\b.toList=done.map (hD w n)/\s'={ s with toks:=s.toks+(done.map (drw n)).sum })
    _ ?_ ?_ _ _ ⟨[],ds,_,rfl,hi,h,rfl,rfl⟩
   ·rintro x rest b s' ⟨done,left,bs,rfl,hl,hh,hb,rfl⟩
    cases hl with
    | @cons _ _ k ks' _ _ h1 hl'=>
     rw [qz,qJ] at hh;refine q8 (ih k x _ _ _ _ _ hh.1 h1 (by show A.units+1+n<cLine;omega) ?_)
     first
      | exact j3 ⟨done++[k],ks',_,by simp,hl',hh.2,by simp [hb],by simp [wD]⟩
      | exact q8 (j3 (j3 ⟨done++[k],ks',_,by simp,hl',hh.2,by simp [hb],by simp [wD]⟩))
   ·rintro b s' ⟨done,left,bs,rfl,hl,hh,hb,rfl⟩
    cases hl;rw [kW] at q;show wpAny _ _ (retInt (ji b.toList)) _ _ _;rw [hb];refine wpAny_ret_mkInt ?_;show wpAny _ _ (if (decide (-(2:Int) ^ 63<=ji (done.map (hD w n)))&&decide (ji (done.map (hD w n))<2 ^ 63))=true then _ else _) Q E _;have q:Q (reduceHash (ji (done.map (hD w n)))) { s with toks:=s.toks+((done.map (drw n)).sum+1) }:=q;unfold reduceHash at q;by_cases hr:(decide (-(2:Int) ^ 63<=ji (done.map (hD w n)))&&decide (ji (done.map (hD w n))<2 ^ 63))=true
    ·rw [if_pos hr]
     rw [if_pos hr] at q;exact j3 (by simpa [wD] using q)
    ·rw [if_neg hr]
     rw [if_neg hr] at q;exact q8 (wp (j3 (by simpa [wD] using q)))
  | _=>simp [hsh] at h
def a5M:∀ (n m:Nat) (d:j0) (v:Value) (as:T0o) (A:Around) (E:T0a) (s:Shared) (Q:Bool->Shared->Prop),n<=m->hsh n d=true->Reads s.heap v d as->Q true s->wpAny (model prog w) A (eqIsQuiet m v) Q E s:=by
 intro n
 induction n with
 | zero=>
  intro m d v as A E s Q hm h r q;cases r with
  | int i t=>rw [ul _ rfl];exact j3 q
  | str x t=>rw [ul _ rfl];exact j3 q
  | _=>simp [hsh] at h
 | succ n ih=>
  intro m d v as A E s Q hm h r q;cases r with
  | int i t=>rw [ul _ rfl];exact j3 q
  | str x t=>rw [ul _ rfl];exact j3 q
  | @tuple a o vs n' ds as ho hcl hd hi=>
   obtain ⟨m,rfl⟩:∃ m',m=m'+1:=⟨m - 1,by omega⟩;have hT:s.TypeIs (.ref a) "tuple" := ⟨o,ho,hcl⟩;unfold eqIsQuiet;refine q8 (u5 hT F.slot_tuple_eq.lookup ?_);show wpAny _ _ (isInstance (.ref a) (.type "tuple")>>=_) _ _ s;refine q8 (yh hT isSubtype_tuple_tuple ?_);simp only [vV,qt,if_false];refine q8 (v6 ho hd ?_);refine q8 ?_;show wpAny _ _ (forIn vs _ _) _ _ s;rw [<-vE];refine ue _ (λrest r s'=>r.1=none/\s'=s/\∃ left bs,u9 s.heap rest left bs/\left.all (hsh n)=true) _ ?_ ?_ _ _ ⟨rfl,rfl,ds,_,hi,h⟩
   ·rintro v rest r s' ⟨hr,rfl,left,bs,hl,hh⟩
    cases hl with
    | @cons _ _ k ks' _ _ h1 hl'=>
     rw [qz,qJ] at hh;refine q8 (ih m k v _ _ _ _ _ (by omega) hh.1 h1 ?_);simp only [vV,qt,if_false];exact j3 ⟨rfl,rfl,ks',_,hl',hh.2⟩
   ·rintro ⟨r1,r2⟩ s' ⟨hr,rfl,_⟩
    simp only at hr;subst hr;exact j3 q
  | _=>simp [hsh] at h
def a7v {h:Heap} {d:Addr} {o:Obj} {es:Array QJ} (ho:h.get? d=some o) (hd:o.data=.dict es ep) (hs:kB d h h'):∀ (n:Nat) (x:j0) (v:Value) (as:T0o),hsh n x=true->Reads h v x as->Reads h' v x as:=by
 intro n
 induction n with
 | zero=>
  intro x v as hx r;cases r with
  | int i t=>exact .int i t
  | str x t=>exact .str x t
  | _=>simp [hsh] at hx
 | succ n ih=>
  have all:∀ (xs:T0l) (vs:T0m) (as:T0o),xs.all (hsh n)=true->u9 h vs xs as->u9 h' vs xs as:=by
   intro xs
   induction xs with
   | nil=>intro vs as _ r;cases r;exact .nil
   | cons x xs ihx=>
    intro vs as hx r;rw [qz,qJ] at hx;cases r with
    | cons r rs=>exact .cons (ih _ _ _ hx.1 r) (ihx _ _ hx.2 rs)
  intro x v as hx r;cases r with
  | int i t=>exact .int i t
  | str x t=>exact .str x t
  | @tuple a o' vs n' ds as g1 g2 g3 g4=>
   have ne:a≠d:=λz=>by
    subst z;rw [ho] at g1;cases g1;rw [hd] at g3;cases g3
   exact .tuple ((hs.2 a ne).trans g1) g2 g3 (all _ _ _ hx g4)
  | _=>simp [hsh] at hx
def seenO (w:World) (a:Addr) (xs:List (j0×Addr×Value)):HO:=.ext λh=>(a==wo)=false/\∃ o es ep,h.get? a=some o/\o.ExactDict/\o.data=.dict es ep/\es.toList=xs.map λx=>(⟨hD w 4 x.1,.ref x.2.1,x.2.2⟩:QJ)
noncomputable instance pyDec:DecidableEq j0:=λa b=>Classical.propDecidable (a=b)
noncomputable def nest (prog:Program) (w:World):HeapKind prog w j0 where
 is:=λh d a=>hsh 4 d=true/\∃ as,Reads h (.ref a) d as
 hash:=hD w 4
 draws:=drw 4
 room:=λA=>A.units+8<cLine
 inj:=λ⟨h1,as,r1⟩ ⟨h2,bs,r2⟩=>SeqAt.Reads.unique _ _ _ _ _ (pE _ _ h1) r1 r2
 keeps:=λ⟨h1,as,r1⟩ ho hd hs=>⟨h1,as,a7v ho hd hs 4 _ _ _ h1 r1⟩
 pyHash:=λhu ⟨h1,as,r1⟩ q=>a7Q 4 _ _ _ _ _ _ _ h1 r1 (by omega) q
 eqBool:=λ{A E s x y a b Q} hu ⟨h1,as,r1⟩ ⟨h2,bs,r2⟩ q=>by
  have d1:=b0w 4 _ h1;have hmn:min x.depth y.depth<=x.depth:=Nat.min_le_left _ _;refine SeqAt.eqAt_reads x y A s _ _ as bs r1 r2 (pE _ _ h1) (pE _ _ h2) (by omega) prog w E Q ?_;have e:jd x y=decide (x=y):=by
   by_cases c:x=y
   ·rw [decide_eq_true c,<-c];exact SeqAt.eqv_refl x (pE _ _ h1)
   ·rw [decide_eq_false c]
    cases z:jd x y with
    | false=>rfl
    | true=>exact absurd (b9f 4 4 x y h1 h2 z) c
  rw [e];exact q
 quiet:=λ⟨h1,as,r1⟩ q=>a5M 4 8 _ _ _ _ _ _ _ (by decide) h1 r1 q
end L2.HS
namespace L2.L3
open PySem PySem.Spec PyProof.Rows
def eC:Key->j0
 | .inl i=>.int i
 | .inr x=>.str x
def pK (K:qC):Addr:=match qv K j6 "Filling" with
 | some (some (.ref c))=>c
 | _=>0
def fFs (v1 v2 v3 v4:V):List (Str×V):=[("filled", v1),("taken", v2),("waiting", v3),("left", v4)]
mutual
inductive Rep (K:qC) (G:Hp):V->j0->Prop
 | none:Rep K G .non .none
 | bool (b:Bool):Rep K G (.bl b) (.bool b)
 | int (i:Int):Rep K G (.int i) (.int i)
 | str (x:Str):Rep K G (.str x) (.str x)
 | list {a:Addr} {xs:List V} {ds:T0l}:SqL K G a xs->RepAll K G xs ds->Rep K G (.ref a) (.list ds)
 | tuple {a:Addr} {xs:List V} {ds:T0l}:SqT K G a xs->RepAll K G xs ds->Rep K G (.ref a) (.tuple ds)
 | fil {a dx:Addr} {v1 v2 v3 v4:V} {ds:T0l}:G a=some (.ins (pK K) dx (fFs v1 v2 v3 v4))->RepAll K G [v1,v2,v3,v4] ds->Rep K G (.ref a) (.dict [(.none,.tuple ds)])
 | dict {a:Addr} {kvs:List (Key×V)} {D:List (j0×j0)}:Rd G a (.dK kvs)->D.map (·.1)=kvs.map (λp=>eC p.1)->RepAll K G (kvs.map (·.2)) (D.map (·.2))->Rep K G (.ref a) (.dict D)
inductive RepAll (K:qC) (G:Hp):List V->List j0->Prop
 | nil:RepAll K G [] []
 | cons {v:V} {vs:List V} {d:j0} {ds:T0l}:Rep K G v d->RepAll K G vs ds->RepAll K G (v::vs) (d::ds)
end
variable {u:HO}
def mM {a:Addr} (e:bG H H') (h:Rd H a u):Rd H' a u:=h.imp (e _ _) λ⟨o,h⟩=>⟨o,e _ _ h⟩
def nV {K:qC} {a:Addr} (e:bG H H') (h:SqT K H a xs):SqT K H' a xs:=by
 rcases h with (h | ⟨o,h⟩) | h
 ·exact .inl (.inl (e _ _ h))
 ·exact .inl (.inr ⟨o,e _ _ h⟩)
 ·exact .inr h
section
variable {K:qC}
mutual
theorem Rep.mono (s:bG G G'):∀ {v:V} {d:j0},Rep K G v d->Rep K G' v d
 | _,_,.none=>.none
 | _,_,.bool b=>.bool b
 | _,_,.int i=>.int i
 | _,_,.str x=>.str x
 | _,_,.list h r=>.list (s.seq h) (RepAll.mono s r)
 | _,_,.tuple h r=>.tuple (nV s h) (RepAll.mono s r)
 | _,_,.dict h e r=>.dict (mM s h) e (RepAll.mono s r)
 | _,_,.fil h r=>.fil (s _ _ h) (RepAll.mono s r)
theorem RepAll.mono (s:bG G G'):∀ {vs:List V} {ds:T0l},RepAll K G vs ds->RepAll K G' vs ds
 | _,_,.nil=>.nil
 | _,_,.cons r t=>.cons (Rep.mono s r) (RepAll.mono s t)
end
theorem RepAll.length:∀ {vs:List V} {ds:T0l},RepAll K G vs ds->vs.length=ds.length
 | _,_,.nil=>rfl
 | _,_,.cons _ t=>by simp [RepAll.length t]
theorem RepAll.get:∀ {vs:List V} {ds:T0l} {i:Nat} {d:j0},RepAll K G vs ds->ds[i]?=some d->∃ v,vs[i]?=some v/\Rep K G v d
 | _,_,_,_,.nil,e=>by simp at e
 | _,_,0,_,.cons r _,e=>by simp at e;subst e;exact ⟨_,rfl,r⟩
 | _,_,i+1,d,.cons _ t,e=>by
  obtain ⟨u,h1,h2⟩:=RepAll.get (i:=i) (d:=d) t (by simpa using e);exact ⟨u,by simpa using h1,h2⟩
theorem RepAll.append:∀ {vs ws:List V} {ds es:T0l},RepAll K G vs ds->RepAll K G ws es->RepAll K G (vs++ws) (ds++es)
 | _,_,_,_,.nil,h=>h
 | _,_,_,_,.cons r t,h=>.cons r (RepAll.append t h)
theorem RepAll.take:∀ {vs:List V} {ds:T0l} (n:Nat),RepAll K G vs ds->RepAll K G (vs.take n) (ds.take n)
 | _,_,0,_=>.nil
 | _,_,_+1,.nil=>.nil
 | _,_,n+1,.cons r t=>.cons r (RepAll.take n t)
theorem RepAll.drop:∀ {vs:List V} {ds:T0l} (n:Nat),RepAll K G vs ds->RepAll K G (vs.drop n) (ds.drop n)
 | _,_,0,r=>r
 | _,_,_+1,.nil=>.nil
 | _,_,n+1,.cons _ t=>RepAll.drop n t
theorem RepAll.ints:∀ {vs:List V} {ns:T0s},RepAll K G vs (ns.map .int)->vs=ns.map V.int
 | [],[],_=>rfl
 | _,[],.nil=>rfl
 | _,n::r,.cons (.int _) t=>by rw [RepAll.ints (ns:=r) t];rfl
theorem RepAll.strs:∀ {vs:List V} {ns:T0q},RepAll K G vs (ns.map .str)->vs=ns.map V.str
 | [],[],_=>rfl
 | _,[],.nil=>rfl
 | _,n::r,.cons (.str _) t=>by rw [RepAll.strs (ns:=r) t];rfl
theorem RepAll.bools:∀ {vs:List V} {ns:List Bool},RepAll K G vs (ns.map .bool)->vs=ns.map V.bl
 | [],[],_=>rfl
 | _,[],.nil=>rfl
 | _,n::r,.cons (.bool _) t=>by rw [RepAll.bools (ns:=r) t];rfl
end
theorem a2h:∀ {kvs:List (Key×V)} {vs:List (Key×Value)},KV kvs vs->kvs.map (·.1)=vs.map (·.1)/\bB (kvs.map (·.2)) (vs.map (·.2))
 | _,_,.nil=>⟨rfl,.nil⟩
 | _,_,.cons h t=>by
  obtain ⟨a,b⟩:=a2h t;exact ⟨by rw [qI,qI,a,h.1],.cons h.2 b⟩
mutual
def rK:j0->Bool
 | .dict _=>false
 | .list xs=>noDcs xs
 | .tuple xs=>noDcs xs
 | _=>true
def noDcs:List j0->Bool
 | []=>true
 | x::xs=>rK x&&noDcs xs
end
mutual
theorem xI:∀ d:j0,d.canLay0=true->rK d=true
 | .none,_=>by simp [rK]
 | .bool _,_=>by simp [rK]
 | .int _,_=>by simp [rK]
 | .str _,_=>by simp [rK]
 | .list xs,h=>by rw [rK];exact noDcs_of xs (by simpa [jH] using h)
 | .tuple xs,h=>by rw [rK];exact noDcs_of xs (by simpa [jH] using h)
 | .dict _,h=>by simp [jH] at h
theorem noDcs_of:∀ ds:List j0,km ds=true->noDcs ds=true
 | [],_=>by simp [noDcs]
 | x::xs,h=>by
  rw [km,qJ] at h;rw [noDcs,qJ];exact ⟨xI x h.1,noDcs_of xs h.2⟩
end
def gE (h:qp d=true):rK d=true:=xI d (zm h)
mutual
theorem Rep.reads (I:Inv X pz σ H s):∀ {v:V} {d:j0} {u:Value},Rep X.K H v d->rK d=true->RelV v u->∃ as,Reads s.heap u d as
 | _,_,_,.none,_,r=>by cases r;exact ⟨_,.none⟩
 | _,_,_,.bool b,_,r=>by cases r;exact ⟨_,.bool b⟩
 | _,_,_,.int i,_,r=>by obtain ⟨t,rfl⟩:=r;exact ⟨_,.int i t⟩
 | _,_,_,.str x,_,r=>by obtain ⟨t,rfl⟩:=r;exact ⟨_,.str x t⟩
 | _,_,_,.list h q,hc,r=>by
  cases r;obtain ⟨its,rv,⟨o,n,e,hcl,_,hd⟩,_⟩:=I.list h;obtain ⟨as,z⟩:=RepAll.reads I q (by simpa [rK] using hc) rv;exact ⟨_,.list e hcl hd (by simpa using z)⟩
 | _,_,_,.tuple h q,hc,r=>by
  cases r;obtain ⟨its,rv,⟨o,e,hcl,n,hd⟩,_⟩:=I.tuple h;obtain ⟨as,z⟩:=RepAll.reads I q (by simpa [rK] using hc) rv;exact ⟨_,.tuple e hcl hd (by simpa using z)⟩
 | _,_,_,.dict h e0 q,hc,r=>by simp [rK] at hc
 | _,_,_,.fil h q,hc,r=>by simp [rK] at hc
theorem RepAll.reads (I:Inv X pz σ H s):∀ {vs:List V} {ds:T0l} {us:T0m},RepAll X.K H vs ds->noDcs ds=true->bB vs us->∃ as,u9 s.heap us ds as
 | _,_,_,.nil,_,.nil=>⟨_,.nil⟩
 | _,_,_,.cons r t,hc,.cons q w=>by
  rw [noDcs,qJ] at hc;obtain ⟨as,a⟩:=Rep.reads I r hc.1 q;obtain ⟨bs,b⟩:=RepAll.reads I t hc.2 w;exact ⟨_,.cons a b⟩
end
def fH:List Str:=["in_ending_order", "in_laying_order", "_law_did", "by_heads", "best_choice"]
def lamQ (x:Str):Str:=x ++ ".<locals>." ++ "<lambda>"
def cdO (c:Addr) (q:Str):HO:=.ext λh=>h.CodeRec (.ref c) q
def Tab (P:Addr) (q:Str) (H:Hp):Prop:=
 ∃ ps,H P=some (.tbl (q,ps))/\u8 ps.toList/\∀ pos cv,QK pos ps.toList=some cv->∃ c,cv=.ref c/\H c=some (cdO c q)
def NoT (G:Hp):Prop:=∀ b ps,G b≠some (.tbl ps)
def nO (K:qC) (G H:Hp):Prop:=(∀ x∈fH,∀ c P,jb K x=some (c,P)->Tab P (lamQ x) H)/\NoT G
theorem NoT.upd {G:Hp} {a:Addr} {o:HO} (n:NoT G) (h:∀ ps,o≠.tbl ps):NoT (L2.upd G a o):=λb ps e=>by
 by_cases hb:b=a
 ·subst hb;rw [aG] at e;cases e;exact h _ rfl
 ·rw [aE hb] at e;exact n b ps e
theorem Tab.same {P:Addr} (t:Tab P q H) (s:bG H H'):Tab P q H':=by
 obtain ⟨ps,h1,h2,h3⟩:=t;refine ⟨ps,s _ _ h1,h2,λpos cv e=>?_⟩;obtain ⟨c,e1,e2⟩:=h3 pos cv e;exact ⟨c,e1,s _ _ e2⟩
theorem Tab.wr {P a:Addr} (t:Tab P q H) (h:H a=some (.lst xs)):Tab P q (upd H a o):=by
 obtain ⟨ps,h1,h2,h3⟩:=t;refine ⟨ps,by rw [aE (cM h1 h (by nofun))];exact h1,h2,λpos cv e=>?_⟩;obtain ⟨c,e1,e2⟩:=h3 pos cv e;exact ⟨c,e1,by rw [aE (cM e2 h (by unfold cdO;nofun))];exact e2⟩
structure Sm (H H':Hp):Prop where
 keep:∀ b o,H b=some o->(∀ ps,o≠.tbl ps)->H' b=some o
 tbl:∀ b ps,H b=some (.tbl ps)->∃ ps',H' b=some (.tbl ps')
 tab:∀ P q,Tab P q H->Tab P q H'
theorem Sm.of (s:bG H H'):Sm H H':=⟨λb o h _=>s b o h,λb ps h=>⟨ps,s _ _ h⟩,λP q t=>t.same s⟩
theorem Sm.refl (H:Hp):Sm H H:=.of (.refl _)
def Sm.trans (a:Sm H H1) (b:Sm H1 H2):Sm H H2:=⟨λc o h n=>b.keep c o (a.keep c o h n) n,λc ps h=>by
 obtain ⟨p1,h1⟩:=a.tbl c ps h
 exact b.tbl c p1 h1,λP q t=>b.tab P q (a.tab P q t)⟩
theorem Sm.ne (s:Sm H H') {b:Addr} (h:H b=some o):∃ o',H' b=some o':=by
 cases o with
 | tbl ps=>obtain ⟨p,e⟩:=s.tbl b ps h;exact ⟨_,e⟩
 | _=>exact ⟨_,s.keep b _ h (by nofun)⟩
def Sm.free (s:Sm H H') (h:H' l=none):H l=none:=by
 cases q:H l with
 | none=>rfl
 | some o=>
  obtain ⟨o',e⟩:=s.ne q;rw [h] at e;cases e
theorem Sm.lst {H H':Hp} (s:Sm H H') {l:Addr} {xs:List V} (h:H l=some (.lst xs)):H' l=some (.lst xs):=s.keep l _ h (by nofun)
theorem Sm.wr {H H':Hp} (s:Sm H H') {l:Addr} {xs:List V} {o:HO} (h0:H l=none) (h:H' l=some (.lst xs)):Sm H (upd H' l o):=
 ⟨λb u e n=>by rw [aE (aR e h0)];exact s.keep b u e n,λb ps e=>by rw [aE (aR e h0)];exact s.tbl b ps e,λP q t=>(s.tab P q t).wr h⟩
theorem nO.wr {K:qC} {G H:Hp} {a:Addr} {xs:List V} {o:HO} (t:nO K G H) (h:H a=some (.lst xs)):nO K G (upd H a o):=⟨λx hx c P e=>(t.1 x hx c P e).wr h,t.2⟩
structure Grow (G H G' H':Hp):Prop where
 gg:bG G G'
 hh:Sm H H'
 sub:bG G' H'
 new:∀ a,G a=none->H a≠none->G' a=none
 nt:NoT G->NoT G'
def nO.more {K:qC} (t:nO K G H) (g:Grow G H G' H'):nO K G' H':=⟨λx hx c P e=>g.hh.tab _ _ (t.1 x hx c P e),g.nt t.2⟩
theorem Grow.refl {G H:Hp} (s:bG G H):Grow G H G H:=⟨.refl _,.refl _,s,λ_ e _=>e,id⟩
theorem Grow.trans {G H G1 H1 G2 H2:Hp} (a:Grow G H G1 H1) (b:Grow G1 H1 G2 H2):Grow G H G2 H2:=
 ⟨a.gg.trans b.gg,a.hh.trans b.hh,b.sub,λc e n=>b.new c (a.new c e n) (λz=>by
  cases q:H c with
  | none=>exact n q
  | some o=>obtain ⟨o',e'⟩:=a.hh.ne q;rw [e'] at z;cases z),λn=>b.nt (a.nt n)⟩
def bF {p:Addr} (h:H p=none):bG H (upd H p o):=λb u e=>by rw [aE (aR e h)];exact e
def yQ {p:Addr} (s:bG G H):bG (upd G p o) (upd H p o):=λb u e=>by
 by_cases hb:b=p
 ·subst hb;rw [aG] at e ⊢;exact e
 ·rw [aE hb] at e ⊢;exact s b u e
theorem Grow.put {p:Addr} (s:bG G H) (h:H p=none) (ho:∀ ps,o≠.tbl ps:=by nofun):Grow G H (upd G p o) (upd H p o):=
 ⟨bF (s.free h),.of (bF h),yQ s,λa e n=>by rw [aE (λz=>n (by rw [z];exact h))];exact e,λn=>n.upd ho⟩
theorem Grow.side {p:Addr} (s:bG G H) (h:H p=none):Grow G H G (upd H p o):=
 ⟨.refl _,.of (bF h),s.trans (bF h),λa e _=>e,id⟩
inductive Ent where
 | no
 | val (d:j0)
 | lst (ds:T0l)
 | exc (c:Str)
 | nst (dss:List (List j0))
 | dct (kvs:List (Key×j0))
 | seen (w:World) (ks:T0l)
def xcO (a C:Addr):HO:=.ext λh=>∃ ox,ExO h a C ox
def b9K (K:qC) (H0 G H:Hp) (b:Addr) (ds:T0l):Prop:=∃ xs,H b=some (.lst xs)/\G b=none/\H0 b=none/\RepAll K G xs ds
def eW (K:qC) (G:Hp) (vs:List (Key×V)) (kvs:List (Key×j0)):Prop:=vs.map (·.1)=kvs.map (·.1)/\RepAll K G (vs.map (·.2)) (kvs.map (·.2))
theorem eW.mono {K:qC} {G G':Hp} {vs:List (Key×V)} {kvs:List (Key×j0)} (h:eW K G vs kvs) (s:bG G G'):eW K G' vs kvs:=⟨h.1,h.2.mono s⟩
def sN (K:qC) (H0 G H:Hp) (o:Option V) (w:World) (ks:T0l):Prop:=∃ a xs,o=some (.ref a)/\H a=some (HS.seenO w a xs)/\G a=none/\H0 a=none/\xs.map (·.1)=ks/\ks.Nodup/\∀ x∈xs,HS.hsh 4 x.1=true/\Rep K G (.ref x.2.1) x.1
section
variable {K:qC} {o:Option V} {x:Addr} {u':HO}
theorem sN.frz (h:sN K H0 G H o w ks) (hx:H x=some u) (hu:∀ φ,u≠.ext φ) (gg:bG G (upd G x u)):sN K H0 (upd G x u) H o w ks:=by
 obtain ⟨a,xs,e,g1,g2,g3,g4,g5,g6⟩:=h;exact ⟨a,xs,e,g1,by rw [aE (cM g1 hx (λz=>hu _ z.symm))];exact g2,g3,g4,g5,λy hy=>⟨(g6 y hy).1,(g6 y hy).2.mono gg⟩⟩
theorem sN.wr (h:sN K H0 G H o w ks) (hx:H x=some u') (hu:∀ φ,u'≠.ext φ):sN K H0 G (upd H x u) o w ks:=by
 obtain ⟨a,xs,e,g1,g2,r⟩:=h;exact ⟨a,xs,e,by rw [aE (cM g1 hx (λz=>hu _ z.symm))];exact g1,g2,r⟩
def sN.more (h:sN K H0 G H o w ks) (g:Grow G H G' H'):sN K H0 G' H' o w ks:=by
 obtain ⟨a,xs,e,g1,g2,g3,g4,g5,g6⟩:=h;exact ⟨a,xs,e,g.hh.keep a _ g1 (by unfold HS.seenO;nofun),g.new a g2 (by rw [g1];simp),g3,g4,g5,λy hy=>⟨(g6 y hy).1,(g6 y hy).2.mono g.gg⟩⟩
end
def a6Y (K:qC) (H0 G H:Hp) (o:Option V):Ent->Prop
 | .no=>True
 | .val d=>∃ v,o=some v/\Rep K G v d
 | .lst ds=>∃ a xs,o=some (.ref a)/\H a=some (.lst xs)/\G a=none/\H0 a=none/\RepAll K G xs ds
 | .exc c=>∃ a C,o=some (.ref a)/\c1c K c=some C/\H a=some (xcO a C)
 | .nst dss=>∃ a bs,o=some (.ref a)/\H a=some (.lst (bs.map V.ref))/\G a=none/\H0 a=none/\a∉bs/\bs.Nodup/\Paired (b9K K H0 G H) bs dss
 | .dct kvs=>∃ a vs,o=some (.ref a)/\H a=some (.dK vs)/\G a=none/\H0 a=none/\eW K G vs kvs
 | .seen w ks=>sN K H0 G H o w ks
def a9d:Ent->Bool
 | .lst _=>true
 | .nst _=>true
 | .dct _=>true
 | .seen _ _=>true
 | _=>false
structure Inj (H:Hp) (σ:St) (ρ:List Ent):Prop where
 two:∀ (i j:Nat) (a:Addr) (ds es:T0l),i≠j->σ[i]?=some (some (.ref a))->ρ[i]?=some (.lst ds)->σ[j]?=some (some (.ref a))->ρ[j]?=some (.lst es)->False
 mix:∀ (i j:Nat) (a a':Addr) (ds:T0l) (dss:List (List j0)),σ[i]?=some (some (.ref a))->ρ[i]?=some (.lst ds)->σ[j]?=some (some (.ref a'))->ρ[j]?=some (.nst dss)->a≠a'/\∀ vs,H a'=some (.lst vs)->V.ref a∉vs
 one:∀ (i j:Nat) (dss ess:List (List j0)),ρ[i]?=some (.nst dss)->ρ[j]?=some (.nst ess)->i=j
 oneD:∀ (i j:Nat) (ks ls:List (Key×j0)),ρ[i]?=some (.dct ks)->ρ[j]?=some (.dct ls)->i=j
variable {ρ ρ':List Ent}
theorem Inj.sub {σ':St} (I:Inj H σ ρ) (h:∀ (i:Nat) (e:Ent),ρ'[i]?=some e->a9d e=true->ρ[i]?=some e/\σ'[i]?=σ[i]?):Inj H σ' ρ':=by
 refine ⟨λi j a ds es n h1 h2 h3 h4=>?_,λi j a a' ds dss h1 h2 h3 h4=>?_,λi j dss ess h1 h2=>?_,λi j ks ls h1 h2=>I.oneD i j ks ls (h i _ h1 rfl).1 (h j _ h2 rfl).1⟩
 ·obtain ⟨x1,x2⟩:=h i _ h2 rfl
  obtain ⟨y1,y2⟩:=h j _ h4 rfl;rw [x2] at h1;rw [y2] at h3;exact I.two i j a ds es n h1 x1 h3 y1
 ·obtain ⟨x1,x2⟩:=h i _ h2 rfl
  obtain ⟨y1,y2⟩:=h j _ h4 rfl;rw [x2] at h1;rw [y2] at h3;exact I.mix i j a a' ds dss h1 x1 h3 y1
 ·exact I.one i j dss ess (h i _ h1 rfl).1 (h j _ h2 rfl).1
def Inj.other (I:Inj H σ ρ) (h:∀ (j:Nat) (a':Addr) (dss:List (List j0)),σ[j]?=some (some (.ref a'))->ρ[j]?=some (.nst dss)->∀ vs,H' a'=some (.lst vs)->H a'=some (.lst vs)):Inj H' σ ρ:=
 ⟨I.two,λi j a a' ds dss h1 h2 h3 h4=>⟨(I.mix i j a a' ds dss h1 h2 h3 h4).1,λvs e=>(I.mix i j a a' ds dss h1 h2 h3 h4).2 vs (h j a' dss h3 h4 vs e)⟩,I.one,I.oneD⟩
theorem Inj.free (h:∀ (i:Nat) (e:Ent),ρ[i]?=some e->a9d e=false):Inj H σ ρ:=
 ⟨λi j a ds es n h1 h2 h3 h4=>vY (h i _ h2),λi j a a' ds dss h1 h2 h3 h4=>vY (h i _ h2),λi j dss ess h1 h2=>vY (h i _ h1),λi j ks ls h1 h2=>vY (h i _ h1)⟩
theorem eM {α β:Type} {F F':α->β->Prop}:∀ {l:List α} {m:List β},Paired F l m->(∀ a b,a∈l->F a b->F' a b)->Paired F' l m
 | _,_,.nil,_=>.nil
 | _,_,.cons r t,h=>.cons (h _ _ qY r) (eM t λa b ha=>h a b (qF _ ha))
theorem tE {α β:Type} {F:α->β->Prop} {a:α}:∀ {l:List α} {m:List β},Paired F l m->a∈l->∃ b,F a b
 | _,_,.cons r t,h=>by
  rcases qG.mp h with rfl | h
  ·exact ⟨_,r⟩
  ·exact tE t h
structure RepS (K:qC) (H0 Gz G H:Hp) (σ:St) (ρ:List Ent):Prop where
 grow:Grow Gz H0 G H
 len:σ.length=ρ.length
 ent:∀ (i:Nat) (o:Option V) (e:Ent),σ[i]?=some o->ρ[i]?=some e->a6Y K H0 G H o e
 inj:Inj H σ ρ
 tab:nO K G H
theorem a6Y.more {K:qC} {H0 G H G' H':Hp} {o:Option V} {e:Ent} (g:Grow G H G' H') (h:a6Y K H0 G H o e):a6Y K H0 G' H' o e:=by
 cases e with
 | no=>trivial
 | val d=>obtain ⟨v,e,r⟩:=h;exact ⟨v,e,r.mono g.gg⟩
 | lst ds=>
  obtain ⟨a,xs,e,h1,h2,h3,r⟩:=h;exact ⟨a,xs,e,g.hh.lst h1,g.new a h2 (by rw [h1];simp),h3,r.mono g.gg⟩
 | exc c=>obtain ⟨a,C,e,h1,h2⟩:=h;exact ⟨a,C,e,h1,g.hh.keep a _ h2 (by unfold xcO;nofun)⟩
 | nst dss=>
  obtain ⟨a,bs,e,h1,h2,h3,h4,h5,r⟩:=h;exact ⟨a,bs,e,g.hh.lst h1,g.new a h2 (by rw [h1];simp),h3,h4,h5,Paired.mapP r λb ds ⟨xs,x1,x2,x3,x4⟩=>⟨xs,g.hh.lst x1,g.new b x2 (by rw [x1];simp),x3,x4.mono g.gg⟩⟩
 | dct kvs=>
  obtain ⟨a,vs,e,h1,h2,h3,r⟩:=h;exact ⟨a,vs,e,g.hh.keep a _ h1 (by nofun),g.new a h2 (by rw [h1];simp),h3,r.mono g.gg⟩
 | seen w ks=>exact sN.more h g
variable {kvs:List (Key×j0)} {vs:List (Key×V)}
section
variable {K:qC}
theorem RepS.more (R:RepS K H0 Gz G H σ ρ) (g:Grow G H G' H'):RepS K H0 Gz G' H' σ ρ:=
 ⟨R.grow.trans g,R.len,λi o e h1 h2=>(R.ent i o e h1 h2).more g,R.inj.other (λj a' dss h1 h2 vs e=>by
  obtain ⟨a,bs,e1,e2,_⟩:=R.ent j _ _ h1 h2;cases e1;rw [g.hh.lst e2] at e;cases e
  exact e2),R.tab.more g⟩
theorem RepS.sub (R:RepS K H0 Gz G H σ ρ):bG G H:=R.grow.sub
theorem RepS.at {i:Nat} {e:Ent} (R:RepS K H0 Gz G H σ ρ) (h:ρ[i]?=some e):∃ o,σ[i]?=some o/\a6Y K H0 G H o e:=by
 have hi:i<σ.length:=by rw [R.len];exact (qS.mp h).1
 exact ⟨σ[i],by simp [hi],R.ent i _ e (by simp [hi]) h⟩
theorem RepS.val {i:Nat} {d:j0} (R:RepS K H0 Gz G H σ ρ) (h:ρ[i]?=some (.val d)):∃ v,σ[i]?=some (some v)/\Rep K G v d:=by
 obtain ⟨o,e,v,rfl,r⟩:=R.at h;exact ⟨v,e,r⟩
theorem RepS.own {i:Nat} (R:RepS K H0 Gz G H σ ρ) (h:ρ[i]?=some (.lst ds)):∃ a xs,σ[i]?=some (some (.ref a))/\H a=some (.lst xs)/\G a=none/\H0 a=none/\RepAll K G xs ds:=by
 obtain ⟨o,e,a,xs,rfl,r⟩:=R.at h;exact ⟨a,xs,e,r⟩
def aH {α:Type} {l:List α} {i j:Nat} {x y:α} (h:(l.set i x)[j]?=some y):(j=i/\y=x/\i<l.length)\/(j≠i/\l[j]?=some y):=by
 by_cases e:j=i
 ·subst e
  have hl:j<l.length:=by
   have:=(qS.mp h).1;simpa using this
  rw [va hl] at h;exact .inl ⟨rfl,(qB h).symm,hl⟩
 ·rw [qh (jJ e)] at h
  exact .inr ⟨e,h⟩
theorem RepS.set {i:Nat} {v:V} {d:j0} (R:RepS K H0 Gz G H σ ρ) (r:Rep K G v d):RepS K H0 Gz G H (σ.set i (some v)) (ρ.set i (.val d)):=by
 refine ⟨R.grow,by simp [R.len],λj o e h1 h2=>?_,R.inj.sub λj e h1 h2=>?_,R.tab⟩
 ·rcases aH h1 with ⟨rfl,rfl,_⟩ | ⟨n,h1⟩
  ·rcases aH h2 with ⟨_,rfl,_⟩ | ⟨n,_⟩
   ·exact ⟨v,rfl,r⟩
   ·exact absurd rfl n
  ·rcases aH h2 with ⟨z,_⟩ | ⟨_,h2⟩
   ·exact absurd z n
   ·exact R.ent j o e h1 h2
 ·rcases aH h1 with ⟨_,rfl,_⟩ | ⟨n,h1⟩
  ·cases h2
  ·exact ⟨h1,qh (jJ n)⟩
def RepS.freeze {i:Nat} (R:RepS K H0 Gz G H σ ρ) (h:ρ[i]?=some (.lst ds)):∃ G',bG G G'/\RepS K H0 Gz G' H σ (ρ.set i (.val (.list ds))):=by
 obtain ⟨a,xs,e,h1,h2,h3,r⟩:=R.own h;have gg:bG G (upd G a (.lst xs)):=bF h2;refine ⟨upd G a (.lst xs),gg,⟨⟨R.grow.gg.trans gg,R.grow.hh,λb o q=>?_,λb q n=>?_,λn=>(R.grow.nt n).upd (by nofun)⟩,by simp [R.len],λj o e' q1 q2=>?_,R.inj.sub λj e h1 h2=>?_,R.tab.1,R.tab.2.upd (by nofun)⟩⟩
 ·by_cases hb:b=a
  ·subst hb;rw [aG] at q;cases q;exact h1
  ·rw [aE hb] at q;exact R.sub b o q
 ·have nb:b≠a:=λz=>n (by rw [z];exact h3)
  rw [aE nb];exact R.grow.new b q n
 ·rcases aH q2 with ⟨rfl,rfl,_⟩ | ⟨nj,q2⟩
  ·rw [e] at q1;cases q1
   exact ⟨.ref a,rfl,.list (.of aG) (r.mono gg)⟩
  ·have E:=R.ent j o e' q1 q2
   cases e' with
   | no=>trivial
   | val d=>obtain ⟨v,z,rv⟩:=E;exact ⟨v,z,rv.mono gg⟩
   | lst es=>
    obtain ⟨b,ys,z,g1,g2,g3,rv⟩:=E;have nb:b≠a:=λw=>by
     subst w z;exact R.inj.two j i b es ds nj q1 q2 e h
    exact ⟨b,ys,z,g1,by rw [aE nb];exact g2,g3,rv.mono gg⟩
   | exc c=>exact E
   | nst dss=>
    obtain ⟨b,bs,z,g1,g2,g3,g4,g5,rv⟩:=E;subst z;obtain ⟨m1,m2⟩:=R.inj.mix i j a b ds dss e h q1 q2;have ni:∀ c∈bs,c≠a:=λc hc w=>m2 _ g1 (by subst w;exact qU.mpr ⟨c,hc,rfl⟩);exact ⟨b,bs,rfl,g1,by rw [aE (jJ m1)];exact g2,g3,g4,g5,eM rv λc dd hc ⟨xs',x1,x2,x3,x4⟩=>⟨xs',x1,by rw [aE (ni c hc)];exact x2,x3,x4.mono gg⟩⟩
   | dct kvs=>
    obtain ⟨b,vs,z,g1,g2,g3,rv⟩:=E;exact ⟨b,vs,z,g1,by rw [aE (cM g1 h1 (by nofun))];exact g2,g3,rv.mono gg⟩
   | seen w ks=>exact sN.frz E h1 (by nofun) gg
 ·rcases aH h1 with ⟨_,rfl,_⟩ | ⟨n,h1⟩
  ·cases h2
  ·exact ⟨h1,rfl⟩
theorem RepS.wrote {i:Nat} {a:Addr} {ds':T0l} (R:RepS K H0 Gz G H σ ρ) (h:ρ[i]?=some (.lst ds)) (e:σ[i]?=some (some (.ref a))) (r:RepAll K G xs ds'):RepS K H0 Gz G (upd H a (.lst xs)) σ (ρ.set i (.lst ds')):=by
 obtain ⟨a',xs',e',h1,h2,h3,_⟩:=R.own h;rw [e] at e';cases e';refine ⟨⟨R.grow.gg,R.grow.hh.wr h3 h1,λb o q=>?_,λb q n=>R.grow.new b q n,R.grow.nt⟩,by simp [R.len],λj o e' q1 q2=>?_,⟨λj k b es fs hjk q1 q2 q3 q4=>?_,λj k b a' es dss q1 q2 q3 q4=>?_,λj k dss ess q1 q2=>?_,λj k ks ls q1 q2=>?_⟩,R.tab.wr h1⟩
 ·rw [aE (aR q h2)];exact R.sub b o q
 ·rcases aH q2 with ⟨rfl,rfl,_⟩ | ⟨nj,q2⟩
  ·rw [e] at q1;cases q1
   exact ⟨a,xs,rfl,aG,h2,h3,r⟩
  ·have E:=R.ent j o e' q1 q2
   cases e' with
   | no=>trivial
   | val d=>exact E
   | lst es=>
    obtain ⟨b,ys,z,g1,g2,g3,rv⟩:=E;have nb:b≠a:=λw=>by
     subst w z;exact R.inj.two j i b es ds nj q1 q2 e h
    exact ⟨b,ys,z,by rw [aE nb];exact g1,g2,g3,rv⟩
   | exc c=>obtain ⟨b,C,z,g1,g2⟩:=E;exact ⟨b,C,z,g1,by rw [aE (cM g2 h1 (by unfold xcO;nofun))];exact g2⟩
   | nst dss=>
    obtain ⟨b,bs,z,g1,g2,g3,g4,g5,rv⟩:=E;subst z;obtain ⟨m1,m2⟩:=R.inj.mix i j a b ds dss e h q1 q2;have ni:∀ c∈bs,c≠a:=λc hc w=>m2 _ g1 (by subst w;exact qU.mpr ⟨c,hc,rfl⟩);exact ⟨b,bs,rfl,by rw [aE (jJ m1)];exact g1,g2,g3,g4,g5,eM rv λc dd hc ⟨xs',x1,x2,x3,x4⟩=>⟨xs',by rw [aE (ni c hc)];exact x1,x2,x3,x4⟩⟩
   | dct kvs=>
    obtain ⟨b,vs,z,g1,g2,g3,rv⟩:=E;exact ⟨b,vs,z,by rw [aE (cM g1 h1 (by nofun))];exact g1,g2,g3,rv⟩
   | seen w ks=>exact sN.wr E h1 (by nofun)
 ·rcases aH q2 with ⟨rfl,_,_⟩ | ⟨n2,q2⟩
  ·rcases aH q4 with ⟨z,_,_⟩ | ⟨n4,q4⟩
   ·exact hjk z.symm
   ·exact R.inj.two j k b ds fs hjk q1 h q3 q4
  ·rcases aH q4 with ⟨z,_,_⟩ | ⟨n4,q4⟩
   ·subst z;exact R.inj.two j k b es ds hjk q1 ‹ρ[j]?=some (Ent.lst es)› q3 h
   ·exact R.inj.two j k b es fs hjk q1 ‹ρ[j]?=some (Ent.lst es)› q3 q4
 ·rcases aH q4 with ⟨_,z,_⟩ | ⟨_,q4⟩
  ·cases z
  ·have old:∃ fs,ρ[j]?=some (.lst fs):=by
    rcases aH q2 with ⟨rfl,_,_⟩ | ⟨_,q2⟩
    ·exact ⟨_,h⟩
    ·exact ⟨_,q2⟩
   obtain ⟨fs,q2⟩:=old;obtain ⟨m1,m2⟩:=R.inj.mix j k b a' fs dss q1 q2 q3 q4;have m3:=(R.inj.mix i k a a' ds dss e h q3 q4).1;exact ⟨m1,λvs z=>m2 vs (by rw [aE (jJ m3)] at z;exact z)⟩
 ·rcases aH q1 with ⟨_,z,_⟩ | ⟨_,q1⟩
  ·cases z
  ·rcases aH q2 with ⟨_,z,_⟩ | ⟨_,q2⟩
   ·cases z
   ·exact R.inj.one j k dss ess q1 q2
 ·rcases aH q1 with ⟨_,z,_⟩ | ⟨_,q1⟩
  ·cases z
  ·rcases aH q2 with ⟨_,z,_⟩ | ⟨_,q2⟩
   ·cases z
   ·exact R.inj.oneD j k ks ls q1 q2
theorem RepS.fresh {i:Nat} {p:Addr} (R:RepS K H0 Gz G H σ ρ) (h:H p=none) (r:RepAll K G xs ds):RepS K H0 Gz G (upd H p (.lst xs)) (σ.set i (some (.ref p))) (ρ.set i (.lst ds)):=by
 have R':=R.more (Grow.side (o:=.lst xs) R.sub h);refine ⟨R'.grow,by simp [R.len],λj o e h1 h2=>?_,⟨λj k a es fs hjk h1 h2 h3 h4=>?_,λj k b a' es dss q1 q2 q3 q4=>?_,λj k dss ess q1 q2=>?_,λj k ks ls q1 q2=>?_⟩,R'.tab⟩
 ·rcases aH h1 with ⟨rfl,rfl,_⟩ | ⟨n,h1⟩
  ·rcases aH h2 with ⟨_,rfl,_⟩ | ⟨n,_⟩
   ·exact ⟨p,xs,rfl,aG,R.sub.free h,R.grow.hh.free h,r⟩
   ·exact absurd rfl n
  ·rcases aH h2 with ⟨z,_⟩ | ⟨_,h2⟩
   ·exact absurd z n
   ·exact R'.ent j o e h1 h2
 ·have old:∀ j es,j≠i->σ[j]?=some (some (.ref p))->ρ[j]?=some (.lst es)->False:=λj es _ q1 q2=>by
   obtain ⟨b,ys,e,g1,_⟩:=R.own q2;rw [q1] at e;cases e;rw [h] at g1;cases g1
  rcases aH h2 with ⟨rfl,_,_⟩ | ⟨n2,h2⟩
  ·rcases aH h1 with ⟨_,z,_⟩ | ⟨n,_⟩
   ·cases z
    rcases aH h4 with ⟨z,_,_⟩ | ⟨n4,h4⟩
    ·exact hjk z.symm
    ·rw [qh (jJ n4)] at h3
     exact old k fs n4 h3 h4
   ·exact absurd rfl n
  ·rw [qh (jJ n2)] at h1
   rcases aH h4 with ⟨zk,_,_⟩ | ⟨n4,h4⟩
   ·subst zk
    rcases aH h3 with ⟨_,z,_⟩ | ⟨n,_⟩
    ·cases z;exact old j es n2 h1 ‹ρ[j]?=some (Ent.lst es)›
    ·exact absurd rfl n
   ·rw [qh (jJ n4)] at h3
    exact R.inj.two j k a es fs hjk h1 h2 h3 h4
 ·rcases aH q4 with ⟨_,z,_⟩ | ⟨n4,q4⟩
  ·cases z
  ·rw [qh (jJ n4)] at q3
   obtain ⟨a1,bs,z,g1,g2,g3,g4,g5,rv⟩:=R.ent k _ _ q3 q4;have z':a'=a1:=by cases z;rfl
   subst z';have pa:a'≠p:=aR g1 h;have pb:V.ref p∉bs.map V.ref:=λz=>by
    obtain ⟨c,hc,e⟩:=qU.mp z;cases e;obtain ⟨dd,⟨xs',x1,_⟩⟩:=tE rv hc;rw [h] at x1;cases x1
   rcases aH q2 with ⟨rfl,_,_⟩ | ⟨n2,q2⟩
   ·rcases aH q1 with ⟨_,z,_⟩ | ⟨n,_⟩
    ·cases z
     exact ⟨jJ pa,λvs e=>by rw [aE pa,g1] at e;cases e;exact pb⟩
    ·exact absurd rfl n
   ·rw [qh (jJ n2)] at q1
    obtain ⟨m1,m2⟩:=R.inj.mix j k b a' es dss q1 q2 q3 q4;exact ⟨m1,λvs e=>m2 vs (by rw [aE pa] at e;exact e)⟩
 ·rcases aH q1 with ⟨_,z,_⟩ | ⟨_,q1⟩
  ·cases z
  ·rcases aH q2 with ⟨_,z,_⟩ | ⟨_,q2⟩
   ·cases z
   ·exact R.inj.one j k dss ess q1 q2
 ·rcases aH q1 with ⟨_,z,_⟩ | ⟨_,q1⟩
  ·cases z
  ·rcases aH q2 with ⟨_,z,_⟩ | ⟨_,q2⟩
   ·cases z
   ·exact R.inj.oneD j k ks ls q1 q2
theorem RepS.ownD {i:Nat} (R:RepS K H0 Gz G H σ ρ) (h:ρ[i]?=some (.dct kvs)):∃ a vs,σ[i]?=some (some (.ref a))/\H a=some (.dK vs)/\G a=none/\H0 a=none/\eW K G vs kvs:=by
 obtain ⟨o,e,a,vs,rfl,r⟩:=R.at h;exact ⟨a,vs,e,r⟩
theorem Tab.wrD {P a:Addr} (t:Tab P q H) (h:H a=some (.dK vs)):Tab P q (upd H a o):=by
 obtain ⟨ps,h1,h2,h3⟩:=t;refine ⟨ps,by rw [aE (cM h1 h (by nofun))];exact h1,h2,λpos cv e=>?_⟩;obtain ⟨c,e1,e2⟩:=h3 pos cv e;exact ⟨c,e1,by rw [aE (cM e2 h (by unfold cdO;nofun))];exact e2⟩
theorem Sm.wrD {H H':Hp} (s:Sm H H') {l:Addr} {vs:List (Key×V)} {o:HO} (h0:H l=none) (h:H' l=some (.dK vs)):Sm H (upd H' l o):=
 ⟨λb u e n=>by rw [aE (aR e h0)];exact s.keep b u e n,λb ps e=>by rw [aE (aR e h0)];exact s.tbl b ps e,λP q t=>(s.tab P q t).wrD h⟩
theorem nO.wrD {K:qC} {G H:Hp} {a:Addr} {vs:List (Key×V)} {o:HO} (t:nO K G H) (h:H a=some (.dK vs)):nO K G (upd H a o):=⟨λx hx c P e=>(t.1 x hx c P e).wrD h,t.2⟩
def RepS.freezeD {i:Nat} (R:RepS K H0 Gz G H σ ρ) (h:ρ[i]?=some (.dct kvs)):∃ G',bG G G'/\RepS K H0 Gz G' H σ (ρ.set i (.val (.dict (kvs.map λp=>(eC p.1,p.2))))):=by
 obtain ⟨a,vs,e,h1,h2,h3,r⟩:=R.ownD h;have gg:bG G (upd G a (.dK vs)):=bF h2;refine ⟨upd G a (.dK vs),gg,⟨⟨R.grow.gg.trans gg,R.grow.hh,λb o q=>?_,λb q n=>?_,λn=>(R.grow.nt n).upd (by nofun)⟩,by simp [R.len],λj o e' q1 q2=>?_,R.inj.sub λj e h1 h2=>?_,R.tab.1,R.tab.2.upd (by nofun)⟩⟩
 ·by_cases hb:b=a
  ·subst hb;rw [aG] at q;cases q;exact h1
  ·rw [aE hb] at q;exact R.sub b o q
 ·have nb:b≠a:=λz=>n (by rw [z];exact h3)
  rw [aE nb];exact R.grow.new b q n
 ·rcases aH q2 with ⟨rfl,rfl,_⟩ | ⟨nj,q2⟩
  ·rw [e] at q1;cases q1
   refine ⟨.ref a,rfl,.dict (kvs:=vs) (.inl aG) ?_ ?_⟩
   ·rw [qT]
    have:=congrArg (List.map eC) r.1;rw [qT,qT] at this;exact this.symm
   ·rw [qT];exact r.2.mono gg
  ·have E:=R.ent j o e' q1 q2
   cases e' with
   | no=>trivial
   | val d=>obtain ⟨v,z,rv⟩:=E;exact ⟨v,z,rv.mono gg⟩
   | lst es=>
    obtain ⟨b,ys,z,g1,g2,g3,rv⟩:=E;exact ⟨b,ys,z,g1,by rw [aE (cM g1 h1 (by nofun))];exact g2,g3,rv.mono gg⟩
   | exc c=>exact E
   | nst dss=>
    obtain ⟨b,bs,z,g1,g2,g3,g4,g5,rv⟩:=E;exact ⟨b,bs,z,g1,by rw [aE (cM g1 h1 (by nofun))];exact g2,g3,g4,g5,eM rv λc dd hc ⟨xs',x1,x2,x3,x4⟩=>⟨xs',x1,by rw [aE (cM x1 h1 (by nofun))];exact x2,x3,x4.mono gg⟩⟩
   | dct ks=>exact absurd (R.inj.oneD j i ks kvs q2 h) nj
   | seen w ks=>exact sN.frz E h1 (by nofun) gg
 ·rcases aH h1 with ⟨_,rfl,_⟩ | ⟨n,h1⟩
  ·cases h2
  ·exact ⟨h1,rfl⟩
def RepS.wroteD {i:Nat} {a:Addr} {kvs':List (Key×j0)} (R:RepS K H0 Gz G H σ ρ) (h:ρ[i]?=some (.dct kvs)) (e:σ[i]?=some (some (.ref a))) (r:eW K G vs kvs'):RepS K H0 Gz G (upd H a (.dK vs)) σ (ρ.set i (.dct kvs')):=by
 obtain ⟨a',xs',e',h1,h2,h3,_⟩:=R.ownD h;rw [e] at e';cases e';refine ⟨⟨R.grow.gg,R.grow.hh.wrD h3 h1,λb o q=>?_,λb q n=>R.grow.new b q n,R.grow.nt⟩,by simp [R.len],λj o e' q1 q2=>?_,⟨λj k b es fs hjk q1 q2 q3 q4=>?_,λj k b a' es dss q1 q2 q3 q4=>?_,λj k dss ess q1 q2=>?_,λj k ks ls q1 q2=>?_⟩,R.tab.wrD h1⟩
 ·rw [aE (aR q h2)];exact R.sub b o q
 ·rcases aH q2 with ⟨rfl,rfl,_⟩ | ⟨nj,q2⟩
  ·rw [e] at q1;cases q1
   exact ⟨a,vs,rfl,aG,h2,h3,r⟩
  ·have E:=R.ent j o e' q1 q2
   cases e' with
   | no=>trivial
   | val d=>exact E
   | lst es=>
    obtain ⟨b,ys,z,g1,g2,g3,rv⟩:=E;exact ⟨b,ys,z,by rw [aE (cM g1 h1 (by nofun))];exact g1,g2,g3,rv⟩
   | exc c=>obtain ⟨b,C,z,g1,g2⟩:=E;exact ⟨b,C,z,g1,by rw [aE (cM g2 h1 (by unfold xcO;nofun))];exact g2⟩
   | nst dss=>
    obtain ⟨b,bs,z,g1,g2,g3,g4,g5,rv⟩:=E;exact ⟨b,bs,z,by rw [aE (cM g1 h1 (by nofun))];exact g1,g2,g3,g4,g5,eM rv λc dd hc ⟨xs',x1,x2,x3,x4⟩=>⟨xs',by rw [aE (cM x1 h1 (by nofun))];exact x1,x2,x3,x4⟩⟩
   | dct ks=>exact absurd (R.inj.oneD j i ks kvs q2 h) nj
   | seen w ks=>exact sN.wr E h1 (by nofun)
 ·rcases aH q2 with ⟨_,z,_⟩ | ⟨_,q2⟩
  ·cases z
  ·rcases aH q4 with ⟨_,z,_⟩ | ⟨_,q4⟩
   ·cases z
   ·exact R.inj.two j k b es fs hjk q1 q2 q3 q4
 ·rcases aH q2 with ⟨_,z,_⟩ | ⟨_,q2⟩
  ·cases z
  ·rcases aH q4 with ⟨_,z,_⟩ | ⟨_,q4⟩
   ·cases z
   ·obtain ⟨m1,m2⟩:=R.inj.mix j k b a' es dss q1 q2 q3 q4
    refine ⟨m1,λws z=>m2 ws ?_⟩;by_cases n:a'=a
    ·subst n;rw [aG] at z;cases z
    ·rw [aE n] at z;exact z
 ·rcases aH q1 with ⟨_,z,_⟩ | ⟨_,q1⟩
  ·cases z
  ·rcases aH q2 with ⟨_,z,_⟩ | ⟨_,q2⟩
   ·cases z
   ·exact R.inj.one j k dss ess q1 q2
 ·have old:∀ (j:Nat) (ks:List (Key×j0)),(ρ.set i (.dct kvs'))[j]?=some (.dct ks)->∃ ks',ρ[j]?=some (.dct ks'):=λj ks q=>by
   rcases aH q with ⟨rfl,_,_⟩ | ⟨_,q⟩
   ·exact ⟨_,h⟩
   ·exact ⟨_,q⟩
  obtain ⟨k1,q1⟩:=old j ks q1;obtain ⟨k2,q2⟩:=old k ls q2;exact R.inj.oneD j k k1 k2 q1 q2
def RepS.freshD {i:Nat} {p:Addr} (R:RepS K H0 Gz G H σ ρ) (h:H p=none) (hno:∀ (j:Nat) (ks:List (Key×j0)),ρ[j]?=some (.dct ks)->j=i) (r:eW K G vs kvs):RepS K H0 Gz G (upd H p (.dK vs)) (σ.set i (some (.ref p))) (ρ.set i (.dct kvs)):=by
 have R':=R.more (Grow.side (o:=.dK vs) R.sub h);refine ⟨R'.grow,by simp [R.len],λj o e h1 h2=>?_,⟨λj k a es fs hjk h1 h2 h3 h4=>?_,λj k b a' es dss q1 q2 q3 q4=>?_,λj k dss ess q1 q2=>?_,λj k ks ls q1 q2=>?_⟩,R'.tab⟩
 ·rcases aH h1 with ⟨rfl,rfl,_⟩ | ⟨n,h1⟩
  ·rcases aH h2 with ⟨_,rfl,_⟩ | ⟨n,_⟩
   ·exact ⟨p,vs,rfl,aG,R.sub.free h,R.grow.hh.free h,r⟩
   ·exact absurd rfl n
  ·rcases aH h2 with ⟨z,_⟩ | ⟨_,h2⟩
   ·exact absurd z n
   ·exact R'.ent j o e h1 h2
 ·rcases aH h2 with ⟨_,z,_⟩ | ⟨n2,h2⟩
  ·cases z
  ·rcases aH h4 with ⟨_,z,_⟩ | ⟨n4,h4⟩
   ·cases z
   ·rw [qh (jJ n2)] at h1
    rw [qh (jJ n4)] at h3;exact R'.inj.two j k a es fs hjk h1 h2 h3 h4
 ·rcases aH q2 with ⟨_,z,_⟩ | ⟨n2,q2⟩
  ·cases z
  ·rcases aH q4 with ⟨_,z,_⟩ | ⟨n4,q4⟩
   ·cases z
   ·rw [qh (jJ n2)] at q1
    rw [qh (jJ n4)] at q3;exact R'.inj.mix j k b a' es dss q1 q2 q3 q4
 ·rcases aH q1 with ⟨_,z,_⟩ | ⟨_,q1⟩
  ·cases z
  ·rcases aH q2 with ⟨_,z,_⟩ | ⟨_,q2⟩
   ·cases z
   ·exact R.inj.one j k dss ess q1 q2
 ·have all:∀ (j:Nat) (ks:List (Key×j0)),(ρ.set i (.dct kvs))[j]?=some (.dct ks)->j=i:=λj ks q=>by
   rcases aH q with ⟨z,_,_⟩ | ⟨_,q⟩
   ·exact z
   ·exact hno j ks q
  rw [all j ks q1,all k ls q2]
end
structure PD (X:Cx) (e:Expr) (ρ:List Ent) (d:j0):Prop where
 run:∀ (H0 Gz G:Hp) (pz:T0b) (s:Shared) (σ:St) (H:Hp) (Q:VK),Inv X pz σ H s->RepS X.K H0 Gz G H σ ρ->(∀ v G' H',Grow G H G' H'->Rep X.K G' v d->Q v H') ->
  wpAny (model X.prog X.w) X.A (eval e X.env) (EP X pz σ Q) X.xe s
structure PTD (X:Cx) (e:Expr) (ρ:List Ent) (b:Bool):Prop where
 run:∀ (H0 Gz G:Hp) (pz:T0b) (s:Shared) (σ:St) (H:Hp) (Q:Bool->Hp->Prop),Inv X pz σ H s->RepS X.K H0 Gz G H σ ρ->(∀ G' H',Grow G H G' H'->Q b H') ->
  wpAny (model X.prog X.w) X.A (isTrue e X.env (eval e X.env)) (TP X pz σ Q) X.xe s
structure PAD (X:Cx) (es:T0n) (ρ:List Ent) (ds:T0l):Prop where
 run:∀ (H0 Gz G:Hp) (pos:Pos) (pz:T0b) (s:Shared) (σ:St) (H:Hp) (Q:List V->Hp->Prop),Inv X pz σ H s->RepS X.K H0 Gz G H σ ρ->(∀ vs G' H',Grow G H G' H'->RepAll X.K G' vs ds->Q vs H') ->
  wpAny (model X.prog X.w) X.A (spliced (v0 pos (j4 es X.env))) (AP X pz σ Q) X.xe s
def tD (X:Cx) (ρ:List Ent) (d:j0):TE:=λσ H Q=>∃ H0 Gz G,RepS X.K H0 Gz G H σ ρ/\∀ v G' H',Grow G H G' H'->Rep X.K G' v d->Q v H'
def tTD (X:Cx) (ρ:List Ent) (b:Bool):TT:=λσ H Q=>∃ H0 Gz G,RepS X.K H0 Gz G H σ ρ/\∀ G' H',Grow G H G' H'->Q b H'
def tAD (X:Cx) (ρ:List Ent) (ds:T0l):TA:=λσ H Q=>∃ H0 Gz G,RepS X.K H0 Gz G H σ ρ/\∀ vs G' H',Grow G H G' H'->RepAll X.K G' vs ds->Q vs H'
variable {a:Expr} {i:Int}
theorem PD.pe (h:PD X e ρ d):PE X e (tD X ρ d):=λpz s σ H Q I ⟨H0,Gz,G,R,k⟩=>h.run H0 Gz G pz s σ H Q I R k
theorem PTD.pt {b:Bool} (h:PTD X e ρ b):PT X e (tTD X ρ b):=λpz s σ H Q I ⟨H0,Gz,G,R,k⟩=>h.run H0 Gz G pz s σ H Q I R k
theorem PAD.pa (h:PAD X es ρ ds):PA X es (tAD X ρ ds):=λpos pz s σ H Q I ⟨H0,Gz,G,R,k⟩=>h.run H0 Gz G pos pz s σ H Q I R k
theorem PD.of {t:TE} (h:PE X e t) (k:∀ H0 Gz G σ H Q,RepS X.K H0 Gz G H σ ρ->(∀ v G' H',Grow G H G' H'->Rep X.K G' v d->Q v H')->t σ H Q):PD X e ρ d:=
 ⟨λH0 Gz G pz s σ H Q I R q=>h pz s σ H Q I (k H0 Gz G σ H Q R q)⟩
def b8n {j:_}:PD X (.Constant (.int i) j pos) ρ (.int i):=.of b2q λ_ _ _ _ _ _ R q=>q _ _ _ (.refl R.sub) (.int i)
def b8m {x:Str} {j:_}:PD X (.Constant (.str x) j pos) ρ (.str x):=.of b2m λ_ _ _ _ _ _ R q=>q _ _ _ (.refl R.sub) (.str x)
def b5t {x:Bool} {j:_}:PD X (.Constant (.bool x) j pos) ρ (.bool x):=.of c0z λ_ _ _ _ _ _ R q=>q _ _ _ (.refl R.sub) (.bool x)
def b5r {j:_}:PD X (.Constant .none j pos) ρ .none:=.of b8h λ_ _ _ _ _ _ R q=>q _ _ _ (.refl R.sub) .none
def b8l (i:Nat) {x:Str} (h:ρ[i]?=some (.val d)) (hN:X.N[i]?=some x:=by rfl) (hv:Vis X.env.scope x:=by first | exact jw rfl | exact jP (jw rfl) | exact jP (jP rfl)) (hd:(x==("__debug__" : Str))=false:=by decide)
  (hcd:(x==("__classdict__" : Str))=false:=by decide):PD X (.Name x pos) ρ d:=.of (dR hN hv hd hcd) λH0 Gz G σ H Q R q=>by
 obtain ⟨v,e,r⟩:=R.val h;exact ⟨v,e,q v G H (.refl R.sub) r⟩
variable {j:Int}
section
def mO:PAD X [] ρ []:=⟨λH0 Gz G pos pz s σ H Q I R q=>pA pos pz s σ H Q I (q [] G H (.refl R.sub) .nil)⟩
def gQ (ha:PD X e ρ d) (hr:PAD X es ρ ds) (hs:j4 (e::es) X.env=(false,eval e X.env)::j4 es X.env:=by rfl):PAD X (e::es) ρ (d::ds):=by
 refine ⟨?_⟩;intro H0 Gz G pos pz s σ H Q I R q;exact iY ha.pe hr.pa hs pos pz s σ H Q I ⟨H0,Gz,G,R,λx G1 H1 g1 r1=>⟨H0,Gz,G1,R.more g1,λxs G2 H2 g2 r2=>q _ G2 H2 (g1.trans g2) (.cons (r1.mono g2.gg) r2)⟩⟩
structure CmpD (X:Cx) (op:CmpOp) (da db:j0) (t:Bool):Prop where
 ex:∃ r:R2,OpR X (wf op) r/\∀ x y G H Q,bG G H->Rep X.K G x da->Rep X.K G y db->Q (V.bl t) H->r x y H Q
def b9w:CmpD X .Lt (.int i) (.int j) (decide (i<j)):=⟨_,c0D,λx y G H Q _ rx ry q=>by cases rx;cases ry;exact ⟨_,_,rfl,rfl,q⟩⟩
def b9x:CmpD X .LtE (.int i) (.int j) (decide (i<=j)):=⟨_,c0E,λx y G H Q _ rx ry q=>by cases rx;cases ry;exact ⟨_,_,rfl,rfl,q⟩⟩
def cmp_gt:CmpD X .Gt (.int i) (.int j) (decide (j<i)):=⟨_,c0F,λx y G H Q _ rx ry q=>by cases rx;cases ry;exact ⟨_,_,rfl,rfl,q⟩⟩
def b9y:CmpD X .GtE (.int i) (.int j) (decide (j<=i)):=⟨_,c0G,λx y G H Q _ rx ry q=>by cases rx;cases ry;exact ⟨_,_,rfl,rfl,q⟩⟩
def c0n (X:Cx) (da db:j0) (neg:Bool):R2:=λx y H Q=>Rep X.K H x da/\Rep X.K H y db/\qp da=true/\qp db=true/\Q (.bl (if neg then !PyData.eqv da db else jd da db)) H
def b8v (hu:X.A.units+64<cLine) (da db:j0):OpR X (wf .Eq) (c0n X da db false):=by
 intro pz s σ H x y v u Q I rx ry ⟨r1,r2,h1,h2,q⟩;obtain ⟨as,w1⟩:=r1.reads I (gE h1) rx;obtain ⟨bs,w2⟩:=r2.reads I (gE h2) ry;exact eq_dataH w1 w2 h1 h2 hu ⟨.bl _,H,I,rfl,q⟩
def b8p (hu:X.A.units+64<cLine) (da db:j0):OpR X (wf .NotEq) (c0n X da db true):=by
 intro pz s σ H x y v u Q I rx ry ⟨r1,r2,h1,h2,q⟩;obtain ⟨as,w1⟩:=r1.reads I (gE h1) rx;obtain ⟨bs,w2⟩:=r2.reads I (gE h2) ry;exact ne_dataH w1 w2 h1 h2 hu ⟨.bl _,H,I,rfl,q⟩
def b9z (hu:X.A.units+64<cLine) (h1:qp da=true) (h2:qp db=true):CmpD X .Eq da db (jd da db):=
 ⟨_,b8v hu da db,λx y G H Q s rx ry q=>⟨rx.mono s,ry.mono s,h1,h2,q⟩⟩
def b9v (hu:X.A.units+64<cLine) (h1:qp da=true) (h2:qp db=true):CmpD X .NotEq da db (!PyData.eqv da db):=
 ⟨_,b8p hu da db,λx y G H Q s rx ry q=>⟨rx.mono s,ry.mono s,h1,h2,q⟩⟩
variable {rest:T0n}
def a9A {K:qC} (r:RepAll K G xs ds) (h:atI ds i=some d):∃ v,atI xs i=some v/\Rep K G v d:=by
 unfold atI at h ⊢;rw [r.length];cases e:ixN ds.length i with
 | none=>rw [e] at h;cases h
 | some j=>
  rw [e] at h;exact r.get h
def spD (K:qC) (F:List j0->j0->Prop):Sp:=λvs H Q _=>∃ G ds d,(bG G H/\nO K G H)/\RepAll K G vs ds/\F ds d/\∀ v G' H',Grow G H G' H'->Rep K G' v d->Q v H'
end
def Walk (K:qC) (J:It) (G:Hp) (ds:T0l):Prop:=
 ∀ (i:Nat) (G' H':Hp),bG G G'->bG G' H'->(∀ d,ds[i]?=some d->J.go i H'/\∀ x H2,J.yld i H' x H2->∃ G2,Grow G' H' G2 H2/\Rep K G2 x d)/\(ds.length<=i->J.stop i H')
def b4z (K:qC) (J:It) (G H:Hp) (ds:T0l):Prop:=
 ∀ (i:Nat) (G' H':Hp),Grow G H G' H'->(∀ d,ds[i]?=some d->J.go i H'/\∀ x H2,J.yld i H' x H2->∃ G2,Grow G' H' G2 H2/\Rep K G2 x d)/\(ds.length<=i->J.stop i H')
theorem Walk.h {K:qC} (w:Walk K J G ds):b4z K J G H ds:=λi G' H' g=>w i G' H' g.gg g.sub
def tID (K:qC) (ρ:List Ent) (ds:T0l):TI:=λσ H R=>∃ H0 Gz G,RepS K H0 Gz G H σ ρ/\∀ J G' H',Grow G H G' H'->Walk K J G' ds->R J H'
structure PID (X:Cx) (tg iter:Expr) (ρ:List Ent) (ds:T0l):Prop where
 run:PI X tg iter (tID X.K ρ ds)
def a9E {K:qC} {a:Addr} (hq:SqL K G a xs) (r:RepAll K G xs ds):Walk K (Itl K a) G ds:=by
 intro i G' H' s1 s2;refine ⟨λd e=>?_,λhl=>⟨xs,(s1.trans s2).seq hq,by rw [r.length];exact hl⟩⟩;obtain ⟨v,ev,rv⟩:=r.get e;refine ⟨⟨xs,v,(s1.trans s2).seq hq,ev⟩,λx H2 ⟨e2,y⟩=>?_⟩;subst e2;have z:=y xs ((s1.trans s2).seq hq);rw [ev] at z;cases z;exact ⟨G',.refl s2,rv.mono s1⟩
def b1l {K:qC} {a:Addr} (hq:SqT K G a xs) (r:RepAll K G xs ds):Walk K (Itt K a) G ds:=by
 intro i G' H' s1 s2;refine ⟨λd e=>?_,λhl=>⟨xs,nV (s1.trans s2) hq,by rw [r.length];exact hl⟩⟩;obtain ⟨v,ev,rv⟩:=r.get e;refine ⟨⟨xs,v,nV (s1.trans s2) hq,ev⟩,λx H2 ⟨e2,y⟩=>?_⟩;subst e2;have z:=y xs (nV (s1.trans s2) hq);rw [ev] at z;cases z;exact ⟨G',.refl s2,rv.mono s1⟩
theorem PI.imp {wi':TI} (h:PI X tg iter wi) (k:∀ σ H R,wi' σ H R->wi σ H R):PI X tg iter wi':=λpz s σ H R I w=>h pz s σ H R I (k σ H R w)
def b2i (h:PD X iter ρ (.list ds)):PID X tg iter ρ ds:=⟨PI.imp (a8G h.pe) λσ H R ⟨H0,Gz,G,S,q⟩=>⟨H0,Gz,G,S,λv G1 H1 g1 r1=>by
 cases r1 with
 | list hq r=>exact ⟨_,rfl,⟨_,g1.sub.seq hq⟩,q _ _ _ g1 (a9E hq r)⟩⟩⟩
def b5h (h:PD X iter ρ (.tuple ds)):PID X tg iter ρ ds:=⟨PI.imp (b8c h.pe) λσ H R ⟨H0,Gz,G,S,q⟩=>⟨H0,Gz,G,S,λv G1 H1 g1 r1=>by
 cases r1 with
 | tuple hq r=>exact ⟨_,rfl,⟨_,nV g1.sub hq⟩,q _ _ _ g1 (b1l hq r)⟩⟩⟩
def tGD (K:qC) (ρ:List Ent) (d:j0) (ρ':List Ent):TG:=λv σ H Q=>∃ H0 Gz G,RepS K H0 Gz G H σ ρ/\Rep K G v d/\∀ σ',RepS K H0 Gz G H σ' ρ'->Q σ' H
def c1M (K:qC) (ρ:List Ent) (ds:T0l) (ρ':List Ent):TGs:=λvs σ H Q=>∃ H0 Gz G,RepS K H0 Gz G H σ ρ/\RepAll K G vs ds/\∀ σ',RepS K H0 Gz G H σ' ρ'->Q σ' H
structure PGD (X:Cx) (tg:Expr) (ρ:List Ent) (d:j0) (ρ':List Ent):Prop where
 run:PG X tg (tGD X.K ρ d ρ')
structure PGsD (X:Cx) (ts:T0n) (ρ:List Ent) (ds:T0l) (ρ':List Ent):Prop where
 run:PGs X ts (c1M X.K ρ ds ρ')
variable {ρ1 ρ2:List Ent}
def a5O (i:Nat) {x:Str} (hN:X.N.Nodup) (hi:X.N[i]?=some x:=by rfl) (hx:Loc X.env.scope x:=by first | exact jw rfl | exact jP rfl) (hf:X.fn x=true\/X.env.scope.names.lookup x=some .local:=by first | exact .inl rfl | exact .inr rfl):
  PGD X (.Name x pos) ρ d (ρ.set i (.val d)):=⟨λpz s σ H v u Q I r ⟨H0,Gz,G,S,rv,q⟩=>b5l hN hi hx hf pz s σ H v u Q I r (q _ (S.set rv))⟩
def b2k:PGsD X [] ρ [] ρ:=⟨λpz s σ H vs us Q I r ⟨H0,Gz,G,S,rv,q⟩=>by
 cases rv
 exact b5j pz s σ H [] us Q I r ⟨rfl,q σ S⟩⟩
def b0a (h1:PGD X e ρ d ρ1) (h2:PGsD X es ρ1 ds ρ2) (hs:(ye (e::es) X.env).map (·.2)=assign e X.env::(ye es X.env).map (·.2):=by rfl):PGsD X (e::es) ρ (d::ds) ρ2:=⟨λpz s σ H vs us Q I r ⟨H0,Gz,G,S,rv,q⟩=>by
 cases rv with
 | cons r1 r2=>exact b2l h1.run h2.run hs pz s σ H _ us Q I r ⟨_,_,rfl,H0,Gz,G,S,r1,λσ' S'=>⟨H0,Gz,G,S',r2,q⟩⟩⟩
def b5k (hc:X.calm=true) (h:PGsD X es ρ ds ρ1) (hn:(ye es X.env).length=ds.length:=by rfl) (hst:(ye es X.env).findIdx? (·.1)=none:=by rfl):PGD X (.Tuple es k pos) ρ (.tuple ds) ρ1:=⟨λpz s σ H v u Q I r ⟨H0,Gz,G,S,rv,q⟩=>by
 cases rv with
 | tuple hq rr=>exact b8d hc h.run hn hst pz s σ H _ u Q I r ⟨_,_,rfl,nV S.sub hq,rr.length,H0,Gz,G,S,rr,q⟩⟩
inductive Out where
 | nx (ρ:List Ent)
 | rt (d:j0)
 | bk (ρ:List Ent)
 | ct (ρ:List Ent)
def b7A (K:qC) (H0 Gz G:Hp) (D:Ends):Out->Prop
 | .nx ρ=>∀ G' H' σ',bG G G'->RepS K H0 Gz G' H' σ' ρ->D.nx σ' H'
 | .rt d=>∀ v G' H',bG G G'->Grow Gz H0 G' H'->Rep K G' v d->D.rt v H'
 | .bk ρ=>∀ G' H' σ',bG G G'->RepS K H0 Gz G' H' σ' ρ->D.bk σ' H'
 | .ct ρ=>∀ G' H' σ',bG G G'->RepS K H0 Gz G' H' σ' ρ->D.ct σ' H'
def tSD (K:qC) (ρ:List Ent) (o:Out):TS:=λD σ H=>∃ H0 Gz G,RepS K H0 Gz G H σ ρ/\b7A K H0 Gz G D o
structure PSD (X:Cx) (st:Stmt) (ρ:List Ent) (o:Out):Prop where
 run:PS X st (tSD X.K ρ o)
inductive Weak:List Ent->List Ent->Prop
 | nil:Weak [] []
 | keep {e:Ent} {a b:List Ent}:Weak a b->Weak (e::a) (e::b)
 | no {e:Ent} {a b:List Ent}:Weak a b->Weak (e::a) (.no::b)
theorem Weak.refl:∀ ρ:List Ent,Weak ρ ρ
 | []=>.nil
 | _::r=>.keep (Weak.refl r)
theorem Weak.at:∀ {a b:List Ent} {i:Nat} {e:Ent},Weak a b->b[i]?=some e->e=.no\/a[i]?=some e
 | _,_,_,_,.nil,h=>by simp at h
 | _,_,0,e,.keep _,h=>.inr (by simpa using h)
 | _,_,0,e,.no _,h=>.inl (by simpa using h.symm)
 | _,_,i+1,e,.keep w,h=>by
  rcases Weak.at (i:=i) w (by simpa using h) with z | z
  ·exact .inl z
  ·exact .inr (by simpa using z)
 | _,_,i+1,e,.no w,h=>by
  rcases Weak.at (i:=i) w (by simpa using h) with z | z
  ·exact .inl z
  ·exact .inr (by simpa using z)
theorem Weak.length:∀ {a b:List Ent},Weak a b->a.length=b.length
 | _,_,.nil=>rfl
 | _,_,.keep w=>by simp [Weak.length w]
 | _,_,.no w=>by simp [Weak.length w]
theorem RepS.weak {K:qC} (R:RepS K H0 Gz G H σ ρ) (w:Weak ρ ρ'):RepS K H0 Gz G H σ ρ':=by
 refine ⟨R.grow,R.len.trans w.length,λi o e h1 h2=>?_,R.inj.sub λi e h1 h2=>?_,R.tab⟩
 ·rcases w.at h2 with z | z
  ·subst z;trivial
  ·exact R.ent i o e h1 z
 ·rcases w.at h1 with z | z
  ·subst z;cases h2
  ·exact ⟨z,rfl⟩
section
variable {rest:List Stmt} {o:Out}
theorem PSD.of {t:TS} (h:PS X st t) (k:∀ H0 Gz G σ H D,RepS X.K H0 Gz G H σ ρ->b7A X.K H0 Gz G D o->t D σ H):PSD X st ρ o:=⟨λpz s σ H D I ⟨H0,Gz,G,S,q⟩=>h pz s σ H D I (k H0 Gz G σ H D S q)⟩
end
def bY (cap:T0e) (ρ:List Ent):List Ent:=cap.map λo=>match o with
 | some j=>(match ρ[j]? with | some (.val d)=>.val d | _=>.no)
 | none=>.no
def a0s (cap:T0e) (ρ:List Ent):∀ (i:Nat) (e:Ent),(bY cap ρ)[i]?=some e->a9d e=false:=λi e h=>by
 unfold bY at h;rw [qQ] at h;cases hc:cap[i]? with
 | none=>rw [hc] at h;cases h
 | some c=>
  rw [hc] at h;cases c with
  | none=>cases h;rfl
  | some j=>
   have h2:(match ρ[j]? with | some (Ent.val d)=>Ent.val d | _=>Ent.no)=e:=qB h;cases hr:ρ[j]? with
   | none=>rw [hr] at h2;subst h2;rfl
   | some q=>rw [hr] at h2;cases q<;>(subst h2;rfl)
theorem RepS.cap {K:qC} {H0 Gz G H:Hp} {σ:St} {ρ:List Ent} (R:RepS K H0 Gz G H σ ρ) (cap:T0e):RepS K H G G H (gG cap σ) (bY cap ρ):=by
 refine ⟨.refl R.sub,by simp [gG,bY],λi o e h1 h2=>?_,Inj.free (a0s cap ρ),R.tab⟩
 ·unfold gG at h1
  unfold bY at h2;rw [qQ] at h1 h2;cases hc:cap[i]? with
  | none=>rw [hc] at h1;cases h1
  | some c=>
   rw [hc] at h1 h2;cases c with
   | none=>cases h2;trivial
   | some j=>
    have h1:(σ[j]?).getD none=o:=qB h1;have h2:(match ρ[j]? with | some (Ent.val d)=>Ent.val d | _=>Ent.no)=e:=qB h2;cases hr:ρ[j]? with
    | none=>rw [hr] at h2;subst h2;trivial
    | some q=>
     rw [hr] at h2;cases q with
     | no=>subst h2;trivial
     | lst ds=>subst h2;trivial
     | exc c=>subst h2;trivial
     | nst dss=>subst h2;trivial
     | dct kvs=>subst h2;trivial
     | seen w ks=>subst h2;trivial
     | val d=>
      subst h2;obtain ⟨v,e,r⟩:=R.val hr;rw [e] at h1;subst h1;exact ⟨v,rfl,r⟩
variable {Q:VK}
section
variable {cap:T0e} {ρb:List Ent} {α:Type} {xs:List α} {φ f:α->j0} {cnd:α->Bool} {ρx:α->List Ent}
structure PTsD (X:Cx) (ifs:T0n) (ρ:List Ent) (b:Bool):Prop where
 run:PTs X ifs (tTD X ρ b)
def b1Z:PTsD X [] ρ true:=⟨λpz s σ H Q I ⟨H0,Gz,G,R,q⟩=>b4Z pz s σ H Q I (q G H (.refl R.sub))⟩
def b1Y (h:PTD X c ρ t):PTsD X [c] ρ t:=⟨b4Y h.pt⟩
def gU (K:qC) (xs:List α) (φ:α->j0) (ρb:List Ent) (ρx:α->List Ent):TG:=λv σ H Q=>∃ x∈xs,tGD K ρb (φ x) (ρx x) v σ H Q
def tU (K:qC) (xs:List α) (ρx:α->List Ent) (cnd:α->Bool):TT:=λσ H Q=>∃ x∈xs,∃ H0 Gz G,RepS K H0 Gz G H σ (ρx x)/\∀ G' H',Grow G H G' H'->Q (cnd x) H'
def eU (K:qC) (xs:List α) (ρx:α->List Ent) (cnd:α->Bool) (f:α->j0):TE:=λσ H Q=>∃ x∈xs,cnd x=true/\∃ H0 Gz G,RepS K H0 Gz G H σ (ρx x)/\∀ v G' H',Grow G H G' H'->Rep K G' v (f x)->Q v H'
def eUF (K:qC) (xs:List α) (ρx:α->List Ent) (cnd:α->Bool) (f:α->j0) (H0 Gz:Hp):TE:=λσ H Q=>∃ x∈xs,cnd x=true/\∃ G,RepS K H0 Gz G H σ (ρx x)/\∀ v G' H',Grow G H G' H'->Rep K G' v (f x)->Q v H'
def b1y {g:TG} {te':TE} {σ0:St} (h:∀ σ H Q,te σ H Q->te' σ H Q) (hg:∀ x σ H Q Q',(∀ σ H,Q σ H->Q' σ H)->g x σ H Q->g x σ H Q') (ht:∀ σ H Q Q',(∀ b H,Q b H->Q' b H)->tc σ H Q->tc σ H Q') (t:yE J g tc te σ0 H Q):yE J g tc te' σ0 H Q:=by
 obtain ⟨W,hW⟩:=t;refine ⟨W,λD hD=>⟨(hW D hD).1,λi m ys σ1 H1 w h1=>?_⟩⟩;rcases (hW D hD).2 i m ys σ1 H1 w h1 with z | ⟨go,z⟩
 ·exact .inl z
 ·refine .inr ⟨go,λx H2 y=>hg _ _ _ _ _ (λσ3 H3 q3=>ht _ _ _ _ (λb H4 q4=>?_) q3) (z x H2 y)⟩
  cases b with
  | true=>rw [if_pos rfl] at q4 ⊢;exact h _ _ _ q4
  | false=>rw [if_neg (by decide)] at q4 ⊢;exact q4
def b7J {K:qC} (R:RepS K H0 Gz G H σ ρ) (wk:b4z K J G H (xs.map φ)) (hb:Weak (bY cap ρ) ρb) (hw:∀ x∈xs,Weak (ρx x) ρb) (hz:xs.length<=j5)
  (q:∀ D ys G' H',Grow G H G' H'->G' D=some (.lst ys)->H D=none->RepAll K G' ys ((xs.filter cnd).map f)->Q (.ref D) H'):yE J (gU K xs φ ρb ρx) (tU K xs ρx cnd) (eUF K xs ρx cnd f H G) (gG cap σ) H Q:=by
 refine ⟨λD i m ys σ' H'=>m=xs.length - i/\i<=xs.length/\∃ G',RepS K H G G' H' σ' ρb/\G' D=none/\RepAll K G' ys (((xs.take i).filter cnd).map f),λD hD=>⟨⟨xs.length,by simp,jB _,G,?_,R.sub.free hD,by simpa using RepAll.nil⟩,?_⟩⟩
 ·exact ((R.cap cap).more (.side R.sub hD)).weak hb
 ·rintro i m ys σ1 H1 ⟨rfl,hi,G1,R1,hG1,ra⟩ hD1
  obtain ⟨wgo,wstop⟩:=wk i G1 H1 R1.grow;by_cases hlt:i<xs.length
  ·have hx:xs[i]?=some xs[i]:=qK hlt
   have hm:xs[i]∈xs:=jy hlt;obtain ⟨go,yl⟩:=wgo (φ xs[i]) (by rw [qQ,hx];rfl);have tk:(xs.take (i+1)).filter cnd=(xs.take i).filter cnd++(if cnd xs[i]=true then [xs[i]] else []):=by
    rw [vG,hx,List.filter_append];cases hcx:cnd xs[i]<;>simp [hcx]
   refine .inr ⟨go,λx H2 y=>?_⟩;obtain ⟨G2,g2,rx⟩:=yl x H2 y;refine ⟨xs[i],hm,H,G,G2,R1.more g2,rx,λσ3 R3=>⟨xs[i],hm,H,G,G2,R3,λG4 H4 g4=>?_⟩⟩;have g14:=g2.trans g4;have hD4:H4 D=some (.lst ys):=g14.hh.lst hD1;have hG4:G4 D=none:=g14.new D hG1 (by rw [hD1];simp);dsimp only;by_cases hcx:cnd xs[i]=true
   ·rw [if_pos hcx]
    refine ⟨xs[i],hm,hcx,G4,R3.more g4,λv G5 H5 g5 rv=>?_⟩;have hD5:H5 D=some (.lst ys):=g5.hh.lst hD4;have hG5:G5 D=none:=g5.new D hG4 (by rw [hD4];simp);have hlen:ys.length<j5:=by
     have h1:=ra.length;have h2:(((xs.take i).filter cnd).map f).length<=i:=by
      rw [qE];exact qi (jr _ _) (by rw [jQ];omega)
     omega
    refine ⟨hD5,hlen,xs.length - (i+1),by omega,rfl,hlt,G5,?_,hG5,?_⟩
    ·have R5:RepS K H G G5 H5 σ3 ρb:=((R3.more g4).more g5).weak (hw _ hm)
     -- the list at D has one item more;nothing else speaks of D
     have noOwn:∀ (j:Nat) (e:Ent),ρb[j]?=some e->a9d e=false:=λj e h2=>by
      rcases hb.at h2 with z' | z'
      ·rw [z'];rfl
      ·exact a0s cap ρ j e z'
     have hHD:H D=none:=hD;refine ⟨⟨R5.grow.gg,R5.grow.hh.wr hHD hD5,λb o e=>?_,R5.grow.new,R5.grow.nt⟩,R5.len,λj o e h1 h2=>?_,Inj.free (λj e h2=>noOwn j e h2),R5.tab.wr hD5⟩
     ·rw [aE (aR e hG5)];exact R5.sub b o e
     ·have E:=R5.ent j o e h1 h2
      cases e with
      | no=>trivial
      | val d=>exact E
      | exc c=>obtain ⟨b,C,z,g1,g2⟩:=E;exact ⟨b,C,z,g1,by rw [aE (cM g2 hD5 (by unfold xcO;nofun))];exact g2⟩
      | lst es=>have:=noOwn j _ h2;cases this
      | nst dss=>have:=noOwn j _ h2;cases this
      | dct kvs=>have:=noOwn j _ h2;cases this
      | seen w ks=>have:=noOwn j _ h2;cases this
    ·rw [tk,if_pos hcx,qc]
     exact (ra.mono ((g14.trans g5).gg)).append (.cons rv .nil)
   ·rw [if_neg hcx]
    refine ⟨hD4,xs.length - (i+1),by omega,rfl,hlt,G4,(R3.more g4).weak (hw _ hm),hG4,?_⟩;rw [tk,if_neg hcx,kW];exact ra.mono g14.gg
  ·refine .inl ⟨wstop (by rw [qE];omega),?_⟩
   have hi':i=xs.length:=by omega
   subst hi';rw [List.take_length] at ra;have sD:bG G1 (upd G1 D (.lst ys)):=bF hG1;refine q D ys (upd G1 D (.lst ys)) H1 ⟨R1.grow.gg.trans sD,R1.grow.hh,λb o e=>?_,λb e n=>?_,λn=>(R1.grow.nt n).upd (by nofun)⟩ aG hD (ra.mono sD)
   ·by_cases hbD:b=D
    ·subst hbD;rw [aG] at e;cases e;exact hD1
    ·rw [aE hbD] at e;exact R1.sub b o e
   ·rw [aE (λz=>n (by rw [z];exact hD))]
    exact R1.grow.new b e n
def a7j {K:qC} (R:RepS K H0 Gz G H σ ρ) (wk:b4z K J G H (xs.map φ)) (hb:Weak (bY cap ρ) ρb) (hw:∀ x∈xs,Weak (ρx x) ρb) (hz:xs.length<=j5)
  (q:∀ D ys G' H',Grow G H G' H'->G' D=some (.lst ys)->H D=none->RepAll K G' ys ((xs.filter cnd).map f)->Q (.ref D) H'):yE J (gU K xs φ ρb ρx) (tU K xs ρx cnd) (eU K xs ρx cnd f) (gG cap σ) H Q:=
 b1y (t:=b7J R wk hb hw hz q) (λσ H' Q' ⟨x,hx,hc,G',R',q'⟩=>⟨x,hx,hc,H,G,G',R',q'⟩) (λv σ H' Q1 Q2 h ⟨x,hx,H1,G1,G2,R2,r2,q2⟩=>⟨x,hx,H1,G1,G2,R2,r2,λσ3 R3=>h _ _ (q2 σ3 R3)⟩)
  λσ H' Q1 Q2 h ⟨x,hx,H1,G1,G2,R2,q2⟩=>⟨x,hx,H1,G1,G2,R2,λG4 H4 g4=>h _ _ (q2 G4 H4 g4)⟩
def yM {K:qC} (R:RepS K H0 Gz G H σ ρ) (wk:Walk K J G (xs.map φ)) (hb:Weak (bY cap ρ) ρb) (hw:∀ x∈xs,Weak (ρx x) ρb) (hz:xs.length<=j5)
  (q:∀ D ys G' H',Grow G H G' H'->G' D=some (.lst ys)->H D=none->RepAll K G' ys ((xs.filter cnd).map f)->Q (.ref D) H'):yE J (gU K xs φ ρb ρx) (tU K xs ρx cnd) (eU K xs ρx cnd f) (gG cap σ) H Q:=
 a7j R wk.h hb hw hz q
def a5B {K:qC} (R:RepS K H0 Gz G H σ ρ) (wk:Walk K J G (xs.map φ)) (hb:Weak (bY cap ρ) ρb) (hw:∀ x∈xs,Weak (ρx x) ρb) (hz:xs.length<=j5)
  (q:∀ v G' H',Grow G H G' H'->Rep K G' v (.list ((xs.filter cnd).map f))->Q v H'):yE J (gU K xs φ ρb ρx) (tU K xs ρx cnd) (eU K xs ρx cnd f) (gG cap σ) H Q:=
 yM R wk hb hw hz λD ys G' H' g h _ ra=>q _ G' H' g (.list (.of h) ra)
def b5s (hc:X.calm=true) (B:Blk X scope N' cap) (hi:PID X tg iter ρ (xs.map φ)) (hb:Weak (bY cap ρ) ρb) (hw:∀ x∈xs,Weak (ρx x) ρb) (hz:xs.length<=j5)
  (hg:∀ C s3z H3z fp x,x∈xs->PGD (bV X scope N' C s3z H3z fp) tg ρb (φ x) (ρx x))
  (ht:∀ C s3z H3z fp x,x∈xs->PTsD (bV X scope N' C s3z H3z fp) ifs (ρx x) (cnd x))
  (he:∀ C s3z H3z fp x,x∈xs->cnd x=true->PD (bV X scope N' C s3z H3z fp) elt (ρx x) (f x))
  (hs:∀ x,wj iter X.env x=pure x:=by intro _;rfl):PD X (.ListComp elt [⟨tg,iter,ifs,0⟩] scope pos) ρ (.list ((xs.filter cnd).map f)):=
 .of (a4I (g:=gU X.K xs φ ρb ρx) (tc:=tU X.K xs ρx cnd) (te:=eU X.K xs ρx cnd f) hc B hi.run (λC s3z H3z fp pz s σ H v u Q I r ⟨x,hx,q⟩=>(hg C s3z H3z fp x hx).run pz s σ H v u Q I r q)
  (λC s3z H3z fp pz s σ H Q I ⟨x,hx,q⟩=>(ht C s3z H3z fp x hx).run pz s σ H Q I q) (λC s3z H3z fp pz s σ H Q I ⟨x,hx,hcx,H0,Gz,G,R,q⟩=>(he C s3z H3z fp x hx hcx).run H0 Gz G pz s σ H Q I R q) hs)
  λH0 Gz G σ H Q R q=>⟨H0,Gz,G,R,λJ G' H' g wk=>a5B (R.more g) wk hb hw hz λv G2 H2 g2 r2=>q v G2 H2 (g.trans g2) r2⟩
def b2b (i:Nat) {x:Str} (hN:X.N.Nodup) (hc:X.calm=true) (B:Blk X scope N' cap) (hi:PID X tg iter ρ (xs.map φ)) (hb:Weak (bY cap ρ) ρb) (hw:∀ x∈xs,Weak (ρx x) ρb) (hz:xs.length<=j5)
  (hg:∀ C s3z H3z fp x,x∈xs->PGD (bV X scope N' C s3z H3z fp) tg ρb (φ x) (ρx x))
  (ht:∀ C s3z H3z fp x,x∈xs->PTsD (bV X scope N' C s3z H3z fp) ifs (ρx x) (cnd x))
  (he:∀ C s3z H3z fp x,x∈xs->cnd x=true->PD (bV X scope N' C s3z H3z fp) elt (ρx x) (f x))
  (hxi:X.N[i]?=some x:=by rfl) (hx:X.env.scope.names.lookup x=some .local:=by rfl)
  (hsw:wm (.ListComp elt [⟨tg,iter,ifs,0⟩] scope pos) (some (.Name x p)) spos.line X.env=pure true:=by rfl)
  (hs:∀ x,wj iter X.env x=pure x:=by intro _;rfl):PSD X (.Assign [.Name x p] (.ListComp elt [⟨tg,iter,ifs,0⟩] scope pos) spos) ρ (.nx (ρ.set i (.val (.list ((xs.filter cnd).map f))))):=
 .of (a4F (g:=gU X.K xs φ ρb ρx) (tc:=tU X.K xs ρx cnd) (te:=eU X.K xs ρx cnd f) hN hxi hx hc B hi.run (λC s3z H3z fp pz s σ H v u Q I r ⟨x,hx,q⟩=>(hg C s3z H3z fp x hx).run pz s σ H v u Q I r q)
  (λC s3z H3z fp pz s σ H Q I ⟨x,hx,q⟩=>(ht C s3z H3z fp x hx).run pz s σ H Q I q) (λC s3z H3z fp pz s σ H Q I ⟨x,hx,hcx,H0,Gz,G,R,q⟩=>(he C s3z H3z fp x hx hcx).run H0 Gz G pz s σ H Q I R q) hsw hs)
  λH0 Gz G σ H D R q=>⟨H0,Gz,G,R,λJ G' H' g wk=>a5B (R.more g) wk hb hw hz λv G2 H2 g2 r2=>q G2 H2 _ (g.gg.trans g2.gg) (((R.more g).more g2).set r2)⟩
end
def gJ (N:T0q) (ds:T0l):List Ent:=ds.map .val++List.replicate (N.length - ds.length) .no
def gB {K:qC} {vs:List V} (s:bG G H/\nO K G H) (r:RepAll K G vs ds):RepS K H G G H (start N vs) (gJ N ds):=by
 have hl:=r.length;refine ⟨.refl s.1,by simp [start,gJ,hl],λi o e h1 h2=>?_,Inj.free (λi e h2=>?_),s.2⟩
 ·unfold gJ at h2
  unfold start at h1;by_cases hi:i<ds.length
  ·rw [ja (by simpa using hi),qQ] at h2
   rw [ja (by simp;omega),qQ] at h1;rw [qK hi] at h2;obtain ⟨v,ev,rv⟩:=r.get (qK hi);rw [ev] at h1;cases h1;cases h2;exact ⟨v,rfl,rv⟩
  ·rw [jU (by simpa using hi),vO] at h2
   split at h2
   ·cases h2;trivial
   ·cases h2
 ·unfold gJ at h2
  by_cases hi:i<ds.length
  ·rw [ja (by simpa using hi),qQ,qK hi] at h2
   cases h2;rfl
  ·rw [jU (by simpa using hi),vO] at h2
   split at h2
   ·cases h2;rfl
   ·cases h2
section
variable {K:qC}
noncomputable abbrev fcx (P:Program) (w:World) (K:qC) (mg:T0d) (base:Heap) (N:T0q) (qual:Str) (scope:Scope) (f:Addr) (cd:Value) (A:Around) (outer:List Env) (s:Shared) (H:Hp) (E:XK):Cx:=(a6I CX0 P w K mg base N qual scope f cd A outer s H E).nox
end
section
variable {Q:T0a}
def a2q (hi:ud us ns):∃ xs:Array (Int×Tok),us.toArray=intItems xs/\ns=xs.toList.map (·.1):=by
 obtain ⟨xs,e⟩:=hi.allInts.items;exact ⟨xs,e,by rw [<-hi.numsOf,<-nums_intItems,<-e]⟩
def b5M (hh:A.handled=none) (hl:s.heap.IsList l us.toArray) (hi:ud us ns) (hne:ns≠[])
  (h:∀ h' M t tk,(∀ b o,s.heap.get? b=some o->h'.get? b=some o)->M∈ns->(∀ a,a∈ns->a<=M)->Q (.int M t) { s with heap:=h',toks:=tk }):
  wpAny (model prog w) A (call (.builtin "max") [.ref l]) Q E s:=by
 obtain ⟨xs,e,hns⟩:=a2q hi;have hpos:0<xs.size:=by
  cases hx:ns with
  | nil=>exact absurd hx hne
  | cons a r=>
   have:ns.length=xs.size:=by rw [hns];simp
   rw [<-this,hx];simp
 rw [e] at hl;refine max_intList hh hl hpos λv h' tk hv kp=>?_;obtain ⟨t,rfl⟩:=intItems_at hv;have best:=argBest_gt (numAt xs) (xs.size - 1);refine h h' _ t tk kp ?_ λa ha=>?_
 ·rw [hns,QU]
  exact getD_mem (by rw [qE,qP];have:=best.1;omega)
 ·rw [hns] at ha
  obtain ⟨j,hj,rfl⟩:=mem_getD ha;rw [qE,qP] at hj;rw [<-QU];exact best.2 j (by omega)
def b5P (hh:A.handled=none) (hl:s.heap.IsList l us.toArray) (hi:ud us ns) (hne:ns≠[])
  (h:∀ h' M t tk,(∀ b o,s.heap.get? b=some o->h'.get? b=some o)->M∈ns->(∀ a,a∈ns->M<=a)->Q (.int M t) { s with heap:=h',toks:=tk }):
  wpAny (model prog w) A (call (.builtin "min") [.ref l]) Q E s:=by
 obtain ⟨xs,e,hns⟩:=a2q hi;have hpos:0<xs.size:=by
  cases hx:ns with
  | nil=>exact absurd hx hne
  | cons a r=>
   have:ns.length=xs.size:=by rw [hns];simp
   rw [<-this,hx];simp
 rw [e] at hl;refine min_intList hh hl hpos λv h' tk hv kp=>?_;obtain ⟨t,rfl⟩:=intItems_at hv;have best:=argBest_lt (numAt xs) (xs.size - 1);refine h h' _ t tk kp ?_ λa ha=>?_
 ·rw [hns,QU]
  exact getD_mem (by rw [qE,qP];have:=best.1;omega)
 ·rw [hns] at ha
  obtain ⟨j,hj,rfl⟩:=mem_getD ha;rw [qE,qP] at hj;rw [<-QU];exact best.2 j (by omega)
end
variable {M:Int}
def b0P (hc:X.calm=true):iP X (.builtin "max") (λxs H Q=>∃ p ns,xs=[.ref p]/\SqL X.K H p (ns.map V.int)/\ns≠[]/\∀ M,M∈ns->(∀ a,a∈ns->a<=M)->Q (.int M) H):=by
 intro pz s σ H xs us Q I r ⟨p,ns,e,hq,hne,q⟩;subst e;obtain ⟨u,rfl,rx⟩:=vals1 r;cases rx;obtain ⟨its,rv,pl,hz⟩:=I.list hq;exact b5M (I.ok.hd hc) pl.isList (intsAre_of rv) hne λh' M t tk kp m1 m2=>⟨.int M,H,I.kept kp,⟨t,rfl⟩,q M m1 m2⟩
def b0N (hc:X.calm=true):iP X (.builtin "min") (λxs H Q=>∃ p ns,xs=[.ref p]/\SqL X.K H p (ns.map V.int)/\ns≠[]/\∀ M,M∈ns->(∀ a,a∈ns->M<=a)->Q (.int M) H):=by
 intro pz s σ H xs us Q I r ⟨p,ns,e,hq,hne,q⟩;subst e;obtain ⟨u,rfl,rx⟩:=vals1 r;cases rx;obtain ⟨its,rv,pl,hz⟩:=I.list hq;exact b5P (I.ok.hd hc) pl.isList (intsAre_of rv) hne λh' M t tk kp m1 m2=>⟨.int M,H,I.kept kp,⟨t,rfl⟩,q M m1 m2⟩
def a4Q:List Int->Int
 | []=>0
 | a::r=>r.foldl max a
def b2I:List Int->Int
 | []=>0
 | a::r=>r.foldl min a
theorem lC:∀ (r:T0s) (a:Int),a<=r.foldl max a/\∀ b∈r,b<=r.foldl max a
 | [],a=>⟨kG _,λ_ h=>by cases h⟩
 | x::r,a=>by
  have ih:=lC r (max a x);rw [jt];refine ⟨by have:=ih.1;omega,λb hb=>?_⟩;rcases qG.mp hb with rfl | hb
  ·have:=ih.1;omega
  ·exact ih.2 b hb
theorem nD:∀ (r:T0s) (a:Int),r.foldl max a=a\/r.foldl max a∈r
 | [],a=>.inl rfl
 | x::r,a=>by
  rw [jt];rcases nD r (max a x) with h | h
  ·by_cases hx:a<=x
   ·right;rw [h];simp [Int.max_def,hx]
   ·left;rw [h];simp [Int.max_def,hx]
  ·exact .inr (qF _ h)
def a8U (h1:M∈ns) (h2:∀ a,a∈ns->a<=M):M=a4Q ns:=by
 cases ns with
 | nil=>cases h1
 | cons a r=>
  show M=r.foldl max a;have g:=lC r a;have m:=nD r a;apply Int.le_antisymm
  ·rcases qG.mp h1 with rfl | h1
   ·exact g.1
   ·exact g.2 M h1
  ·rcases m with m | m
   ·rw [m];exact h2 a qY
   ·exact h2 _ (qF _ m)
theorem xO:∀ (r:T0s) (a:Int),r.foldl min a<=a/\∀ b∈r,r.foldl min a<=b
 | [],a=>⟨kG _,λ_ h=>by cases h⟩
 | x::r,a=>by
  have ih:=xO r (min a x);rw [jt];refine ⟨by have:=ih.1;omega,λb hb=>?_⟩;rcases qG.mp hb with rfl | hb
  ·have:=ih.1;omega
  ·exact ih.2 b hb
theorem tV:∀ (r:T0s) (a:Int),r.foldl min a=a\/r.foldl min a∈r
 | [],a=>.inl rfl
 | x::r,a=>by
  rw [jt];rcases tV r (min a x) with h | h
  ·by_cases hx:a<=x
   ·left;rw [h];simp [Int.min_def,hx]
   ·right;rw [h];simp [Int.min_def,hx]
  ·exact .inr (qF _ h)
def b5Q (h1:M∈ns) (h2:∀ a,a∈ns->M<=a):M=b2I ns:=by
 cases ns with
 | nil=>cases h1
 | cons a r=>
  show M=r.foldl min a;have g:=xO r a;have m:=tV r a;apply Int.le_antisymm
  ·rcases m with m | m
   ·rw [m];exact h2 a qY
   ·exact h2 _ (qF _ m)
  ·rcases qG.mp h1 with rfl | h1
   ·exact g.1
   ·exact g.2 M h1
def a2c (h:ns≠[]):a4Q ns∈ns:=by
 cases ns with
 | nil=>exact absurd rfl h
 | cons a r=>
  rcases nD r a with m | m
  ·show r.foldl max a∈_;rw [m];exact qY
  ·exact qF _ m
def a8T {a:Int} (h:a∈ns):a<=a4Q ns:=by
 cases ns with
 | nil=>cases h
 | cons b r=>
  rcases qG.mp h with rfl | h
  ·exact (lC r a).1
  ·exact (lC r b).2 a h
def c0q (K:qC):R2:=λx y H Q=>∃ l b xs zs,x=.ref l/\y=.ref b/\SqL K H l xs/\SqL K H b zs/\xs.length+zs.length<=j5/\∀ p,H p=none->Q (.ref p) (upd H p (.lst (xs++zs)))
noncomputable def b7z (so:Scope) (NN:T0q) (scope:Scope) (N':T0q) (cap:T0e):Bool:=
 decide (scope.kind=.function)&&scope.names.all (λy=>decide (y.2=.cell->scope.names.lookup y.1=some .cell))&&scope.names.all (λy=>decide (y.2=.local->scope.names.lookup y.1=some .local))
  && scope.names.all (λy=>decide (y.2=.free->so.names.lookup y.1=some .cell))
  && (qm cap.length).all (λi=>match cap[i]? with
   | some (some j)=>(match N'[i]?,NN[j]? with | some x,some y=>decide (x=y/\scope.names.lookup x=some .free) | _,_=>false)
   | _=>true)
  && decide (cap.length=N'.length)&&decide N'.Nodup
def eE {so:Scope} {NN:T0q} {cap:T0e} (hs:X.env.scope=so) (hN:X.N=NN) (h:b7z so NN scope N' cap=true):Blk X scope N' cap:=by
 unfold b7z at h;simp only [qJ,decide_eq_true_eq,qe] at h;obtain ⟨⟨⟨⟨⟨⟨h1,h2⟩,h3⟩,h4⟩,h5⟩,h6⟩,h7⟩:=h;refine ⟨h1,h2,h3,λy hy hk=>?_,λi j hij=>?_,h6,h7⟩
 ·show X.env.scope.names.lookup y.1=some .cell
  rw [hs];exact h4 y hy hk
 ·have hi:i<cap.length:=(qS.mp hij).1
  have q:=h5 i (jp.mpr hi);rw [hij] at q;dsimp only at q;cases e1:N'[i]? with
  | none=>rw [e1] at q;cases q
  | some x=>
   rw [e1] at q;cases e2:NN[j]? with
   | none=>rw [e2] at q;cases q
   | some y=>
    rw [e2] at q;have q':x=y/\scope.names.lookup x=some .free:=of_decide_eq_true q;exact ⟨x,rfl,by rw [hN,e2,q'.1],q'.2⟩
abbrev Mt:=Str×Int×Int
abbrev dM (m:Mt):j0:=.tuple [.str m.1,.int m.2.1,.int m.2.2]
abbrev dS (s:List Mt):j0:=.tuple (s.map dM)
section
variable {R:Result->Shared->Prop} {S:Addr} {wr:T0o} {P:Nat->Value->Prop} {St:Nat->Heap->Prop}
abbrev a9z (its:Array Value) (c:Nat):Obj:={ cls:=.type "list", dict:=none,data:=.seq its c,slots:=#[] }
def b2E (W:Walks prog w A.in1 I fp wr n P St) (bt:Nat->Nat->Bool) (hc:CmpOf prog w A.in1 .Gt P bt) (hS:S∉fp):
  ∀ (k j:Nat) (s:Shared) (vb:Value) (c:Nat),n=j+1+k->St (j+1) s.heap->P (QV bt j) vb->s.heap.get? S=some (a9z #[vb,vb] c) ->
   (∀ v h' tk,P (QV bt (n - 1)) v->(∀ b o,b∉wr->b≠S->s.heap.get? b=some o->h'.get? b=some o)->R (.ok (.ret v)) { s with heap:=h',toks:=tk }) ->
   yo (model prog w) A (.builtin "max.loop" ⟨[.ref I,.none,.ref S],kw⟩) R s:=by
 have nS:S∉wr:=λz=>hS (W.sub _ z);have nm:(toString "max" ++ toString ".loop" : String) = "max.loop":=by decide
 intro k
 induction k with
 | zero=>
  intro j s vb c en st pb eS fin;have en':j+1=n:=by omega
  apply k9 F.entry_max_loop;rw [qy ku _];show wpAny _ A.in1 (yz (.ref S)>>=_) _ _ s;apply q8;apply v6 eS rfl;show wpAny _ A.in1 (tryCatch (yf (.ref I)) _>>=_) _ _ s;apply q8;apply uq;refine W.done s _ _ (en'▸st) λh' tk kp=>?_;have eS':=kp S _ nS eS;show wpAny _ A.in1 (updateSeq S (λ_=>#[])>>=_) _ _ _;apply q8;refine uh eS' rfl (q8 (ua (j3 ?_)));exact fin vb _ tk (by rw [<-en'];exact pb) λb o hb hbS e=>(je _ _ (jJ hbS)).trans (kp b o hb e)
 | succ k ih=>
  intro j s vb c en st pb eS fin;have jn:j+1<n:=by omega
  apply k9 F.entry_max_loop;rw [qy ku _];show wpAny _ A.in1 (yz (.ref S)>>=_) _ _ s;apply q8;apply v6 eS rfl;show wpAny _ A.in1 (tryCatch (yf (.ref I)) _>>=_) _ _ s;apply q8;apply uq;refine W.item (j+1) s _ _ jn st λv h' tk pv st' kp=>?_;have eS':=kp S _ nS eS;show wpAny _ A.in1 (tryCatch (holding [v,v] (richCompare .Gt v vb>>=_)) _>>=_) _ _ _;apply q8;apply uq;apply v8;apply q8;refine hc (j+1) (QV bt j) v vb _ _ _ pv pb ?_;apply q8;apply v8;apply v9;refine q8 (ua (j3 ?_));cases hb:bt (j+1) (QV bt j) with
  | true=>
   simp only [if_true];apply q8;refine uh eS' rfl (q8 (ua ?_));rw [nm]
   refine j3 ⟨wx ku _,ih (j+1) _ v _ (by omega) (W.frame _ _ _ st' λb hbf o e=>(je _ _ (λz:S=b=>hS (by rw [z];exact hbf))).trans e)
    (by simp only [QV,hb,if_true];exact pv) (kA _ eS' rfl) λv' h'' tk'' pv' kp'=>?_⟩
   exact fin v' h'' tk'' pv' λb o hbw hbS e=>kp' b o hbw hbS ((je _ _ (jJ hbS)).trans (kp b o hbw e))
  | false=>
   simp only [qt,if_false];apply q8;apply ua;rw [nm];refine j3 ⟨wx ku _,ih (j+1) _ vb c (by omega) st' (by simp only [QV,hb,qt,if_false];exact pb) eS' λv' h'' tk'' pv' kp'=>?_⟩;exact fin v' h'' tk'' pv' λb o hbw hbS e=>kp' b o hbw hbS (kp b o hbw e)
def b0h (W:Walks prog w A.in1 I fp wr n P St) (bt:Nat->Nat->Bool) (hc:CmpOf prog w A.in1 .Gt P bt) (hS:S∉fp) (dv:Value) (dn:Str) {c:Nat} (st:St 0 s.heap) (eS:s.heap.get? S=some (a9z #[] c))
  (fin:∀ v h' tk,(∀ b o,b∉wr->b≠S->s.heap.get? b=some o->h'.get? b=some o)->(0<n->P (QV bt (n - 1)) v)->(n=0->v=dv)->R (.ok (.ret v)) { s with heap:=h',toks:=tk }):
  yo (model prog w) A (.builtin "max.loop" ⟨[.ref I,.none,.ref S],[(dn,dv)]⟩) R s:=by
 have nS:S∉wr:=λz=>hS (W.sub _ z);have nm:(toString "max" ++ toString ".loop" : String) = "max.loop":=by decide
 apply k9 F.entry_max_loop;rw [qy ku _];show wpAny _ A.in1 (yz (.ref S)>>=_) _ _ s;apply q8;apply v6 eS rfl;show wpAny _ A.in1 (tryCatch (yf (.ref I)) _>>=_) _ _ s;apply q8;apply uq;by_cases hn:n=0
 ·refine W.done s _ _ (by rw [hn];exact st) λh' tk kp=>?_
  show wpAny _ A.in1 (rule _>>=_) _ _ _;exact q8 (wp (j3 (fin dv h' tk (λb o hb _ e=>kp b o hb e) (λz=>by omega) λ_=>rfl)))
 ·refine W.item 0 s _ _ (by omega) st λv h' tk pv st' kp=>?_
  have eS':=kp S _ nS eS;show wpAny _ A.in1 (updateSeq S (λ_=>#[v,v])>>=_) _ _ _;apply q8;refine uh eS' rfl ?_;rw [nm]
  refine j3 ⟨wx ku _,b2E W bt hc hS (n - 1) 0 _ v _ (by omega) (W.frame _ _ _ st' λb hbf o e=>(je _ _ (λz:S=b=>hS (by rw [z];exact hbf))).trans e) pv
   (kA _ eS' rfl) λv' h'' tk'' pv' kp'=>?_⟩
  exact fin v' h'' tk'' (λb o hbw hbS e=>kp' b o hbw hbS ((je _ _ (jJ hbS)).trans (kp b o hbw e))) (λ_=>pv') λz=>absurd z hn
end
section
variable {Q:T0a}
def b1d (a v:Value):QQ "max" ⟨[a],[(qx "default", v)]⟩:=by unfold QQ;kernel_rfl
def b1b (dv:Value):Builtin.Builtins.bindParams "max" ["key", "default"] 0 ⟨[],[(qx "default", dv)]⟩=pure [none,some dv]:=by kernel_rfl
def b5N (hh:A.handled=none) (hl:s.heap.IsList l us.toArray) (hi:ud us ns) (dv:Value)
  (h:∀ h' v tk,(∀ b o,s.heap.get? b=some o->h'.get? b=some o)->(ns=[]->v=dv)->(ns≠[]->∃ t,v=.int (a4Q ns) t)->Q v { s with heap:=h',toks:=tk }):
  wpAny (model prog w) A (call (.builtin "max") [.ref l] [(qx "default", dv)]) Q E s:=by
 have nm:(toString "max" ++ toString ".loop" : String) = "max.loop":=by decide
 obtain ⟨xs,e,hns⟩:=a2q hi;rw [e] at hl;refine PyProof.Rows.kmk_tree F.kind_max F.plain_max F.entry_max (b1d _ _) ?_;show wpAny _ A.in1 (Builtin.Builtins.bindParams "max" ["key", "default"] 0 ⟨[],[(qx "default", dv)]⟩>>=_) _ _ s;refine q8 (ub (b1b dv) ?_);refine q8 (j3 ?_);refine q8 (iter_intList hl λs2z e2 st hfp hlI=>?_);subst e2;refine q8 (j8 ?_);rw [nm];have W:=Walks.list (prog:=prog) (w:=w) (A:=A.in1) hh s.heap.objs.size l hlI (intItems xs);refine j3 ⟨wx ku _,b0h W _ (CmpOf.ints_gt (numAt xs) (λ_ _=>intItems_at)) (λhm=>jK _ (hfp _ hm)) dv _ (W.frame _ _ _ st λb _ o e=>qD _ e) (qH _ rfl) λv h' tk kp h1 h2=>?_⟩;have sz:(intItems xs).size=xs.size:=by simp [intItems]
 have len:ns.length=xs.size:=by rw [hns];simp
 refine h h' v tk (λb o e=>?_) (λz=>h2 ?_) λz=>?_
 ·have lt:=qM e
  refine kp b o ?_ ?_ (qD _ (qD _ e))
  ·intro hb
   have z:b=s.heap.objs.size:=by simpa using hb
   exact absurd lt (by rw [z];exact jK _)
  ·intro hb
   rw [hb] at lt;exact absurd lt (zi (by rw [qu];exact jx _))
 ·rw [sz,<-len,z];rfl
 ·have pos:0<xs.size:=by
   rw [<-len];cases ns with
   | nil=>exact absurd rfl z
   | cons a r=>simp
  have pv:=h1 (by rw [sz];exact pos);obtain ⟨t,rfl⟩:=intItems_at pv;refine ⟨t,?_⟩;rw [sz];have best:=argBest_gt (numAt xs) (xs.size - 1);congr 1;refine a8U ?_ λa ha=>?_
  ·rw [hns,QU]
   exact getD_mem (by rw [qE,qP];have:=best.1;omega)
  ·rw [hns] at ha
   obtain ⟨j,hj,rfl⟩:=mem_getD ha;rw [qE,qP] at hj;rw [<-QU];exact best.2 j (by omega)
end
def a8K (hc:X.calm=true) (hm:X.mg "max" = none) (ha:PD X a ρ (.list (ns.map .int))) (hb:PD X b ρ db) (he:j4 [a] X.env=(false,eval a X.env)::j4 [] X.env:=by rfl)
  (he':v0 pos (j4 [a] X.env)=(false,eval a X.env)::v0 pos (j4 [] X.env):=by rfl) (hpl:(v0 pos (j4 [a] X.env)).any (·.1)=false:=by rfl)
  (hk1:(yq pos (wu [⟨some "default", b,kp⟩] X.env)).filterMap (·.1)=[qx "default"]:=by rfl) (hg:Gl X "max":=by rfl):
  PD X (.Call (.Name "max" p) [a] [⟨some "default", b,kp⟩] pos) ρ (if ns=[] then db else .int (a4Q ns)):=by
 refine ⟨?_⟩;intro H0 Gz G pz s σ H Q I R q;refine k6 (iG I hg hm boot_max ?_ (by decide) (by decide));refine callWith_kw (thn ((gQ ha mO he).run H0 Gz G pos pz s σ H (λvs H'=>∃ G',Grow G H G' H'/\RepAll X.K G' vs [.list (ns.map .int)]) I R λvs G' H' g r=>⟨G',g,r⟩) λus s1 ⟨vs,H1,I1,r1,G1,g1,w1⟩=>?_) he' hpl;refine thn (b5g (nm:=some "default") (kpos:=kp) hb.pe b8b pos pz s1 σ H1 (λzs H'=>∃ G',Grow G1 H1 G' H'/\RepAll X.K G' zs [db]) I1 ⟨H0,Gz,G1,R.more g1,λv G' H' g r=>⟨G',g,.cons r .nil⟩⟩) λws s2 ⟨zs,H2,I2,r2,G2,g2,w2⟩=>?_;rw [hk1];cases w1 with
 | cons wa wn=>
  cases wn;cases wa with
  | list hq ra=>
   have e:=ra.ints;subst e;obtain ⟨u,rfl,ru⟩:=vals1 r1;cases ru;cases w2 with
   | cons wb wn=>
    cases wn;obtain ⟨dv,rfl,rd⟩:=vals1 r2;obtain ⟨its,rv,pl,hz⟩:=I2.list ((g2.gg.trans g2.sub).seq hq);refine b5N (I2.ok.hd hc) pl.isList (intsAre_of rv) dv λh' v tk kp' h1 h2=>?_;by_cases hn:ns=[]
    ·rw [h1 hn,if_pos hn] at *
     exact ⟨_,H2,I2.kept kp',rd,q _ G2 H2 (g1.trans g2) wb⟩
    ·obtain ⟨t,rfl⟩:=h2 hn
     rw [if_neg hn] at q;exact ⟨.int _,H2,I2.kept kp',⟨t,rfl⟩,q _ G2 H2 (g1.trans g2) (.int _)⟩
section
def b5C:OpR X (yw .Add) (c0q X.K):=by
 intro pz s σ H x y v u Q I rx ry ⟨l,b,xs,zs,e1,e2,h1,h2,hz,q⟩;subst e1 e2;cases rx;cases ry;obtain ⟨its,r1,p1,_⟩:=I.list h1;obtain ⟨its2,r2,p2,_⟩:=I.list h2;obtain ⟨⟨c1,d1,t1,sl1⟩,n1,g1,k1,_,m1⟩:=p1;obtain ⟨⟨c2,d2,t2,sl2⟩,n2,g2,k2,_,m2⟩:=p2;dsimp only at k1 m1 k2 m2;subst k1 m1 k2 m2;have hz':its.toArray.size+its2.toArray.size<=j5:=by rw [qR,qR,<-r1.length,<-r2.length];exact hz
 refine QR ⟨_,g1,rfl⟩ ⟨_,g2,rfl⟩ noFill_list_add seq_list_add F.slot_list_add F.entry_list_add (F.args_list_add_2 _ _) (list_addW l b _ _ n1 n2 d1 d2 sl1 sl2 hz') ⟨g1,g2,?_⟩;have ea:its.toArray++its2.toArray=(its++its2).toArray:=by simp
 rw [ea];exact ⟨.ref _,_,I.lnew (t':=s.toks) (r1.append r2) (by rw [qf];exact hz),rfl,q _ I.fresh⟩
def c0o (K:qC):R2:=λx y H Q=>∃ l b xs zs,x=.ref l/\y=.ref b/\SqT K H l xs/\SqT K H b zs/\xs.length+zs.length<=j5 /\
 (xs=[]->Q (.ref b) H)/\(xs≠[]->zs=[]->Q (.ref l) H)/\(xs≠[]->zs≠[]->∀ p,H p=none->Q (.ref p) (upd H p (.tup (xs++zs))))
def b5A:OpR X (yw .Add) (c0o X.K):=by
 intro pz s σ H x y v u Q I rx ry ⟨l,b,xs,zs,e1,e2,h1,h2,hz,q0,q1,q2⟩;by_cases hx:xs=[]
 ·subst e1 e2
  cases rx;cases ry;obtain ⟨its,r1,p1,_⟩:=I.tuple h1;obtain ⟨its2,r2,p2,_⟩:=I.tuple h2;obtain ⟨⟨c1,d1,t1,sl1⟩,g1,k1,n1,m1⟩:=p1;obtain ⟨⟨c2,d2,t2,sl2⟩,g2,k2,n2,m2⟩:=p2;dsimp only at k1 m1 k2 m2;subst k1 m1 k2 m2;have hi:its=[]:=by
   subst hx;cases r1;rfl
  refine QR ⟨_,g1,rfl⟩ ⟨_,g2,rfl⟩ QL seq_tuple_add F.slot_tuple_add F.entry_tuple_add (F.args_tuple_add_2 _ _) (tuple_addW0 l b _ _ n1 n2 d1 d2 sl1 sl2 (by rw [hi];rfl)) ⟨g1,g2,?_⟩;exact ⟨.ref b,H,I,rfl,q0 hx⟩
 ·exact b5B pz s σ H x y v u Q I rx ry ⟨l,b,xs,zs,e1,e2,h1,h2,hx,hz,q1 hx,q2 hx⟩
variable {o:Expr}
def b6O:CmpD X .Eq (.int i) (.int j) (decide (i=j)):=⟨_,b2y,λx y G H Q _ rx ry q=>by cases rx;cases ry;exact ⟨rfl,by simpa using q⟩⟩
def b6I:CmpD X .NotEq (.int i) (.int j) (!decide (i=j)):=⟨_,b2x,λx y G H Q _ rx ry q=>by cases rx;cases ry;exact ⟨rfl,by simpa using q⟩⟩
def b6N {i j:Str}:CmpD X .Eq (.str i) (.str j) (decide (i=j)):=⟨_,b2y,λx y G H Q _ rx ry q=>by cases rx;cases ry;exact ⟨rfl,by simpa using q⟩⟩
def b6H {i j:Str}:CmpD X .NotEq (.str i) (.str j) (!decide (i=j)):=⟨_,b2x,λx y G H Q _ rx ry q=>by cases rx;cases ry;exact ⟨rfl,by simpa using q⟩⟩
def b6P {i j:Bool}:CmpD X .Eq (.bool i) (.bool j) (decide (i=j)):=⟨_,b2y,λx y G H Q _ rx ry q=>by cases rx;cases ry;exact ⟨rfl,by simpa using q⟩⟩
def b6J {i j:Bool}:CmpD X .NotEq (.bool i) (.bool j) (!decide (i=j)):=⟨_,b2x,λx y G H Q _ rx ry q=>by cases rx;cases ry;exact ⟨rfl,by simpa using q⟩⟩
end
structure Callee (P:Program) (w:World) (K:qC) (mg:T0d) (base:Heap) (x:Str) (k:Nat) (ps:T0q) (Fn:List j0->j0->Prop):Prop where
 ex:∃ f fd,mg x=some (.ref f)/\jj K (.ref f)=true/\Binds K fd ps []/\FnOk P w K mg base CX0 k f fd ps (spD K Fn)
structure Def (K:qC) (mg:T0d) (x:Str) (st:Stmt):Prop where
 ex:∃ f fd,Fun K x x st f fd/\mg x=some (.ref f)
def def_mk {K:qC} {h:Heap} {x:Str} {f:Addr} {kV:Value} (X:K.In h) (G:h.Ns j6 mg)
  (a:qv K j6 x=some (some (.ref f))) (l:K.lookup f=some ⟨oc,od,.func (jV x x (eK st) (bR st) (aD st) .none kV doc pm an cdv ct),sl⟩) (c:zA K cdv x=true) (k:jj K (.ref f)=true):
  Def K mg x st:=⟨f,_,a4Y l c k,PySem.W.mg_of X G a⟩
section
variable {K:qC} {x:Str} {Fn:List j0->j0->Prop}
end
def b3A (a b:T0l):jd (.list a) (.list b)=ko a b:=by rw [jd]
def xX (h:∀ d∈ds,jH d=true):km ds=true:=by
 induction ds with
 | nil=>rfl
 | cons d r ih=>
  rw [km,h d qY,ih λe he=>h e (qF _ he)];rfl
def a0T (h:∀ d∈ds,kI d<=n):zY ds<=n:=by
 induction ds with
 | nil=>simp [zY]
 | cons d r ih=>
  have h1:=h d qY;have h2:=ih λe he=>h e (qF _ he);simp only [zY];omega
def a3n (h1:jH d=true) (h2:kI d<=n) (h3:n<=64):qp d=true:=by
 unfold qp;rw [h1,vU];exact decide_eq_true (qi h2 h3)
section
variable {o:Expr}
def cutD (xs:T0l) (lo hi:Option Int):List j0:=(xs.drop (HT.sIx xs.length 0 lo)).take (HT.sIx xs.length xs.length hi - HT.sIx xs.length 0 lo)
def a2F {K:qC} (r:RepAll K G xs ds) (lo hi:Option Int):RepAll K G (a6J xs lo hi) (cutD ds lo hi):=by
 unfold a6J cutD;rw [r.length];exact (r.drop _).take _
def a4g (ds:T0l) {k:Int} (h:0<=k):cutD ds (some k) none=ds.drop k.toNat:=by
 have e:HT.sIx ds.length 0 (some k)=min k.toNat ds.length:=by
  show (if k<0 then (k+(ds.length:Int)).toNat else min k.toNat ds.length)=_;rw [if_neg (by omega)]
 unfold cutD;rw [e,HT.sIx_none];by_cases hk:k.toNat<=ds.length
 ·rw [Nat.min_eq_left hk,jY (by rw [zj];exact qN _)]
 ·rw [Nat.min_eq_right (by omega),zQ (qN _),zQ (by omega),List.take_nil]
def b0K (ds:T0l) {k:Int} (h:0<=k):cutD ds none (some k)=ds.take k.toNat:=by
 have e:HT.sIx ds.length ds.length (some k)=min k.toNat ds.length:=by
  show (if k<0 then (k+(ds.length:Int)).toNat else min k.toNat ds.length)=_;rw [if_neg (by omega)]
 unfold cutD;rw [e,HT.sIx_none,List.drop_zero,Nat.sub_zero];by_cases hk:k.toNat<=ds.length
 ·rw [Nat.min_eq_left hk]
 ·rw [Nat.min_eq_right (by omega),jY (qN _),jY (by omega)]
def b3k:inV (.int i) (ns.map V.int)=decide (i∈ns):=by
 unfold inV
 induction ns with
 | nil=>rfl
 | cons a r ih=>
  rw [qI,kY,ih];have e:eqV (.int a) (.int i)=decide (a=i):=rfl;rw [e];by_cases h:a=i
  ·subst h;simp
  ·have h':¬i=a:=λz=>h z.symm
   simp [h,h']
def b3j {ns:T0q} {i:Str}:inV (.str i) (ns.map V.str)=decide (i∈ns):=by
 unfold inV
 induction ns with
 | nil=>rfl
 | cons a r ih=>
  rw [qI,kY,ih];have e:eqV (.str a) (.str i)=(a==i):=rfl;rw [e];by_cases h:a=i
  ·subst h;simp
  ·have h':¬i=a:=λz=>h z.symm
   simp [h,h']
def b0C (ns:T0s):(ns.map V.int).all rF=true:=by simp [rF]
def b0B (ns:T0q):(ns.map V.str).all rF=true:=by simp [rF]
end
def tyD:j0->String
 | .none => "NoneType"
 | .bool _ => "bool"
 | .int _ => "int"
 | .str _ => "str"
 | .list _ => "list"
 | .tuple _ => "tuple"
 | .dict _ => "dict"
example (K:qC):zX K (.type "int") (.type "int")=some true:=by rfl
example (K:qC):zX K (.type "bool") (.type "int")=some true:=by rfl
example (K:qC):zX K (.type "str") (.type "int")=some false:=by rfl
section
variable {o:Expr}
def b3e {Q:T0a} {cv u:Value} (I:Inv X pz σ H s) (r:Rep X.K H v d) (hn:∀ D,d≠.dict D) (rx:RelV v u)
  (e:zX X.K (.type (tyD d)) cv=some t) (h:∀ tk,Q (.bool t) { s with toks:=tk }):wpAny (model X.prog X.w) A (call (.builtin "isinstance") [u,cv]) Q E s:=by
 cases r with
 | none=>exact tI I rx .non e h
 | bool x=>exact tI I rx (.bl x) e h
 | int x=>exact tI I rx (.int x) e h
 | str x=>exact tI I rx (.str x) e h
 | list hq ra=>
  cases rx;obtain ⟨its,_,⟨o,n,e1,e2,_⟩,_⟩:=I.list hq;exact jO wK I.kIn ⟨o,e1,e2⟩ e (λz=>nomatch z) h
 | tuple hq ra=>
  cases rx;obtain ⟨its,_,⟨o,e1,e2,_⟩,_⟩:=I.tuple hq;exact jO PySem.W.kitx_tuple I.kIn ⟨o,e1,e2⟩ e (λz=>nomatch z) h
 | dict hq _ _=>exact absurd rfl (hn _)
 | fil hq _=>exact absurd rfl (hn _)
end
theorem a4r:∀ {bs:List Bool} {us:T0m},bB (bs.map V.bl) us->us=bs.map kZ
 | [],_,r=>by cases r;rfl
 | b::bs,_,r=>by
  cases r with
  | cons r1 r2=>cases r1;rw [a4r r2];rfl
def range_all (bs:List Bool):((qm bs.length).all λi=>bs.getD i false)=bs.all id:=by
 rw [kX];simp only [qe,jp];constructor
 ·intro h b hb
  obtain ⟨i,hi,rfl⟩:=jz.mp hb;have:=h i hi;simpa [zw,qK hi] using this
 ·intro h i hi
  have:=h bs[i] (jy hi);simpa [zw,qK hi] using this
section
variable {o:Expr}
def b0T (hc:X.calm=true):iP X (.builtin "all") (λxs H Q=>∃ (p:Addr) (bs:List Bool),xs=[.ref p]/\SqL X.K H p (bs.map V.bl)/\Q (.bl (bs.all id)) H):=by
 intro pz s σ H xs us Q I r ⟨p,bs,e,hq,q⟩;subst e;obtain ⟨u,rfl,rx⟩:=vals1 r;cases rx;obtain ⟨its,rv,pl,hz⟩:=I.list hq;have ev:=a4r rv;subst ev;have hl:=pl.isList;have lt:p<s.heap.objs.size:=by obtain ⟨o,g,_⟩:=hl;exact qM g
 refine call_all_walk (ym hl ?_);refine ⟨s.heap.objs.size,_,_,_,_,_,λi=>bs.getD i false,rfl,Walks.list (A:=X.A.in1) (I.ok.hd hc) _ p (qW lt) (bs.map kZ).toArray,⟨⟨_,qH _ rfl,rfl,rfl⟩,hl.push _⟩,λi v s' Q' E' hP hQ=>?_,λh' tk kp=>?_⟩
 ·have hP:(bs.map kZ).toArray[i]?=some v:=hP
  rw [jG,qQ] at hP;cases eb:bs[i]? with
  | none=>rw [eb] at hP;cases hP
  | some b=>
   rw [eb] at hP;cases hP;refine v9 ?_;have:bs.getD i false=b:=by rw [zw,eb];rfl
   rw [<-this];exact hQ
 ·have sz:(bs.map kZ).toArray.size=bs.length:=by simp
  rw [sz,range_all];refine ⟨.bl _,H,I.kept (λb o g=>kp b o ?_ (qD _ g)),rfl,q⟩;intro hb;have z:b=s.heap.objs.size:=by simpa using hb
  exact absurd (qM g) (by rw [z];exact jK _)
theorem oZ {K:qC} {G:Hp}:∀ ns:List Int,RepAll K G (ns.map V.int) (ns.map .int)
 | []=>.nil
 | _::r=>.cons (.int _) (oZ r)
def sortI (ns:T0s):List Int:=ns.mergeSort (λa b=>decide (a<=b))
def sortI_perm (ns:T0s):(sortI ns).Perm ns:=vy _ _
def a4y (ns:T0s):(sortI ns).Pairwise (·<=·):=by
 have h:=vN (le:=λ(a b:Int)=>decide (a<=b)) (λa b c h1 h2=>by simp only [decide_eq_true_eq] at *;omega) (λa b=>by simp only [vj,decide_eq_true_eq];omega) ns;exact h.imp λh=>by simpa using h
def sortI_eq {ms:T0s} (hp:ms.Perm ns) (hs:ms.Pairwise (·<=·)):ms=sortI ns:=PySem.W.ksm_same (hp.trans (sortI_perm ns).symm) hs (a4y ns)
end
section
variable {x:Str}
def b6K {i j:Str}:CmpD X .LtE (.str i) (.str j) (!decide (j.cps.toList<i.cps.toList)):=⟨λx y H Q=>∃ i j,x=V.str i/\y=V.str j/\Q (.bl (!decide (j.cps.toList<i.cps.toList))) H,by
 intro pz s σ H x y v u Q I rx ry ⟨i,j,e1,e2,q⟩;subst e1 e2;obtain ⟨t,rfl⟩:=rx;obtain ⟨t',rfl⟩:=ry
 exact PySem.P.le_str ⟨.bl _,H,I,rfl,q⟩,λx y G H Q _ rx ry q=>by cases rx;cases ry;exact ⟨_,_,rfl,rfl,q⟩⟩
end
def c1n (X:Cx) (b:Addr):Prop:=(b∈X.ex\/X.s₀.heap.get? b=none)/\∀ p∈X.pn,p.1≠b
def c1p (fr:Addr->Prop) (fl:Value) (H:Hp) (a C:Addr) (h:Heap):Prop:=
 fr a/\H a=none/\∃ oe vs a0 T oT ts,h.get? a=some oe/\oe.cls=.ref C/\oe.data=.fields vs/\vs[0]?=some a0 /\
  vs[1]?=some (.ref T)/\fr T/\H T=none/\T≠a/\h.get? T=some oT/\oT.data=.fields ts/\ts[3]?=some fl
def ExcAt (fr:Addr->Prop) (H:Hp) (a C:Addr) (h:Heap):Prop:=
 (fr a/\H a=none/\∃ oe vs a0,h.get? a=some oe/\oe.cls=.ref C/\oe.data=.fields vs/\vs[0]?=some a0/\vs[1]?=some .none)\/c1p fr .none H a C h
def b7a (X:Cx) (fr:Addr->Prop) (H:Hp) (a C:Addr) (h:Heap):Prop:=ExcAt fr H a C h\/∃ L,X.env.frame=some L/\c1p fr (v7 L) H a C h
def c1o (X:Cx) (c:Str) (e:Value) (H:Hp) (s:Shared):Prop:=∃ a C,e=.ref a/\c1c X.K c=some C/\b7a X (c1n X) H a C s.heap
section
variable {σ:List (Option V)} {a:Addr} {fr:Addr->Prop}
end
inductive Re (α:Type) where
 | ok (a:α)
 | ex (c:Str)
abbrev Mm (α:Type):=Option (Re α)
abbrev ret {α:Type} (a:α):Mm α:=some (.ok a)
def bnd {α β:Type} (m:Mm α) (k:α->Mm β):Mm β:=match m with
 | some (.ok a)=>k a
 | some (.ex c)=>some (.ex c)
 | none=>none
def lft {α:Type} (o:Option α):Mm α:=match o with
 | some a=>some (.ok a)
 | none=>none
abbrev EF:=List Ent->Mm j0
abbrev TF:=List Ent->Mm Bool
abbrev AF:=List Ent->Mm (List j0)
section
variable {α β:Type}
def eV {m:Mm α} {k:α->Mm β} {r:Re β} (h:bnd m k=some r):(∃ a,m=some (.ok a)/\k a=some r)\/∃ c,m=some (.ex c)/\r=.ex c:=by
 match m,h with
 | some (.ok a),h=>exact .inl ⟨a,rfl,h⟩
 | some (.ex c),h=>exact .inr ⟨c,rfl,(qB h).symm⟩
 | none,h=>cases h
def bL {o:Option α} {r:Re α} (h:lft o=some r):∃ a,o=some a/\r=.ok a:=by
 match o,h with
 | some a,h=>exact ⟨a,rfl,(qB h).symm⟩
 | none,h=>cases h
end
def nN (X:Cx) (H0 Gz G:Hp) (ρ:List Ent) (c:Str):Prop:=
 ∀ (pz:T0b) (s':Shared) (σ:St) (H' G':Hp) (e:Value),Inv X pz σ H' s'->RepS X.K H0 Gz G' H' σ ρ->bG G G'->c1o X c e H' s'->X.xe e s'
def nN.mono {c:Str} (h:nN X H0 Gz G ρ c) (s:bG G G'):nN X H0 Gz G' ρ c:=
 λpz s' σ H' G2 e I R g x=>h pz s' σ H' G2 e I R (s.trans g) x
def b1g (X:Cx) (H0 Gz G:Hp) (ρ:List Ent) (H:Hp) (Q:VK):Re j0->Prop
 | .ok d=>∀ v G' H',Grow G H G' H'->Rep X.K G' v d->Q v H'
 | .ex c=>nN X H0 Gz G ρ c
def b1f (X:Cx) (H0 Gz G:Hp) (ρ:List Ent) (H:Hp) (Q:Bool->Hp->Prop):Re Bool->Prop
 | .ok b=>∀ G' H',Grow G H G' H'->Q b H'
 | .ex c=>nN X H0 Gz G ρ c
def b1h (X:Cx) (H0 Gz G:Hp) (ρ:List Ent) (H:Hp) (Q:List V->Hp->Prop):Re (List j0)->Prop
 | .ok ds=>∀ vs G' H',Grow G H G' H'->RepAll X.K G' vs ds->Q vs H'
 | .ex c=>nN X H0 Gz G ρ c
def rE (X:Cx) (f:EF):TE:=λσ H Q=>∃ ρ r H0 Gz G,f ρ=some r/\RepS X.K H0 Gz G H σ ρ/\b1g X H0 Gz G ρ H Q r
def rT (X:Cx) (f:TF):TT:=λσ H Q=>∃ ρ r H0 Gz G,f ρ=some r/\RepS X.K H0 Gz G H σ ρ/\b1f X H0 Gz G ρ H Q r
def rA (X:Cx) (f:AF):TA:=λσ H Q=>∃ ρ r H0 Gz G,f ρ=some r/\RepS X.K H0 Gz G H σ ρ/\b1h X H0 Gz G ρ H Q r
structure DE (X:Cx) (e:Expr) (f:EF):Prop where
 run:PE X e (rE X f)
structure DT (X:Cx) (e:Expr) (f:TF):Prop where
 run:PT X e (rT X f)
structure DW (X:Cx) (e:Expr) (f:TF):Prop where
 run:PW X e (rT X f)
structure DA (X:Cx) (es:T0n) (f:AF):Prop where
 run:PA X es (rA X f)
variable {r:Re j0} {fa:EF} {T:VK}
theorem b1g.more (q:b1g X H0 Gz G ρ H Q r) (g:Grow G H G1 H1):b1g X H0 Gz G1 ρ H1 Q r:=by
 cases r with
 | ok d=>exact λv G' H' g' rv=>q v G' H' (g.trans g') rv
 | ex c=>exact nN.mono q g.gg
theorem b1f.more {Q:Bool->Hp->Prop} {r:Re Bool} (q:b1f X H0 Gz G ρ H Q r) (g:Grow G H G1 H1):b1f X H0 Gz G1 ρ H1 Q r:=by
 cases r with
 | ok d=>exact λG' H' g'=>q G' H' (g.trans g')
 | ex c=>exact nN.mono q g.gg
theorem b1h.more {Q:List V->Hp->Prop} {r:Re (List j0)} (q:b1h X H0 Gz G ρ H Q r) (g:Grow G H G1 H1):b1h X H0 Gz G1 ρ H1 Q r:=by
 cases r with
 | ok d=>exact λv G' H' g' rv=>q v G' H' (g.trans g') rv
 | ex c=>exact nN.mono q g.gg
def bE {β:Type} {k:j0->Mm β} {r:Re β} (R:RepS X.K H0 Gz G H σ ρ) (e:bnd (fa ρ) k=some r) (hx:∀ c,r=.ex c->nN X H0 Gz G ρ c)
  (h:∀ x v G1 H1,Grow G H G1 H1->RepS X.K H0 Gz G1 H1 σ ρ->Rep X.K G1 v x->k x=some r->T v H1):rE X fa σ H T:=by
 rcases eV e with ⟨x,e1,e2⟩ | ⟨c,e1,e2⟩
 ·exact ⟨ρ,_,H0,Gz,G,e1,R,λv G1 H1 g1 rv=>h x v G1 H1 g1 (R.more g1) rv e2⟩
 ·exact ⟨ρ,_,H0,Gz,G,e1,R,hx c e2⟩
def bT {fa:TF} {β:Type} {k:Bool->Mm β} {r:Re β} (R:RepS X.K H0 Gz G H σ ρ) (e:bnd (fa ρ) k=some r) {T:Bool->Hp->Prop} (hx:∀ c,r=.ex c->nN X H0 Gz G ρ c)
  (h:∀ x G1 H1,Grow G H G1 H1->RepS X.K H0 Gz G1 H1 σ ρ->k x=some r->T x H1):rT X fa σ H T:=by
 rcases eV e with ⟨x,e1,e2⟩ | ⟨c,e1,e2⟩
 ·exact ⟨ρ,_,H0,Gz,G,e1,R,λG1 H1 g1=>h x G1 H1 g1 (R.more g1) e2⟩
 ·exact ⟨ρ,_,H0,Gz,G,e1,R,hx c e2⟩
def bA {fa:AF} {β:Type} {k:List j0->Mm β} {r:Re β} (R:RepS X.K H0 Gz G H σ ρ) (e:bnd (fa ρ) k=some r) {T:List V->Hp->Prop} (hx:∀ c,r=.ex c->nN X H0 Gz G ρ c)
  (h:∀ x v G1 H1,Grow G H G1 H1->RepS X.K H0 Gz G1 H1 σ ρ->RepAll X.K G1 v x->k x=some r->T v H1):rA X fa σ H T:=by
 rcases eV e with ⟨x,e1,e2⟩ | ⟨c,e1,e2⟩
 ·exact ⟨ρ,_,H0,Gz,G,e1,R,λv G1 H1 g1 rv=>h x v G1 H1 g1 (R.more g1) rv e2⟩
 ·exact ⟨ρ,_,H0,Gz,G,e1,R,hx c e2⟩
theorem b1g.x (q:b1g X H0 Gz G ρ H Q r):∀ c,r=.ex c->nN X H0 Gz G ρ c:=λc e=>by subst e;exact q
theorem b1f.x {Q:Bool->Hp->Prop} {r:Re Bool} (q:b1f X H0 Gz G ρ H Q r):∀ c,r=.ex c->nN X H0 Gz G ρ c:=λc e=>by subst e;exact q
theorem b1h.x {Q:List V->Hp->Prop} {r:Re (List j0)} (q:b1h X H0 Gz G ρ H Q r):∀ c,r=.ex c->nN X H0 Gz G ρ c:=λc e=>by subst e;exact q
variable {fb fc:EF} {f:AF} {op:Operator} {g:j0->j0->Option Bool}
def a4e {f:EF} (h:∀ ρ r,f ρ=some r->∃ d,r=.ok d/\PD X e ρ d):DE X e f:=⟨λpz s σ H Q I ⟨ρ,r,H0,Gz,G,ef,R,q⟩=>by
 obtain ⟨d,rfl,hd⟩:=h ρ r ef
 exact hd.run H0 Gz G pz s σ H Q I R q⟩
theorem DE.pd {f:EF} (h:DE X e f) (q:f ρ=some (.ok d)):PD X e ρ d:=⟨λH0 Gz G pz s σ H Q I R k=>h.run pz s σ H Q I ⟨ρ,_,H0,Gz,G,q,R,k⟩⟩
theorem DT.ptd {f:TF} (h:DT X e f) {d:Bool} (q:f ρ=some (.ok d)):PTD X e ρ d:=⟨λH0 Gz G pz s σ H Q I R k=>h.run pz s σ H Q I ⟨ρ,_,H0,Gz,G,q,R,k⟩⟩
def cst (d:j0):EF:=λ_=>some (.ok d)
def var (i:Nat):EF:=λρ=>match ρ[i]? with
 | some (.val d)=>some (.ok d)
 | _=>none
def aK {j:_}:DE X (.Constant (.int i) j pos) (cst (.int i)):=a4e λρ r e=>⟨_,(qB e).symm,b8n⟩
def iJ {x:Str} {j:_}:DE X (.Constant (.str x) j pos) (cst (.str x)):=a4e λρ r e=>⟨_,(qB e).symm,b8m⟩
def fB {x:Bool} {j:_}:DE X (.Constant (.bool x) j pos) (cst (.bool x)):=a4e λρ r e=>⟨_,(qB e).symm,b5t⟩
def pQ {j:_}:DE X (.Constant .none j pos) (cst .none):=a4e λρ r e=>⟨_,(qB e).symm,b5r⟩
def b7E {i:Nat} (h:var i ρ=some r):∃ d,r=.ok d/\ρ[i]?=some (.val d):=by
 unfold var at h;split at h
 ·rename_i d e;exact ⟨d,(qB h).symm,e⟩
 ·cases h
def aB (i:Nat) {x:Str} (hN:X.N[i]?=some x:=by rfl) (hv:Vis X.env.scope x:=by first | exact jw rfl | exact jP (jw rfl) | exact jP (jP rfl)) (hd:(x==("__debug__" : Str))=false:=by decide)
  (hcd:(x==("__classdict__" : Str))=false:=by decide):DE X (.Name x pos) (var i):=a4e λρ r e=>by
 obtain ⟨d,e1,e2⟩:=b7E e;exact ⟨d,e1,b8l i e2 hN hv hd hcd⟩
structure OpD (X:Cx) (op:Operator) (x y d:j0):Prop where
 ex:∃ r:R2,OpR X (yw op) r/\∀ v u G H Q,bG G H->Rep X.K G v x->Rep X.K G u y->(∀ w G' H',Grow G H G' H'->Rep X.K G' w d->Q w H')->r v u H Q
def op2 (g:j0->j0->Option j0) (fa fb:EF):EF:=λρ=>bnd (fa ρ) λx=>bnd (fb ρ) λy=>lft (g x y)
def xG {f:Value->Value->Sem Value}:OpR X f (λv u H Q=>∃ r,OpR X f r/\r v u H Q):=λpz s σ H x y v u Q I rx ry ⟨_,h,q⟩=>h pz s σ H x y v u Q I rx ry q
def bK {g:j0->j0->Option j0} (hg:∀ x y d,g x y=some d->OpD X op x y d) (ha:DE X a fa) (hb:DE X b fb):DE X (.BinOp a op b pos) (op2 g fa fb):=
 ⟨λpz s σ H Q I ⟨ρ,r,H0,Gz,G,e,R,q⟩=>c0y xG ha.run hb.run pz s σ H Q I (bE R e q.x λx v G1 H1 g1 R1 rv e1=>bE R1 e1 (q.more g1).x λy u G2 H2 g2 R2 ru e2=>by
  obtain ⟨d,ed,rfl⟩:=bL e2;obtain ⟨r,h1,h2⟩:=(hg x y d ed).ex
  exact ⟨r,h1,h2 v u G2 H2 Q g2.sub (rv.mono g2.gg) ru λw G' H' g' rw'=>q w G' H' ((g1.trans g2).trans g') rw'⟩)⟩
def aI:AF:=λ_=>some (.ok [])
def aC (f:EF) (g:AF):AF:=λρ=>bnd (f ρ) λx=>bnd (g ρ) λxs=>some (.ok (x::xs))
def aF:DA X [] aI:=⟨λpos pz s σ H Q I ⟨ρ,r,H0,Gz,G,e,R,q⟩=>pA pos pz s σ H Q I (by
 cases (qB e);exact q [] G H (.refl R.sub) .nil)⟩
def aA (ha:DE X e fa) (hr:DA X es f) (hs:j4 (e::es) X.env=(false,eval e X.env)::j4 es X.env:=by rfl):DA X (e::es) (aC fa f):=
 ⟨λpos pz s σ H Q I ⟨ρ,r,H0,Gz,G,e,R,q⟩=>iY ha.run hr.run hs pos pz s σ H Q I (bE R e q.x λx v G1 H1 g1 R1 rv e1=>bA R1 e1 (q.more g1).x λys us G2 H2 g2 R2 ru e2=>by
  cases (qB e2)
  exact q _ G2 H2 (g1.trans g2) (.cons (rv.mono g2.gg) ru))⟩
def eF (n:Nat):Bool:=decide (n<=100000)
def iV (h:eF n=true):n<=j5:=qi (of_decide_eq_true h) (by decide)
def a8v (h:eF n=true):n<j5:=zM (of_decide_eq_true h) (by decide)
def a0I (ds:T0l):Option j0:=if eF ds.length then some (.tuple ds) else none
def a3D (ds:T0l):Option j0:=if eF ds.length then some (.list ds) else none
def dP (f:AF):EF:=λρ=>bnd (f ρ) λxs=>lft (a0I xs)
def yZ (f:AF):EF:=λρ=>bnd (f ρ) λxs=>lft (a3D xs)
def b2F (h:a0I ds=some d):d=.tuple ds/\ds.length<=j5:=by
 unfold a0I at h;split at h
 ·rename_i z;exact ⟨(qB h).symm,iV z⟩
 ·cases h
def b2G (h:a3D ds=some d):d=.list ds/\ds.length<=j5:=by
 unfold a3D at h;split at h
 ·rename_i z;exact ⟨(qB h).symm,iV z⟩
 ·cases h
def bN {x1:_} (h:DA X es f):DE X (.Tuple es x1 pos) (dP f):=⟨λpz s σ H Q I ⟨ρ,r,H0,Gz,G,e,R,q⟩=>b8e h.run pz s σ H Q I (bA R e q.x λxs vs G1 H1 g1 R1 rv e1=>by
 obtain ⟨d,ed,rfl⟩:=bL e1;obtain ⟨rfl,hz⟩:=b2F ed
 exact ⟨by rw [rv.length];exact hz,λp hp=>q _ _ _ (g1.trans (.put g1.sub hp)) (.tuple (.of aG) (rv.mono (bF (g1.sub.free hp))))⟩)⟩
def nF (h:DA X es f):DE X (.List es pos) (yZ f):=⟨λpz s σ H Q I ⟨ρ,r,H0,Gz,G,e,R,q⟩=>a4H h.run pz s σ H Q I (bA R e q.x λxs vs G1 H1 g1 R1 rv e1=>by
 obtain ⟨d,ed,rfl⟩:=bL e1;obtain ⟨rfl,hz⟩:=b2G ed
 exact ⟨by rw [rv.length];exact hz,λp hp=>q _ _ _ (g1.trans (.put g1.sub hp)) (.list (.of aG) (rv.mono (bF (g1.sub.free hp))))⟩)⟩
def a8h (g:j0->j0->Option Bool) (fa fb:EF):EF:=λρ=>bnd (fa ρ) λx=>bnd (fb ρ) λy=>lft ((g x y).map .bool)
def iC (g:j0->j0->Option Bool) (fa fb:EF):TF:=λρ=>bnd (fa ρ) λx=>bnd (fb ρ) λy=>lft (g x y)
def a5j {op:CmpOp} (hg:∀ x y t,g x y=some t->CmpD X op x y t) (ha:DE X a fa) (hb:DE X b fb) (hm:ww op b=false:=by first | exact b2A _ | with_unfolding_all rfl):DE X (.Compare a [op] [b] pos) (a8h g fa fb):=
 ⟨λpz s σ H Q I ⟨ρ,r,H0,Gz,G,e,R,q⟩=>b5p xG ha.run hb.run hm pz s σ H Q I (bE R e q.x λx v G1 H1 g1 R1 rv e1=>bE R1 e1 (q.more g1).x λy u G2 H2 g2 R2 ru e2=>by
  obtain ⟨d,ed,rfl⟩:=bL e2;obtain ⟨t,et,rfl⟩:=qO.mp ed;obtain ⟨r,h1,h2⟩:=(hg x y t et).ex
  exact ⟨r,h1,h2 v u G2 H2 Q g2.sub (rv.mono g2.gg) ru (q _ _ _ (g1.trans g2) (.bool _))⟩)⟩
def cI {op:CmpOp} (hg:∀ x y t,g x y=some t->CmpD X op x y t) (ha:DE X a fa) (hb:DE X b fb) (hm:ww op b=false:=by first | exact b2A _ | with_unfolding_all rfl):DT X (.Compare a [op] [b] pos) (iC g fa fb):=
 ⟨λpz s σ H Q I ⟨ρ,r,H0,Gz,G,e,R,q⟩=>b5a xG ha.run hb.run hm pz s σ H Q I (bE R e q.x λx v G1 H1 g1 R1 rv e1=>bE R1 e1 (q.more g1).x λy u G2 H2 g2 R2 ru e2=>by
  obtain ⟨t,et,rfl⟩:=bL e2;obtain ⟨r,h1,h2⟩:=(hg x y t et).ex
  exact ⟨r,h1,h2 v u G2 H2 _ g2.sub (rv.mono g2.gg) ru ⟨_,rfl,q _ _ (g1.trans g2)⟩⟩)⟩
def c2E (g g':j0->j0->Option Bool) (fa fb fc:EF):EF:=λρ=>bnd (fa ρ) λx=>bnd (fb ρ) λy=>bnd (lft (g x y)) λt=>if t then bnd (fc ρ) λz=>lft ((g' y z).map .bool) else some (.ok (.bool false))
def b4m (g g':j0->j0->Option Bool) (fa fb fc:EF):TF:=λρ=>bnd (fa ρ) λx=>bnd (fb ρ) λy=>bnd (lft (g x y)) λt=>if t then bnd (fc ρ) λz=>lft (g' y z) else some (.ok false)
def b9n {op op':CmpOp} {g':j0->j0->Option Bool} (hg:∀ x y t,g x y=some t->CmpD X op x y t) (hg':∀ x y t,g' x y=some t->CmpD X op' x y t) (ha:DE X a fa) (hb:DE X b fb) (hc:DE X c fc)
  (hm:lastMarks [op,op'] [b,c]=false:=by with_unfolding_all rfl):DT X (.Compare a [op,op'] [b,c] pos) (b4m g g' fa fb fc):=
 ⟨λpz s σ H Q I ⟨ρ,r,H0,Gz,G,e,R,q⟩=>b2a xG xG ha.run hb.run hc.run hm pz s σ H Q I (bE R e q.x λx v G1 H1 g1 R1 rv e1=>bE R1 e1 (q.more g1).x λy u G2 H2 g2 R2 ru e2=>by
  rcases eV e2 with ⟨t,et,e3⟩ | ⟨c,et,_⟩
  ·obtain ⟨t',et',z⟩:=bL et
   cases z;obtain ⟨r1,h1,h2⟩:=(hg x y _ et').ex;refine ⟨r1,h1,h2 v u G2 H2 _ g2.sub (rv.mono g2.gg) ru ⟨_,rfl,?_⟩⟩;cases t with
   | false=>rw [if_neg (by decide)] at e3;cases (qB e3);exact c2n ⟨false,rfl,q _ _ (g1.trans g2)⟩
   | true=>
    rw [if_pos rfl] at e3;refine c2m ?_;exact bE R2 e3 ((q.more g1).more g2).x λz w G3 H3 g3 R3 rw' e4=>by
     obtain ⟨t,et,rfl⟩:=bL e4;obtain ⟨r2,h3,h4⟩:=(hg' y z t et).ex;exact ⟨r2,h3,h4 u w G3 H3 _ g3.sub (ru.mono g3.gg) rw' ⟨_,rfl,q _ _ ((g1.trans g2).trans g3)⟩⟩
  ·obtain ⟨_,_,z⟩:=bL et;cases z)⟩
variable {ft fu:TF}
section
variable {rest:T0n}
def a2X:j0->Option Bool
 | .none=>some false
 | .bool b=>some b
 | .int i=>some (i != 0)
 | .str x=>if eF x.length then some ((x.length:Int) != 0) else none
 | .list ds=>some (!ds.isEmpty)
 | .tuple ds=>some (!ds.isEmpty)
 | .dict _=>none
def a3t {K:qC} {vs:List V} (r:RepAll K G vs ds):ds.isEmpty=vs.isEmpty:=by
 have h:=r.length;cases vs<;>cases ds<;>simp at h ⊢
def b4D {K:qC} (s:bG G H) (r:Rep K G v d) (h:a2X d=some t):b9J K v H t:=by
 cases r with
 | none=>exact (qB h).symm
 | bool b=>exact (qB h).symm
 | int i=>exact (qB h).symm
 | str x=>
  have h:(if eF x.length=true then some ((x.length:Int) != 0) else none)=some t:=h;split at h
  ·rename_i z;exact ⟨iV z,(qB h).symm⟩
  ·cases h
 | list hq r=>exact .inl ⟨_,s.seq hq,by rw [<-a3t r];exact (qB h).symm⟩
 | tuple hq r=>exact .inr (.inl ⟨_,nV s hq,by rw [<-a3t r];exact (qB h).symm⟩)
 | dict _ _ _=>cases h
 | fil _ _=>cases h
def tO (fa:EF):TF:=λρ=>bnd (fa ρ) λx=>lft (a2X x)
def sJ (ha:DE X a fa) (he:∀ whole,isTrue a X.env whole=(do let v <-whole;Qb a.pos;holding [v] (truthy v)):=by intro _;rfl):DT X a (tO fa):=
 ⟨λpz s σ H Q I ⟨ρ,r,H0,Gz,G,e,R,q⟩=>a5N ha.run he pz s σ H Q I (bE R e q.x λx v G1 H1 g1 R1 rv e1=>by
  obtain ⟨t,et,rfl⟩:=bL e1
  exact ⟨t,b4D g1.sub rv et,q _ _ g1⟩)⟩
def b5G (ft:TF):TF:=λρ=>bnd (ft ρ) λt=>some (.ok (!t))
def b9m (ha:DT X a ft):DT X (.UnaryOp .Not a pos) (b5G ft):=
 ⟨λpz s σ H Q I ⟨ρ,r,H0,Gz,G,e,R,q⟩=>b7X ha.run pz s σ H Q I (bT R e q.x λt G1 H1 g1 R1 e1=>by
  cases (qB e1);exact q _ _ g1)⟩
def oH:j0->Option Bool
 | .bool b=>some b
 | _=>none
def b5H (fa:EF):EF:=λρ=>bnd (fa ρ) λx=>lft ((oH x).map λt=>.bool (!t))
def yB (h:oH d=some t):d=.bool t:=by
 cases d<;>first | (cases h;done) | (cases (qB h);rfl)
def b4e (ha:DE X a fa):DE X (.UnaryOp .Not a pos) (b5H fa):=
 ⟨λpz s σ H Q I ⟨ρ,r,H0,Gz,G,e,R,q⟩=>b8g ha.run pz s σ H Q I (bE R e q.x λx v G1 H1 g1 R1 rv e1=>by
  obtain ⟨d,ed,rfl⟩:=bL e1;obtain ⟨t,et,rfl⟩:=qO.mp ed;cases yB et;cases rv
  exact ⟨_,rfl,q _ _ _ g1 (.bool _)⟩)⟩
def a6U (f g:TF):TF:=λρ=>bnd (f ρ) λt=>if t then g ρ else some (.ok false)
def orT (f g:TF):TF:=λρ=>bnd (f ρ) λt=>if t then some (.ok true) else g ρ
def a1r (ha:DT X a ft):DW X (.BoolOp .And [a] pos) ft:=⟨b4X ha.run⟩
def b3L (ha:DT X a ft):DW X (.BoolOp .Or [a] pos) ft:=⟨b7U ha.run⟩
def a5g (ha:DT X a ft) (hb:DW X (.BoolOp .And (b::rest) pos) fu):DW X (.BoolOp .And (a::b::rest) pos) (a6U ft fu):=
 ⟨λwh pz s σ H Q I ⟨ρ,r,H0,Gz,G,e,R,q⟩=>b7V ha.run hb.run wh pz s σ H Q I (bT R e q.x λt G1 H1 g1 R1 e1=>by
  cases t with
  | true=>rw [if_pos rfl] at e1 ⊢;exact ⟨ρ,r,H0,Gz,G1,e1,R1,q.more g1⟩
  | false=>rw [if_neg (by decide)] at e1 ⊢;cases (qB e1);exact q _ _ g1)⟩
def b7v (ha:DT X a ft) (hb:DW X (.BoolOp .Or (b::rest) pos) fu):DW X (.BoolOp .Or (a::b::rest) pos) (orT ft fu):=
 ⟨λwh pz s σ H Q I ⟨ρ,r,H0,Gz,G,e,R,q⟩=>c0r ha.run hb.run wh pz s σ H Q I (bT R e q.x λt G1 H1 g1 R1 e1=>by
  cases t with
  | true=>rw [if_pos rfl] at e1 ⊢;cases (qB e1);exact q _ _ g1
  | false=>rw [if_neg (by decide)] at e1 ⊢;exact ⟨ρ,r,H0,Gz,G1,e1,R1,q.more g1⟩)⟩
theorem DW.dt (h:DW X e ft):DT X e ft:=⟨h.run _⟩
def b9F (f g:EF):EF:=λρ=>bnd (f ρ) λx=>bnd (lft (oH x)) λt=>if t then g ρ else some (.ok (.bool false))
def orE (f g:EF):EF:=λρ=>bnd (f ρ) λx=>bnd (lft (oH x)) λt=>if t then some (.ok (.bool true)) else g ρ
def b9r {op:_} (ha:DE X a fa):DE X (.BoolOp op [a] pos) fa:=⟨b8f ha.run⟩
def b9s (ha:DE X a fa) (hb:DE X (.BoolOp .And (b::rest) pos) fb):DE X (.BoolOp .And (a::b::rest) pos) (b9F fa fb):=
 ⟨λpz s σ H Q I ⟨ρ,r,H0,Gz,G,e,R,q⟩=>b8k ha.run hb.run pz s σ H Q I (bE R e q.x λx v G1 H1 g1 R1 rv e1=>by
  rcases eV e1 with ⟨t,et,e2⟩ | ⟨c,et,_⟩
  ·obtain ⟨t',et',z⟩:=bL et
   cases z;cases yB et';cases rv;refine ⟨t,rfl,?_⟩;cases t with
   | true=>rw [if_pos rfl] at e2 ⊢;exact ⟨ρ,r,H0,Gz,G1,e2,R1,q.more g1⟩
   | false=>rw [if_neg (by decide)] at e2 ⊢;cases (qB e2);exact q _ _ _ g1 (.bool _)
  ·obtain ⟨_,_,z⟩:=bL et;cases z)⟩
def ifE (f:TF) (fa fb:EF):EF:=λρ=>bnd (f ρ) λt=>if t then fa ρ else fb ρ
def c1g (hc:DT X c ft) (ha:DE X a fa) (hb:DE X b fb):DE X (.IfExp c a b pos) (ifE ft fa fb):=
 ⟨λpz s σ H Q I ⟨ρ,r,H0,Gz,G,e,R,q⟩=>b2r hc.run ha.run hb.run pz s σ H Q I (bT R e q.x λt G1 H1 g1 R1 e1=>by
  cases t with
  | true=>rw [if_pos rfl] at e1 ⊢;exact ⟨ρ,r,H0,Gz,G1,e1,R1,q.more g1⟩
  | false=>rw [if_neg (by decide)] at e1 ⊢;exact ⟨ρ,r,H0,Gz,G1,e1,R1,q.more g1⟩)⟩
def ixD (x i:j0):Option j0:=match x,i with
 | .tuple ds,.int k=>atI ds k
 | .list ds,.int k=>atI ds k
 | .str z,.int k=>if eF z.length then (atI z.cps.toList k).map λc=>.str ⟨#[c]⟩ else none
 | _,_=>none
def b6c {K:qC} {u:V} {x i:j0} (s:bG G H) (rv:Rep K G v x) (ru:Rep K G u i) (h:ixD x i=some d) (q:∀ w,Rep K G w d->Q w H):rIx K v u H Q:=by
 cases ru with
 | int k=>
  cases rv with
  | tuple hq r=>
   obtain ⟨w,e,rw'⟩:=a9A r (show atI _ k=some d from h);exact .inr (.inl ⟨_,_,_,w,rfl,rfl,nV s hq,e,q w rw'⟩)
  | list hq r=>
   obtain ⟨w,e,rw'⟩:=a9A r (show atI _ k=some d from h);exact .inl ⟨_,_,_,w,rfl,rfl,s.seq hq,e,q w rw'⟩
  | str z=>
   have h:(if eF z.length=true then (atI z.cps.toList k).map λc=>kj ⟨#[c]⟩ else none)=some d:=h;split at h
   ·rename_i hz
    obtain ⟨c,ec,rfl⟩:=qO.mp h;exact .inr (.inr ⟨_,_,c,rfl,rfl,iV hz,ec,q _ (.str _)⟩)
   ·cases h
  | none=>cases h
  | bool b=>cases h
  | int j=>cases h
  | dict _ _ _=>cases h
  | fil _ _=>cases h
 | none=>cases rv<;>cases h
 | bool b=>cases rv<;>cases h
 | str b=>cases rv<;>cases h
 | list _ _=>cases rv<;>cases h
 | tuple _ _=>cases rv<;>cases h
 | dict _ _ _=>cases rv<;>cases h
 | fil _ _=>cases rv<;>cases h
def dO (ha:DE X a fa) (hb:DE X b fb) (hs:a1t b:=by exact λ_ _=>rfl):DE X (.Subscript a b pos) (op2 ixD fa fb):=
 ⟨λpz s σ H Q I ⟨ρ,r,H0,Gz,G,e,R,q⟩=>b2p b8U ha.run hb.run hs pz s σ H Q I (bE R e q.x λx v G1 H1 g1 R1 rv e1=>bE R1 e1 (q.more g1).x λy u G2 H2 g2 R2 ru e2=>by
  obtain ⟨d,ed,rfl⟩:=bL e2
  exact b6c g2.sub (rv.mono g2.gg) ru ed λw rw'=>q w _ _ (g1.trans g2) rw')⟩
structure CallD (X:Cx) (f:Value) (ds:T0l) (d:j0):Prop where
 ex:∃ r:List V->Hp->VK->Prop,iP X f r/\∀ vs G H Q,bG G H->RepAll X.K G vs ds->(∀ w G' H',Grow G H G' H'->Rep X.K G' w d->Q w H')->r vs H Q
def a4h {f:Value}:iP X f (λvs H Q=>∃ r,iP X f r/\r vs H Q):=λpz s σ H vs us Q I rx ⟨_,h,q⟩=>h pz s σ H vs us Q I rx q
def dG (g:List j0->Option j0) (fa:AF):EF:=λρ=>bnd (fa ρ) λxs=>lft (g xs)
def bJ {id:String} {x:Str} {g:List j0->Option j0} (hd:∀ ds d,g ds=some d->CallD X (.builtin id) ds d) (hm:X.mg x=none) (hv:wg x=some (.builtin id)) (ha:DA X (e::es) f) (hg:Gl X x:=by rfl)
  (hn:x ≠ "__name__":=by decide) (hdb:(x==("__debug__" : Str))=false:=by decide)
  (he:j4 (e::es) X.env=(false,eval e X.env)::j4 es X.env:=by rfl) (hpl:(v0 pos (j4 es X.env)).any (·.1)=false:=by rfl):DE X (.Call (.Name x p) (e::es) [] pos) (dG g f):=
 ⟨λpz s σ H Q I ⟨ρ,r,H0,Gz,G,e,R,q⟩=>a5Q a4h hg hm hv ha.run hn hdb he hpl pz s σ H Q I (bA R e q.x λxs vs G1 H1 g1 R1 rv e1=>by
  obtain ⟨d,ed,rfl⟩:=bL e1;obtain ⟨r,h1,h2⟩:=(hd xs d ed).ex
  exact ⟨r,h1,h2 vs G1 H1 Q g1.sub rv λw G' H' g' rw'=>q w G' H' (g1.trans g') rw'⟩)⟩
def a6H {T:String} {x:Str} {g:List j0->Option j0} (hd:∀ ds d,g ds=some d->CallD X (.type T) ds d) (hm:X.mg x=none) (hv:wg x=some (.type T)) (ha:DA X (e::es) f) (hg:Gl X x:=by rfl)
  (hn:x ≠ "__name__":=by decide) (hdb:(x==("__debug__" : Str))=false:=by decide)
  (he:j4 (e::es) X.env=(false,eval e X.env)::j4 es X.env:=by rfl) (hpl:(v0 pos (j4 es X.env)).any (·.1)=false:=by rfl):DE X (.Call (.Name x p) (e::es) [] pos) (dG g f):=
 ⟨λpz s σ H Q I ⟨ρ,r,H0,Gz,G,e,R,q⟩=>a3w a4h hg hm hv ha.run hn hdb he hpl pz s σ H Q I (bA R e q.x λxs vs G1 H1 g1 R1 rv e1=>by
  obtain ⟨d,ed,rfl⟩:=bL e1;obtain ⟨r,h1,h2⟩:=(hd xs d ed).ex
  exact ⟨r,h1,h2 vs G1 H1 Q g1.sub rv λw G' H' g' rw'=>q w G' H' (g1.trans g') rw'⟩)⟩
def lA:Ent->Ent
 | .lst ds=>.val (.list ds)
 | .dct kvs=>.val (.dict (kvs.map λp=>(eC p.1,p.2)))
 | e=>e
def frzAll (ρ:List Ent):List Ent:=ρ.map lA
def rX:j0->Bool
 | .none=>true
 | .bool _=>true
 | .int _=>true
 | .str _=>true
 | _=>false
def Rep.plain {K:qC} (h:rX d=true) (r:Rep K G v d):Rep K G' v d:=by
 cases r with
 | none=>exact .none
 | bool b=>exact .bool b
 | int i=>exact .int i
 | str x=>exact .str x
 | list _ _=>cases h
 | tuple _ _=>cases h
 | dict _ _ _=>cases h
 | fil _ _=>cases h
end
section
variable {K:qC}
def b3x (ρ:List Ent) (n:Nat):(∃ e,ρ[n]?=some e/\(ρ.take (n+1)).map lA++ρ.drop (n+1)=((ρ.take n).map lA++ρ.drop n).set n (lA e))\/(ρ[n]?=none/\(ρ.take (n+1)).map lA++ρ.drop (n+1)=(ρ.take n).map lA++ρ.drop n):=by
 by_cases hn:n<ρ.length
 ·refine .inl ⟨ρ[n],by simp [hn],?_⟩
  apply jT;intro j;rw [ky];by_cases hj:j<n
  ·rw [if_neg (by omega),ja (by simp;omega),ja (by simp;omega),qQ,qQ,zI (by omega),zI (by omega)]
  ·by_cases hj2:j=n
   ·subst hj2
    rw [if_pos rfl,if_pos (by simp;omega),ja (by simp;omega),qQ,zI (by omega)];simp [hn]
   ·rw [if_neg (by omega),jU (by simp;omega),jU (by simp;omega),wE,wE]
    simp only [qE,jQ];congr 1;omega
 ·refine .inr ⟨by simp;omega,?_⟩
  rw [jY (by omega),jY (by omega),zQ (by omega),zQ (by omega)]
theorem RepS.frzTo (R:RepS K H0 Gz G H σ ρ):∀ n:Nat,∃ G',bG G G'/\RepS K H0 Gz G' H σ ((ρ.take n).map lA++ρ.drop n)
 | 0=>⟨G,.refl _,by simpa using R⟩
 | n+1=>by
  obtain ⟨G1,s1,R1⟩:=R.frzTo n;rcases b3x ρ n with ⟨e,he,eq⟩ | ⟨_,eq⟩
  ·have hn:n<ρ.length:=(qS.mp he).1
   have at':((ρ.take n).map lA++ρ.drop n)[n]?=some e:=by
    rw [jU (by simp;omega),wE];simp only [qE,jQ];rw [show n+(n - min n ρ.length)=n by omega];exact he
   rw [eq];cases e with
   | lst ds=>
    obtain ⟨G2,s2,R2⟩:=R1.freeze at';exact ⟨G2,s1.trans s2,R2⟩
   | dct kvs=>
    obtain ⟨G2,s2,R2⟩:=R1.freezeD at';exact ⟨G2,s1.trans s2,R2⟩
   | val d=>
    refine ⟨G1,s1,?_⟩;have:((ρ.take n).map lA++ρ.drop n).set n (lA (.val d))=(ρ.take n).map lA++ρ.drop n:=by
     apply jT;intro j;rw [ky];split
     ·rename_i h;subst h
      rw [at'];have:=(qS.mp at').1;rw [if_pos this];rfl
     ·rfl
    rw [this];exact R1
   | no=>
    refine ⟨G1,s1,?_⟩;have:((ρ.take n).map lA++ρ.drop n).set n (lA .no)=(ρ.take n).map lA++ρ.drop n:=by
     apply jT;intro j;rw [ky];split
     ·rename_i h;subst h
      rw [at'];have:=(qS.mp at').1;rw [if_pos this];rfl
     ·rfl
    rw [this];exact R1
   | exc c=>
    refine ⟨G1,s1,?_⟩;have:((ρ.take n).map lA++ρ.drop n).set n (lA (.exc c))=(ρ.take n).map lA++ρ.drop n:=by
     apply jT;intro j;rw [ky];split
     ·rename_i h;subst h
      rw [at'];have:=(qS.mp at').1;rw [if_pos this];rfl
     ·rfl
    rw [this];exact R1
   | seen w ks=>
    refine ⟨G1,s1,?_⟩;have:((ρ.take n).map lA++ρ.drop n).set n (lA (.seen w ks))=(ρ.take n).map lA++ρ.drop n:=by
     apply jT;intro j;rw [ky];split
     ·rename_i h;subst h
      rw [at'];have:=(qS.mp at').1;rw [if_pos this];rfl
     ·rfl
    rw [this];exact R1
   | nst dss=>
    refine ⟨G1,s1,?_⟩;have:((ρ.take n).map lA++ρ.drop n).set n (lA (.nst dss))=(ρ.take n).map lA++ρ.drop n:=by
     apply jT;intro j;rw [ky];split
     ·rename_i h;subst h
      rw [at'];have:=(qS.mp at').1;rw [if_pos this];rfl
     ·rfl
    rw [this];exact R1
  ·rw [eq];exact ⟨G1,s1,R1⟩
theorem RepS.frzAll (R:RepS K H0 Gz G H σ ρ):∃ G',bG G G'/\RepS K H0 Gz G' H σ (frzAll ρ):=by
 obtain ⟨G',s,R'⟩:=R.frzTo ρ.length;refine ⟨G',s,?_⟩;have:(ρ.take ρ.length).map lA++ρ.drop ρ.length=L3.frzAll ρ:=by simp [L3.frzAll]
 rw [this] at R';exact R'
end
section
variable {rest:T0n}
def thT (f:TF):TF:=λρ=>match f (frzAll ρ) with
 | some (.ok b)=>some (.ok b)
 | _=>none
def c1e (h:DT X e ft):DT X e (thT ft):=⟨λpz s σ H Q I ⟨ρ,r,H0,Gz,G,ef,R,q⟩=>by
 unfold thT at ef;split at ef
 ·rename_i b eb
  cases (qB ef);obtain ⟨G',s',R'⟩:=R.frzAll;exact h.run pz s σ H Q I ⟨_,_,H0,Gz,G',eb,R',λG2 H2 g2=>q G H2 ⟨.refl _,g2.hh,s'.trans (g2.gg.trans g2.sub),λ_ z _=>z,id⟩⟩
 ·cases ef⟩
end
inductive So where
 | nx (ρ:List Ent)
 | rt (d:j0)
 | bk (ρ:List Ent)
 | ct (ρ:List Ent)
 | xc (c:Str) (ρ:List Ent)
abbrev SF:=List Ent->Option So
def bns {α:Type} (m:Mm α) (ρ:List Ent) (k:α->Option So):Option So:=match m with
 | some (.ok a)=>k a
 | some (.ex c)=>some (.xc c ρ)
 | none=>none
def sL {α:Type} {m:Mm α} {k:α->Option So} {r:So} (h:bns m ρ k=some r):(∃ a,m=some (.ok a)/\k a=some r)\/∃ c,m=some (.ex c)/\r=.xc c ρ:=by
 match m,h with
 | some (.ok a),h=>exact .inl ⟨a,rfl,h⟩
 | some (.ex c),h=>exact .inr ⟨c,rfl,(qB h).symm⟩
 | none,h=>cases h
def a2Q (X:Cx) (H0 Gz G:Hp) (D:Ends):So->Prop
 | .nx ρ=>∀ G' H' σ',bG G G'->RepS X.K H0 Gz G' H' σ' ρ->D.nx σ' H'
 | .rt d=>∀ v G' H',bG G G'->Grow Gz H0 G' H'->Rep X.K G' v d->D.rt v H'
 | .bk ρ=>∀ G' H' σ',bG G G'->RepS X.K H0 Gz G' H' σ' ρ->D.bk σ' H'
 | .ct ρ=>∀ G' H' σ',bG G G'->RepS X.K H0 Gz G' H' σ' ρ->D.ct σ' H'
 | .xc c ρ=>nN X H0 Gz G ρ c
theorem a2Q.mono {X:Cx} {H0 Gz G G':Hp} {D:Ends} {o:So} (h:a2Q X H0 Gz G D o) (s:bG G G'):a2Q X H0 Gz G' D o:=by
 cases o with
 | nx ρ=>exact λG2 H' σ' s2 R=>h G2 H' σ' (s.trans s2) R
 | rt d=>exact λv G2 H' s2 g r=>h v G2 H' (s.trans s2) g r
 | bk ρ=>exact λG2 H' σ' s2 R=>h G2 H' σ' (s.trans s2) R
 | ct ρ=>exact λG2 H' σ' s2 R=>h G2 H' σ' (s.trans s2) R
 | xc c ρ=>exact nN.mono h s
def rS (X:Cx) (f:SF):TS:=λD σ H=>∃ ρ o H0 Gz G,f ρ=some o/\RepS X.K H0 Gz G H σ ρ/\a2Q X H0 Gz G D o
structure DS (X:Cx) (st:Stmt) (f:SF):Prop where
 run:PS X st (rS X f)
structure DB (X:Cx) (sts:List Stmt) (f:SF):Prop where
 run:PSs X sts (rS X f)
section
variable {D:Ends} {o:So}
def sE {k:j0->Option So} (R:RepS X.K H0 Gz G H σ ρ) (e:bns (fa ρ) ρ k=some o) (q:a2Q X H0 Gz G D o) 
  (h:∀ x v G1 H1,Grow G H G1 H1->RepS X.K H0 Gz G1 H1 σ ρ->Rep X.K G1 v x->k x=some o->a2Q X H0 Gz G1 D o->T v H1):rE X fa σ H T:=by
 rcases sL e with ⟨x,e1,e2⟩ | ⟨c,e1,e2⟩
 ·exact ⟨ρ,_,H0,Gz,G,e1,R,λv G1 H1 g1 rv=>h x v G1 H1 g1 (R.more g1) rv e2 (q.mono g1.gg)⟩
 ·subst e2;exact ⟨ρ,_,H0,Gz,G,e1,R,q⟩
def sA {fa:AF} {k:List j0->Option So} (R:RepS X.K H0 Gz G H σ ρ) (e:bns (fa ρ) ρ k=some o) (q:a2Q X H0 Gz G D o) {T:List V->Hp->Prop} 
  (h:∀ x v G1 H1,Grow G H G1 H1->RepS X.K H0 Gz G1 H1 σ ρ->RepAll X.K G1 v x->k x=some o->a2Q X H0 Gz G1 D o->T v H1):rA X fa σ H T:=by
 rcases sL e with ⟨x,e1,e2⟩ | ⟨c,e1,e2⟩
 ·exact ⟨ρ,_,H0,Gz,G,e1,R,λv G1 H1 g1 rv=>h x v G1 H1 g1 (R.more g1) rv e2 (q.mono g1.gg)⟩
 ·subst e2;exact ⟨ρ,_,H0,Gz,G,e1,R,q⟩
def sT {fa:TF} {k:Bool->Option So} (R:RepS X.K H0 Gz G H σ ρ) (e:bns (fa ρ) ρ k=some o) (q:a2Q X H0 Gz G D o) {T:Bool->Hp->Prop} 
  (h:∀ x G1 H1,Grow G H G1 H1->RepS X.K H0 Gz G1 H1 σ ρ->k x=some o->a2Q X H0 Gz G1 D o->T x H1):rT X fa σ H T:=by
 rcases sL e with ⟨x,e1,e2⟩ | ⟨c,e1,e2⟩
 ·exact ⟨ρ,_,H0,Gz,G,e1,R,λG1 H1 g1=>h x G1 H1 g1 (R.more g1) e2 (q.mono g1.gg)⟩
 ·subst e2;exact ⟨ρ,_,H0,Gz,G,e1,R,q⟩
end
section
variable {rest:List Stmt} {f g:SF}
def iB:SF:=λρ=>some (.nx ρ)
def aZ (f g:SF):SF:=λρ=>match f ρ with
 | some (.nx ρ')=>g ρ'
 | r=>r
def cY:DB X [] iB:=⟨λpz s σ H D I ⟨ρ,o,H0,Gz,G,e,R,q⟩=>b5b pz s σ H D I (by cases (qB e);exact q G H σ (.refl _) R)⟩
def aJ (h1:DS X st f) (h2:DB X rest g):DB X (st::rest) (aZ f g):=⟨λpz s σ H D I ⟨ρ,o,H0,Gz,G,e,R,q⟩=>by
 unfold aZ at e;split at e
 ·rename_i ρ' e1
  refine uw (thn (h1.run pz s σ H { D with nx:=λσ' H'=>rS X g D σ' H' } I ⟨ρ,_,H0,Gz,G,e1,R,λG' H' σ' s' R'=>⟨ρ',o,H0,Gz,G',e,R',q.mono s'⟩⟩) λfl s1 z=>?_);cases fl with
  | next=>obtain ⟨σ',H',I',z⟩:=z;exact h2.run pz s1 σ' H' D I' z
  | ret v=>exact z
  | brk=>exact z
  | cont=>exact z
 ·rename_i z
  have hn:∀ ρ',o≠.nx ρ':=λρ' w=>z ρ' (by rw [e,w]);have q':a2Q X H0 Gz G { D with nx:=λ_ _=>False } o:=by
   cases o with
   | nx ρ'=>exact absurd rfl (hn ρ')
   | rt d=>exact q
   | bk ρ'=>exact q
   | ct ρ'=>exact q
   | xc c ρ'=>exact q
  refine uw (thn (h1.run pz s σ H { D with nx:=λ_ _=>False } I ⟨ρ,o,H0,Gz,G,e,R,q'⟩) λfl s1 z=>?_);cases fl with
  | next=>obtain ⟨_,_,_,z⟩:=z;exact z.elim
  | ret v=>exact z
  | brk=>exact z
  | cont=>exact z⟩
def aN (h:DS X st f):DB X [st] f:=⟨a4E h.run⟩
def a6v (i:Nat) (f:SF):SF:=λρ=>match ρ[i]? with
 | some (.lst ds)=>f (ρ.set i (.val (.list ds)))
 | some (.dct kvs)=>f (ρ.set i (.val (.dict (kvs.map λp=>(eC p.1,p.2)))))
 | _=>f ρ
def a2E (i:Nat) (h:DB X rest f):DB X rest (a6v i f):=⟨λpz s σ H D I ⟨ρ,o,H0,Gz,G,e,R,q⟩=>by
 unfold a6v at e;split at e
 ·rename_i ds hi
  obtain ⟨G',s',R'⟩:=R.freeze hi;exact h.run pz s σ H D I ⟨_,o,H0,Gz,G',e,R',q.mono s'⟩
 ·rename_i kvs hi
  obtain ⟨G',s',R'⟩:=R.freezeD hi;exact h.run pz s σ H D I ⟨_,o,H0,Gz,G',e,R',q.mono s'⟩
 ·exact h.run pz s σ H D I ⟨ρ,o,H0,Gz,G,e,R,q⟩⟩
def retS (fa:EF):SF:=λρ=>bns (fa ρ) ρ λd=>some (.rt d)
def aU (h:DE X e fa):DS X (.Return (some e) pos) (retS fa):=⟨λpz s σ H D I ⟨ρ,o,H0,Gz,G,e,R,q⟩=>b2d h.run pz s σ H D I (sE R e q λx v G1 H1 g1 R1 rv e1 q1=>by
 cases (qB e1);exact q1 v G1 H1 (.refl _) R1.grow rv)⟩
def c1b (fa:EF):SF:=λρ=>bns (fa ρ) ρ λ_=>some (.nx ρ)
def ifS (ft:TF) (f g:SF):SF:=λρ=>bns (ft ρ) ρ λt=>if t then f ρ else g ρ
def eR {x y:List Stmt} (hc:DT X c ft) (ha:DB X x f) (hb:DB X y g):DS X (.If c x y pos) (ifS ft f g):=⟨λpz s σ H D I ⟨ρ,o,H0,Gz,G,e,R,q⟩=>c0w hc.run ha.run hb.run pz s σ H D I (sT R e q λt G1 H1 g1 R1 e1 q1=>by
 cases t with
 | true=>rw [if_pos rfl] at e1 ⊢;exact ⟨ρ,o,H0,Gz,G1,e1,R1,q1⟩
 | false=>rw [if_neg (by decide)] at e1 ⊢;exact ⟨ρ,o,H0,Gz,G1,e1,R1,q1⟩)⟩
def fT (i:Nat) (fa:EF):SF:=λρ=>bns (fa ρ) ρ λd=>some (.nx (ρ.set i (.val d)))
def cC (i:Nat) {x:Str} (hN:X.N.Nodup) (h:DE X e fa) (hi:X.N[i]?=some x:=by rfl) (hx:Loc X.env.scope x:=by first | exact jw rfl | exact jP rfl)
  (hs:wm e (some (.Name x p)) pos.line X.env=pure false:=by rfl) (hf:X.fn x=true\/X.env.scope.names.lookup x=some .local:=by first | exact .inl rfl | exact .inr rfl):
  DS X (.Assign [.Name x p] e pos) (fT i fa):=⟨λpz s σ H D I ⟨ρ,o,H0,Gz,G,e,R,q⟩=>yU hN hi hx h.run hs hf pz s σ H D I (sE R e q λx v G1 H1 g1 R1 rv e1 q1=>by
 cases (qB e1);exact q1 G1 H1 _ (.refl _) (R1.set rv))⟩
def a5X (i:Nat) (f:AF):SF:=λρ=>bns (f ρ) ρ λds=>if eF ds.length then some (.nx (ρ.set i (.lst ds))) else none
def a5h (i:Nat) {x:Str} {f:AF} (hN:X.N.Nodup) (h:DA X es f) (hi:X.N[i]?=some x:=by rfl) (hx:Loc X.env.scope x:=by first | exact jw rfl | exact jP rfl)
  (hs:wm (.List es p2) (some (.Name x p)) pos.line X.env=pure false:=by rfl) (hf:X.fn x=true\/X.env.scope.names.lookup x=some .local:=by first | exact .inl rfl | exact .inr rfl):
  DS X (.Assign [.Name x p] (.List es p2) pos) (a5X i f):=⟨λpz s σ H D I ⟨ρ,o,H0,Gz,G,e,R,q⟩=>yU hN hi hx (a4H h.run) hs hf pz s σ H D I (sA R e q λds vs G1 H1 g1 R1 rv e1 q1=>by
 split at e1
 ·rename_i hz
  cases (qB e1);exact ⟨by rw [rv.length];exact iV hz,λa ha=>q1 G1 _ _ (.refl _) (R1.fresh ha rv)⟩
 ·cases e1)⟩
def a0w (i:Nat) (fa:EF):SF:=λρ=>match ρ[i]? with
 | some (.lst ds)=>bns (fa ρ) ρ λd=>if eF ds.length then some (.nx (ρ.set i (.lst (ds++[d])))) else none
 | _=>none
def a2C (i:Nat) {x:Str} (h:DE X e fa) (hN:X.N[i]?=some x:=by rfl)
  (hv:Vis X.env.scope x:=by first | exact jw rfl | exact jP (jw rfl) | exact jP (jP rfl)) (hd:(x==("__debug__" : Str))=false:=by decide) (hcd:(x==("__classdict__" : Str))=false:=by decide)
  (hbase:wv (.Name x p) "append" X.env (eval (.Name x p) X.env)=eval (.Name x p) X.env:=by rfl)
  (hfew:((v0 cp (j4 (e::[]) X.env)).all (λx=>!x.1)&&(yq cp (wu [] X.env)).all (λx=>x.1.isSome)&&decide ((e::[]).length+([]:List Keyword).length+(if ([]:List Keyword).isEmpty then 0 else 1)<30))=true:=by rfl)
  (hline:(ap.endLine==cp.line)=true:=by rfl) (hst:j4 (e::[]) X.env=(false,eval e X.env)::j4 [] X.env:=by rfl) (hplain:(v0 cp (j4 [] X.env)).any (·.1)=false:=by rfl)
  (hsw:wm (.Call (.Attribute (.Name x p) "append" ap) [e] [] cp) none pos.line X.env=pure false:=by rfl):
  DS X (.Expr (.Call (.Attribute (.Name x p) "append" ap) [e] [] cp) pos) (a0w i fa):=⟨λpz s σ H D I ⟨ρ,o,H0,Gz,G,ef,R,q⟩=>
 a1o (a8J zL vK vJ tG (dR hN hv hd hcd) (iY h.run pA hst) hbase hfew hline hst hplain) hsw pz s σ H D I (by
  unfold a0w at ef;split at ef
  ·rename_i ds hi
   obtain ⟨a,xs,e1,h1,h2,h3,r⟩:=R.own hi;refine ⟨.ref a,e1,.inl ⟨rfl,xs,.of h1⟩,sE R ef q λd v G1 H1 g1 R1 rv e2 q1=>?_⟩;split at e2
   ·rename_i hz
    cases (qB e2);exact ⟨a,xs,v,rfl,rfl,g1.hh.lst h1,by rw [r.length];exact a8v hz,q1 G1 _ σ (.refl _) (R1.wrote hi e1 ((r.mono g1.gg).append (.cons rv .nil)))⟩
   ·cases e2
  ·cases ef)⟩
end
variable {is:List Nat} {fi:AF}
section
variable {rest:List Stmt} {f g:SF}
def c1l (op:Operator) (x y:j0):Option j0:=match op,x,y with
 | .Add,.int i,.int j=>some (.int (i+j))
 | .Sub,.int i,.int j=>some (.int (i - j))
 | _,_,_=>none
def b1c (i:Nat) (op:Operator) (fa:EF):SF:=λρ=>match ρ[i]? with
 | some (.val x)=>bns (fa ρ) ρ λy=>(match c1l op x y with | some d=>some (.nx (ρ.set i (.val d))) | none=>none)
 | _=>none
def b3T (i:Nat) {x:Str} (hN:X.N.Nodup) (h:DE X e fa) (hi:X.N[i]?=some x:=by rfl) (hx:Loc X.env.scope x:=by first | exact jw rfl | exact jP rfl)
  (hf:X.fn x=true\/X.env.scope.names.lookup x=some .local:=by first | exact .inl rfl | exact .inr rfl) (ho:op=.Add\/op=.Sub:=by first | exact .inl rfl | exact .inr rfl):DS X (.AugAssign (.Name x p) op e pos) (b1c i op fa):=by
 rcases ho with rfl | rfl
 ·refine ⟨λpz s σ H D I ⟨ρ,o,H0,Gz,G,ef,R,q⟩=>b2e hN hi hx h.run b8X hf pz s σ H D I ?_⟩
  unfold b1c at ef;split at ef
  ·rename_i x1 hx1
   obtain ⟨v,ev,rv⟩:=R.val hx1;refine ⟨v,ev,sE R ef q λy u G1 H1 g1 R1 ru e1 q1=>?_⟩;cases rv with
   | int i'=>
    cases ru with
    | int j'=>cases (qB e1);exact ⟨_,_,rfl,rfl,q1 G1 H1 _ (.refl _) (R1.set (.int _))⟩
    | none=>cases e1
    | bool _=>cases e1
    | str _=>cases e1
    | list _ _=>cases e1
    | tuple _ _=>cases e1
    | dict _ _ _=>cases e1
    | fil _ _=>cases e1
   | none=>cases ru<;>cases e1
   | bool _=>cases ru<;>cases e1
   | str _=>cases ru<;>cases e1
   | list _ _=>cases ru<;>cases e1
   | tuple _ _=>cases ru<;>cases e1
   | dict _ _ _=>cases ru<;>cases e1
   | fil _ _=>cases ru<;>cases e1
  ·cases ef
 ·refine ⟨λpz s σ H D I ⟨ρ,o,H0,Gz,G,ef,R,q⟩=>b2e hN hi hx h.run b8W hf pz s σ H D I ?_⟩
  unfold b1c at ef;split at ef
  ·rename_i x1 hx1
   obtain ⟨v,ev,rv⟩:=R.val hx1;refine ⟨v,ev,sE R ef q λy u G1 H1 g1 R1 ru e1 q1=>?_⟩;cases rv with
   | int i'=>
    cases ru with
    | int j'=>cases (qB e1);exact ⟨_,_,rfl,rfl,q1 G1 H1 _ (.refl _) (R1.set (.int _))⟩
    | none=>cases e1
    | bool _=>cases e1
    | str _=>cases e1
    | list _ _=>cases e1
    | tuple _ _=>cases e1
    | dict _ _ _=>cases e1
    | fil _ _=>cases e1
   | none=>cases ru<;>cases e1
   | bool _=>cases ru<;>cases e1
   | str _=>cases ru<;>cases e1
   | list _ _=>cases ru<;>cases e1
   | tuple _ _=>cases ru<;>cases e1
   | dict _ _ _=>cases ru<;>cases e1
   | fil _ _=>cases ru<;>cases e1
  ·cases ef
inductive Tg where
 | nm (i:Nat)
 | tp (is:List Nat)
 | nn (i:Nat) (js:List Nat)
def oP:List Ent->List Nat->List j0->List Ent
 | ρ,i::is,d::ds=>oP (ρ.set i (.val d)) is ds
 | ρ,_,_=>ρ
def tgD (t:Tg) (ρ:List Ent) (d:j0):Option (List Ent):=match t,d with
 | .nm i,d=>some (ρ.set i (.val d))
 | .tp is,.tuple ds=>if is.length=ds.length then some (oP ρ is ds) else none
 | .nn i js,.tuple [d,.tuple ds]=>if js.length=ds.length then some (oP (ρ.set i (.val d)) js ds) else none
 | _,_=>none
structure DG (X:Cx) (tg:Expr) (t:Tg):Prop where
 run:∀ ρ d ρ',tgD t ρ d=some ρ'->PGD X tg ρ d ρ'
structure DGs (X:Cx) (ts:T0n) (is:List Nat):Prop where
 run:∀ ρ ds,is.length=ds.length->PGsD X ts ρ ds (oP ρ is ds)
def cJ (i:Nat) {x:Str} (hN:X.N.Nodup) (hi:X.N[i]?=some x:=by rfl) (hx:Loc X.env.scope x:=by first | exact jw rfl | exact jP rfl) (hf:X.fn x=true\/X.env.scope.names.lookup x=some .local:=by first | exact .inl rfl | exact .inr rfl):
  DG X (.Name x pos) (.nm i):=⟨λρ d ρ' h=>by cases (qB h);exact a5O i hN hi hx hf⟩
def lE:DGs X [] []:=⟨λρ ds h=>by
 cases ds with
 | nil=>exact b2k
 | cons _ _=>cases h⟩
def bM (i:Nat) {x:Str} (hN:X.N.Nodup) (h:DGs X es is) (hi:X.N[i]?=some x:=by rfl) (hx:Loc X.env.scope x:=by first | exact jw rfl | exact jP rfl)
  (hf:X.fn x=true\/X.env.scope.names.lookup x=some .local:=by first | exact .inl rfl | exact .inr rfl)
  (hs:(ye (.Name x pos::es) X.env).map (·.2)=assign (.Name x pos) X.env::(ye es X.env).map (·.2):=by rfl):DGs X (.Name x pos::es) (i::is):=⟨λρ ds hl=>by
 cases ds with
 | nil=>cases hl
 | cons d ds=>exact b0a (a5O i hN hi hx hf) (h.run _ ds (by simpa using hl)) hs⟩
def pO (hc:X.calm=true) (h:DGs X es is) (hn:(ye es X.env).length=is.length:=by rfl) (hst:(ye es X.env).findIdx? (·.1)=none:=by rfl):DG X (.Tuple es k pos) (.tp is):=⟨λρ d ρ' hq=>by
 cases d with
 | tuple ds=>
  have hq:(if is.length=ds.length then some (oP ρ is ds) else none)=some ρ':=hq;split at hq
  ·rename_i hl
   cases (qB hq);exact b5k hc (h.run ρ ds hl) (hn.trans hl) hst
  ·cases hq
 | none=>cases hq
 | bool _=>cases hq
 | int _=>cases hq
 | str _=>cases hq
 | list _=>cases hq
 | dict _=>cases hq⟩
def b7I {i:Nat} {js:List Nat} (h:tgD (.nn i js) ρ d=some ρ'):∃ a ds,d=.tuple [a,.tuple ds]/\js.length=ds.length/\ρ'=oP (ρ.set i (.val a)) js ds:=by
 unfold tgD at h;split at h
 ·rename_i e;cases e
 ·rename_i e;cases e
 ·rename_i i' js' a ds e
  cases e;split at h
  ·rename_i hl;exact ⟨a,ds,rfl,hl,(qB h).symm⟩
  ·cases h
 ·cases h
def rG (X:Cx) (t:Tg):TG:=λv σ H Q=>∃ ρ d ρ' H0 Gz G,tgD t ρ d=some ρ'/\RepS X.K H0 Gz G H σ ρ/\Rep X.K G v d/\∀ σ',RepS X.K H0 Gz G H σ' ρ'->Q σ' H
theorem DG.pg {t:Tg} (h:DG X tg t):PG X tg (rG X t):=λpz s σ H v u Q I r ⟨ρ,d,ρ',H0,Gz,G,e,R,rv,q⟩=>(h.run ρ d ρ' e).run pz s σ H v u Q I r ⟨H0,Gz,G,R,rv,q⟩
def b1q (t:Tg) (fa:EF):SF:=λρ=>bns (fa ρ) ρ λd=>(tgD t ρ d).map So.nx
def c2N (X:Cx) (H0 Gz G:Hp) (ρ:List Ent) (H:Hp) (R:It->Hp->Prop):Re (List j0)->Prop
 | .ok ds=>∀ J G' H',Grow G H G' H'->Walk X.K J G' ds->R J H'
 | .ex c=>nN X H0 Gz G ρ c
def rIt (X:Cx) (f:AF):TI:=λσ H R=>∃ ρ r H0 Gz G,f ρ=some r/\RepS X.K H0 Gz G H σ ρ/\c2N X H0 Gz G ρ H R r
structure DI (X:Cx) (tg iter:Expr) (f:AF):Prop where
 run:PI X tg iter (rIt X f)
theorem DI.pid {f:AF} (h:DI X tg iter f) (e:f ρ=some (.ok ds)):PID X tg iter ρ ds:=⟨λpz s σ H R I ⟨H0,Gz,G,S,q⟩=>h.run pz s σ H R I ⟨ρ,_,H0,Gz,G,e,S,q⟩⟩
def a9r {f:AF} (h:∀ ρ r,f ρ=some r->∃ ds,r=.ok ds/\PID X tg iter ρ ds):DI X tg iter f:=⟨λpz s σ H R I ⟨ρ,r,H0,Gz,G,e,S,q⟩=>by
 obtain ⟨ds,rfl,hp⟩:=h ρ r e
 exact hp.run pz s σ H R I ⟨H0,Gz,G,S,q⟩⟩
def a1a:j0->Option (List j0)
 | .list ds=>some ds
 | .tuple ds=>some ds
 | _=>none
def fU (fa:EF):AF:=λρ=>bnd (fa ρ) λx=>lft (a1a x)
def cQ (h:DE X iter fa):DI X tg iter (fU fa):=⟨λpz s σ H R I ⟨ρ,r,H0,Gz,G,e,S,q⟩=>by
 rcases eV e with ⟨x,e1,e2⟩ | ⟨c,e1,e2⟩
 ·obtain ⟨ds,e3,rfl⟩:=bL e2
  cases x with
  | list es=>cases (qB e3);exact (b2i (h.pd e1)).run pz s σ H R I ⟨H0,Gz,G,S,q⟩
  | tuple es=>cases (qB e3);exact (b5h (h.pd e1)).run pz s σ H R I ⟨H0,Gz,G,S,q⟩
  | none=>cases e3
  | bool _=>cases e3
  | int _=>cases e3
  | str _=>cases e3
  | dict _=>cases e3
 ·subst e2
  exact a8G h.run pz s σ H R I ⟨ρ,_,H0,Gz,G,e1,S,q⟩⟩
def intD:j0->Option Int
 | .int i=>some i
 | _=>none
def tJ (h:intD d=some i):d=.int i:=by
 cases d<;>first | (cases h;done) | (cases (qB h);rfl)
def bX (t:Tg) (fb:SF):List j0->List Ent->Option So
 | [],ρ=>some (.nx ρ)
 | d::ds,ρ=>match tgD t ρ d with
  | none=>none
  | some ρ1=>(match fb ρ1 with
   | some (.nx ρ2)=>bX t fb ds ρ2
   | some (.ct ρ2)=>bX t fb ds ρ2
   | some (.bk ρ2)=>some (.nx ρ2)
   | some (.rt d)=>some (.rt d)
   | some (.xc c ρ2)=>some (.xc c ρ2)
   | none=>none)
def tP (t:Tg) (fi:AF) (fb:SF):SF:=λρ=>bns (fi ρ) ρ λds=>bX t fb ds ρ
def nE {t:Tg} (hp:PassesOwn (model X.prog X.w) X.A X.env X.xe) (hc:X.calm=true) (hi:DI X tg iter fi) (hg:DG X tg t) (hb:DB X body g)
  (hs:∀ x,wj iter X.env x=pure x:=by intro _;rfl):DS X (.For tg iter body [] pos) (tP t fi g):=⟨λpz s σ H D I ⟨ρ,o,H0,Gz,G,ef,R,q⟩=>
 b8a hp hc hi.run hg.pg hb.run hs pz s σ H D I (by
  rcases sL ef with ⟨ds,e1,e2⟩ | ⟨c,e1,e2⟩
  ·refine ⟨ρ,_,H0,Gz,G,e1,R,λJ G1 H1 g1 wk=>?_⟩
   refine ⟨λi m σ' H'=>m=ds.length - i/\i<=ds.length/\∃ ρ' G',bG G1 G'/\RepS X.K H0 Gz G' H' σ' ρ'/\bX t g (ds.drop i) ρ'=some o,⟨ds.length,by simp,jB _,ρ,G1,.refl _,R.more g1,by simpa using e2⟩,?_⟩;rintro i m σ' H' ⟨rfl,hin,ρ',G',s',R',e'⟩;obtain ⟨wgo,wstop⟩:=wk i G' H' s' R'.sub;by_cases hlt:i<ds.length
   ·rw [List.drop_eq_getElem_cons hlt] at e'
    have hx:ds[i]?=some ds[i]:=qK hlt;refine .inr ⟨(wgo _ hx).1,λσ2 H2=>∃ ρ2 G2,bG G1 G2/\RepS X.K H0 Gz G2 H2 σ2 ρ2/\bX t g (ds.drop (i+1)) ρ2=some o,?_,λx H2 y=>?_⟩
    ·rintro σ2 H2 ⟨ρ2,G2,s2,R2,e2⟩
     exact ⟨ds.length - (i+1),by omega,rfl,hlt,ρ2,G2,s2,R2,e2⟩
    ·obtain ⟨G2,g2,rx⟩:=(wgo _ hx).2 x H2 y
     unfold bX at e';split at e'
     ·cases e'
     ·rename_i ρ1 et
      refine ⟨ρ',ds[i],ρ1,H0,Gz,G2,et,R'.more g2,rx,λσ3 R3=>?_⟩;have sg:bG G1 G2:=s'.trans g2.gg;split at e'
      ·rename_i ρ2 eb
       exact ⟨ρ1,_,H0,Gz,G2,eb,R3,λG4 H4 σ4 s4 R4=>⟨ρ2,G4,sg.trans s4,R4,e'⟩⟩
      ·rename_i ρ2 eb
       exact ⟨ρ1,_,H0,Gz,G2,eb,R3,λG4 H4 σ4 s4 R4=>⟨ρ2,G4,sg.trans s4,R4,e'⟩⟩
      ·rename_i ρ2 eb
       cases (qB e');exact ⟨ρ1,_,H0,Gz,G2,eb,R3,λG4 H4 σ4 s4 R4=>q G4 H4 σ4 (g1.gg.trans (sg.trans s4)) R4⟩
      ·rename_i d' eb
       cases (qB e');exact ⟨ρ1,_,H0,Gz,G2,eb,R3,λv G4 H4 s4 gr rv=>q v G4 H4 (g1.gg.trans (sg.trans s4)) gr rv⟩
      ·rename_i c' ρ2 eb
       cases (qB e');exact ⟨ρ1,_,H0,Gz,G2,eb,R3,nN.mono q (g1.gg.trans sg)⟩
      ·cases e'
   ·have hi':i=ds.length:=by omega
    subst hi';rw [List.drop_length] at e';cases (qB e');exact .inl ⟨wstop (qN _),q G' H' σ' (g1.gg.trans s') R'⟩
  ·subst e2
   exact ⟨ρ,_,H0,Gz,G,e1,R,q⟩)⟩
def fR (ft:TF) (fb:SF):Nat->SF
 | 0=>λ_=>none
 | n+1=>λρ=>bns (ft ρ) ρ λt=>if t then (match fb ρ with
   | some (.nx ρ2)=>fR ft fb n ρ2
   | some (.ct ρ2)=>fR ft fb n ρ2
   | some (.bk ρ2)=>some (.nx ρ2)
   | some (.rt d)=>some (.rt d)
   | some (.xc c ρ2)=>some (.xc c ρ2)
   | none=>none) else some (.nx ρ)
def a6D (n:Nat) (hp:PassesOwn (model X.prog X.w) X.A X.env X.xe) (hc:DT X c ft) (hb:DB X body g):DS X (.While c body [] pos) (fR ft g n):=⟨λpz s σ H D I ⟨ρ,o,H0,Gz,G,ef,R,q⟩=>
 b2c hp hc.run hb.run pz s σ H D I (by
  refine ⟨λm σ' H'=>∃ ρ' G',bG G G'/\RepS X.K H0 Gz G' H' σ' ρ'/\fR ft g m ρ'=some o,⟨n,ρ,G,.refl _,R,ef⟩,?_⟩;rintro m σ' H' ⟨ρ',G',s',R',e'⟩;cases m with
  | zero=>cases e'
  | succ m=>
   unfold fR at e';refine sT R' e' (q.mono s') λtt G1 H1 g1 R1 e1 q1=>?_;cases tt with
   | false=>
    rw [if_neg (by decide)] at e1 ⊢;cases (qB e1);exact q1 G1 H1 σ' (.refl _) R1
   | true=>
    rw [if_pos rfl] at e1 ⊢;refine ⟨λσ2 H2=>∃ ρ2 G2,bG G G2/\RepS X.K H0 Gz G2 H2 σ2 ρ2/\fR ft g m ρ2=some o,λσ2 H2 z=>⟨m,kn m,z⟩,?_⟩;have sg:bG G G1:=s'.trans g1.gg;split at e1
    ·rename_i ρ2 eb
     exact ⟨ρ',_,H0,Gz,G1,eb,R1,λG4 H4 σ4 s4 R4=>⟨ρ2,G4,sg.trans s4,R4,e1⟩⟩
    ·rename_i ρ2 eb
     exact ⟨ρ',_,H0,Gz,G1,eb,R1,λG4 H4 σ4 s4 R4=>⟨ρ2,G4,sg.trans s4,R4,e1⟩⟩
    ·rename_i ρ2 eb
     cases (qB e1);exact ⟨ρ',_,H0,Gz,G1,eb,R1,λG4 H4 σ4 s4 R4=>q1 G4 H4 σ4 s4 R4⟩
    ·rename_i d' eb
     cases (qB e1);exact ⟨ρ',_,H0,Gz,G1,eb,R1,λv G4 H4 s4 gr rv=>q1 v G4 H4 s4 gr rv⟩
    ·rename_i c' ρ2 eb
     cases (qB e1);exact ⟨ρ',_,H0,Gz,G1,eb,R1,q1⟩
    ·cases e1)⟩
end
def tS (t:Tg) (ρb:List Ent) (ft:TF) (fe:EF):List j0->Option (List j0)
 | []=>some []
 | d::ds=>match tgD t ρb d with
  | none=>none
  | some ρx=>(match ft ρx with
   | some (.ok true)=>(match fe ρx with
    | some (.ok v)=>(tS t ρb ft fe ds).map (v::·)
    | _=>none)
   | some (.ok false)=>tS t ρb ft fe ds
   | _=>none)
def eT (t:Tg) (cap:T0e) (fi:AF) (ft:TF) (fe:EF):EF:=λρ=>bnd (fi ρ) λds=>if eF ds.length then lft ((tS t (bY cap ρ) ft fe ds).map .list) else none
def ttT:TF:=λ_=>some (.ok true)
def cX (t:Tg) (ρb:List Ent) (d:j0):List Ent:=(tgD t ρb d).getD []
def cT (t:Tg) (ρb:List Ent) (ft:TF) (d:j0):Bool:=match ft (cX t ρb d) with
 | some (.ok b)=>b
 | _=>false
def cV (t:Tg) (ρb:List Ent) (fe:EF) (d:j0):j0:=match fe (cX t ρb d) with
 | some (.ok v)=>v
 | _=>.none
theorem nY {t:Tg} {ρb:List Ent} {ft:TF} {fe:EF}:∀ {ds es:T0l},tS t ρb ft fe ds=some es ->
  (∀ d∈ds,tgD t ρb d=some (cX t ρb d)/\ft (cX t ρb d)=some (.ok (cT t ρb ft d))/\(cT t ρb ft d=true->fe (cX t ρb d)=some (.ok (cV t ρb fe d))))/\es=(ds.filter (cT t ρb ft)).map (cV t ρb fe)
 | [],es,h=>by
  cases (qB h);exact ⟨λ_ z=>absurd z (by simp),rfl⟩
 | d::ds,es,h=>by
  unfold tS at h;split at h
  ·cases h
  ·rename_i ρx et
   have ex:cX t ρb d=ρx:=by unfold cX;rw [et];rfl
   split at h
   ·rename_i e1
    have e1':cT t ρb ft d=true:=by unfold cT;rw [ex,e1]
    split at h
    ·rename_i v ev
     obtain ⟨es',e3,rfl⟩:=qO.mp h;obtain ⟨i1,i2⟩:=nY e3;have evv:cV t ρb fe d=v:=by unfold cV;rw [ex,ev]
     refine ⟨λd' hd=>?_,?_⟩
     ·rcases qG.mp hd with rfl | hd
      ·rw [ex,e1',evv];exact ⟨et,e1,λ_=>ev⟩
      ·exact i1 d' hd
     ·rw [qZ e1',qI,evv,i2]
    ·cases h
   ·rename_i e1
    have e1':cT t ρb ft d=false:=by unfold cT;rw [ex,e1]
    obtain ⟨i1,i2⟩:=nY h;refine ⟨λd' hd=>?_,?_⟩
    ·rcases qG.mp hd with rfl | hd
     ·rw [ex,e1'];exact ⟨et,e1,λz=>by cases z⟩
     ·exact i1 d' hd
    ·rw [qd (by rw [e1'];decide),i2]
   ·cases h
noncomputable def a1x (cap:T0e):Tg->Bool
 | .nm i=>(match cap[i]? with | some (some _)=>false | _=>true)
 | .tp is=>is.all λi=>match cap[i]? with | some (some _)=>false | _=>true
 | .nn i js=>(match cap[i]? with | some (some _)=>false | _=>true)&&js.all λi=>match cap[i]? with | some (some _)=>false | _=>true
theorem rM:∀ {a b:List Ent} {i:Nat} {e:Ent},Weak a b->(b[i]?=some .no\/b[i]?=none)->Weak (a.set i e) b
 | _,_,_,_,.nil,_=>.nil
 | _::_,_,0,_,.keep w,h=>by
  rcases h with h | h
  ·cases (qB h);exact .no w
  ·cases h
 | _::_,_,0,_,.no w,_=>.no w
 | _::_,_,i+1,_,.keep w,h=>.keep (rM w (by simpa using h))
 | _::_,_,i+1,_,.no w,h=>.no (rM w (by simpa using h))
def a5l {cap:T0e} {i:Nat} (h:(match cap[i]? with | some (some _)=>false | _=>true)=true):(bY cap ρ)[i]?=some .no\/(bY cap ρ)[i]?=none:=by
 unfold bY;rw [qQ];cases e:cap[i]? with
 | none=>exact .inr rfl
 | some o=>
  rw [e] at h;cases o with
  | none=>exact .inl rfl
  | some j=>cases h
theorem a1v {cap:T0e} {ρ:List Ent}:∀ {is:List Nat} {ds:T0l} {a:List Ent},(is.all λi=>match cap[i]? with | some (some _)=>false | _=>true)=true->Weak a (bY cap ρ)->Weak (oP a is ds) (bY cap ρ)
 | [],ds,a,_,w=>by cases ds<;>exact w
 | i::is,[],a,_,w=>w
 | i::is,d::ds,a,h,w=>by
  rw [qz,qJ] at h;exact a1v (is:=is) (ds:=ds) (a:=a.set i (.val d)) h.2 (rM w (a5l h.1))
def a1i {cap:T0e} {ρx:List Ent} {t:Tg} (hf:a1x cap t=true) (h:tgD t (bY cap ρ) d=some ρx):Weak ρx (bY cap ρ):=by
 cases t with
 | nm i=>cases (qB h);exact rM (.refl _) (a5l hf)
 | tp is=>
  cases d with
  | tuple ds=>
   have h:(if is.length=ds.length then some (oP (bY cap ρ) is ds) else none)=some ρx:=h;split at h
   ·cases (qB h);exact a1v hf (.refl _)
   ·cases h
  | none=>cases h
  | bool _=>cases h
  | int _=>cases h
  | str _=>cases h
  | list _=>cases h
  | dict _=>cases h
 | nn i js=>
  obtain ⟨a,ds,rfl,hl,rfl⟩:=b7I h;have hf:((match cap[i]? with | some (some _)=>false | _=>true)&&js.all λi=>match cap[i]? with | some (some _)=>false | _=>true)=true:=hf;rw [qJ] at hf;exact a1v hf.2 (rM (.refl _) (a5l hf.1))
section
variable {cap:T0e} {t:Tg} {fe:EF}
structure DTs (X:Cx) (ifs:T0n) (f:TF):Prop where
 run:∀ ρ b,f ρ=some (.ok b)->PTsD X ifs ρ b
def gX:DTs X [] ttT:=⟨λρ b e=>by cases (qB e);exact b1Z⟩
def pN (h:DT X c ft):DTs X [c] ft:=⟨λρ b e=>b1Y (h.ptd e)⟩
def eD (hc:X.calm=true) (B:Blk X scope N' cap) (hi:DI X tg iter fi) (hf:a1x cap t=true) (hg:∀ C s3z H3z fp,DG (bV X scope N' C s3z H3z fp) tg t) (ht:∀ C s3z H3z fp,DTs (bV X scope N' C s3z H3z fp) ifs ft)
  (he:∀ C s3z H3z fp,DE (bV X scope N' C s3z H3z fp) elt fe) (hs:∀ x,wj iter X.env x=pure x:=by intro _;rfl):DE X (.ListComp elt [⟨tg,iter,ifs,0⟩] scope pos) (eT t cap fi ft fe):=⟨λpz s σ H Q I ⟨ρ,r,H0,Gz,G,e,R,q⟩=>by
 rcases eV e with ⟨ds,e1,e2⟩ | ⟨c,e1,e2⟩
 ·split at e2
  ·rename_i hz
   obtain ⟨d,ed,rfl⟩:=bL e2;obtain ⟨es,e3,rfl⟩:=qO.mp ed;obtain ⟨k1,rfl⟩:=nY e3
   exact (b5s (xs:=ds) (φ:=λd=>d) (ρb:=bY cap ρ) (ρx:=cX t (bY cap ρ)) (cnd:=cT t (bY cap ρ) ft) (f:=cV t (bY cap ρ) fe) hc B (by simpa using hi.pid e1) (.refl _) (λx hx=>a1i hf (k1 x hx).1) (iV hz)
    (λC s3z H3z fp x hx=>(hg C s3z H3z fp).run _ _ _ (k1 x hx).1) (λC s3z H3z fp x hx=>(ht C s3z H3z fp).run _ _ (k1 x hx).2.1) (λC s3z H3z fp x hx hcx=>(he C s3z H3z fp).pd ((k1 x hx).2.2 hcx)) hs).run H0 Gz G pz s σ H Q I R q
  ·cases e2
 ·subst e2
  exact a4I (g:=λ_ _ _ _=>False) (tc:=λ_ _ _=>False) (te:=λ_ _ _=>False) hc B hi.run (λ_ _ _ _ _ _ _ _ _ _ _ _ _ z=>z.elim) (λ_ _ _ _ _ _ _ _ _ _ z=>z.elim) (λ_ _ _ _ _ _ _ _ _ _ z=>z.elim) hs pz s σ H Q I
   ⟨ρ,_,H0,Gz,G,e1,R,q⟩⟩
def b6A (i:Nat) {x:Str} (hN:X.N.Nodup) (hc:X.calm=true) (B:Blk X scope N' cap) (hi:DI X tg iter fi) (hf:a1x cap t=true) (hg:∀ C s3z H3z fp,DG (bV X scope N' C s3z H3z fp) tg t) (ht:∀ C s3z H3z fp,DTs (bV X scope N' C s3z H3z fp) ifs ft)
  (he:∀ C s3z H3z fp,DE (bV X scope N' C s3z H3z fp) elt fe)
  (hxi:X.N[i]?=some x:=by rfl) (hx:X.env.scope.names.lookup x=some .local:=by rfl)
  (hsw:wm (.ListComp elt [⟨tg,iter,ifs,0⟩] scope pos) (some (.Name x p)) spos.line X.env=pure true:=by rfl)
  (hs:∀ x,wj iter X.env x=pure x:=by intro _;rfl):DS X (.Assign [.Name x p] (.ListComp elt [⟨tg,iter,ifs,0⟩] scope pos) spos) (fT i (eT t cap fi ft fe)):=⟨λpz s σ H D I ⟨ρ,o,H0,Gz,G,e,R,q⟩=>by
 rcases sL e with ⟨d,e1,e2⟩ | ⟨c,e1,e2⟩
 ·cases (qB e2)
  rcases eV e1 with ⟨ds,e3,e4⟩ | ⟨c,_,e4⟩
  ·split at e4
   ·rename_i hz
    obtain ⟨d',ed,z⟩:=bL e4;cases z;obtain ⟨es,e5,rfl⟩:=qO.mp ed;obtain ⟨k1,rfl⟩:=nY e5
    exact (b2b i (xs:=ds) (φ:=λd=>d) (ρb:=bY cap ρ) (ρx:=cX t (bY cap ρ)) (cnd:=cT t (bY cap ρ) ft) (f:=cV t (bY cap ρ) fe) hN hc B (by simpa using hi.pid e3) (.refl _) (λx hx=>a1i hf (k1 x hx).1) (iV hz)
     (λC s3z H3z fp x hx=>(hg C s3z H3z fp).run _ _ _ (k1 x hx).1) (λC s3z H3z fp x hx=>(ht C s3z H3z fp).run _ _ (k1 x hx).2.1) (λC s3z H3z fp x hx hcx=>(he C s3z H3z fp).pd ((k1 x hx).2.2 hcx)) hxi hx hsw hs).run pz s σ H D I ⟨H0,Gz,G,R,q⟩
   ·cases e4
  ·cases e4
 ·subst e2
  rcases eV e1 with ⟨ds,e3,e4⟩ | ⟨c',e3,e4⟩
  ·split at e4
   ·obtain ⟨_,_,z⟩:=bL e4;cases z
   ·cases e4
  ·cases e4
   exact a4F (g:=λ_ _ _ _=>False) (tc:=λ_ _ _=>False) (te:=λ_ _ _=>False) hN hxi hx hc B hi.run (λ_ _ _ _ _ _ _ _ _ _ _ _ _ z=>z.elim) (λ_ _ _ _ _ _ _ _ _ _ z=>z.elim) (λ_ _ _ _ _ _ _ _ _ _ z=>z.elim) hsw hs pz s σ H D I
    ⟨ρ,_,H0,Gz,G,e3,R,q⟩⟩
end
def a7l (m:Nat) (ds:T0l):List Ent:=ds.map .val++List.replicate (m - ds.length) .no
def bS (m n:Nat) (f:SF) (ds:T0l):Mm j0:=if ds.length=n then (match f (a7l m ds) with
 | some (.rt d)=>some (.ok d)
 | some (.nx _)=>some (.ok .none)
 | _=>none) else none
abbrev bC (P:Program) (w:World) (K:qC) (mg:T0d) (base:Heap) (x:Str) (k:Nat) (ps:T0q) (F:List j0->Mm j0):Prop:=
 Callee P w K mg base x k ps λds d=>F ds=some (.ok d)
section
variable {K:qC} {x:Str} {F:List j0->Mm j0}
def aQ (F:List j0->Mm j0) (fa:AF):EF:=λρ=>bnd (fa ρ) λds=>match F ds with
 | some (.ok d)=>some (.ok d)
 | _=>none
def aO {fa:AF} (C:bC X.prog X.w X.K X.mg X.base x k ps F) (hr:Room k X.A) (ha:DA X (e::es) fa) (hg:Gl X x:=by rfl) (hdb:(x==("__debug__" : Str))=false:=by decide)
  (he:j4 (e::es) X.env=(false,eval e X.env)::j4 es X.env:=by rfl) (hpl:(v0 pos (j4 es X.env)).any (·.1)=false:=by rfl):DE X (.Call (.Name x p) (e::es) [] pos) (aQ F fa):=⟨λpz s σ H Q I ⟨ρ,r,H0,Gz,G,e',R,q⟩=>by
 obtain ⟨f,fd,a,b,c,Fk⟩:=C.ex;refine a8I Fk hr hg a b c .nil (a8L (X:=X)) ha.run hdb he hpl pz s σ H Q I (bA R e' q.x λds vs G1 H1 g1 R1 rv e1=>?_);split at e1
 ·rename_i d ed
  cases (qB e1);exact ⟨G1,ds,d,⟨g1.sub,R1.tab⟩,by simpa using rv,ed,λv G2 H2 g2 r2=>q v G2 H2 (g1.trans g2) r2⟩
 ·cases e1⟩
def sU (N:T0q) (ds:T0l):gJ N ds=a7l N.length ds:=rfl
def b3y {f:SF} {fa:Addr} (m n:Nat) (Fu:Fun K x x st fa fd) (S:FnScope N ps (aD st)) (hm:N.length=m) (hn:ps.length=n)
  (body:∀ (cdv:Value) (A:Around) (outer:List Env) (s:Shared) (H:Hp) (E:XK),Room k (A.deeper (uf x (aD st) s.heap.objs.size fa cdv))->DB (fcx P w K mg base N x (aD st) fa cdv A outer s H E) (bR st) f):
  FnOk P w K mg base CX0 (k+1) fa fd ps (spD K λds d=>bS m n f ds=some (.ok d)):=by
 refine Fu.ok S (λvs H Q E ⟨G,ds,d,s,r,hF,_⟩=>?_) (λcdv A outer s H vs Q E hr ⟨G,ds,d,sm,r,hF,q⟩=>?_)
 ·have hF:bS m n f ds=some (.ok d):=hF
  unfold bS at hF;split at hF
  ·rename_i hl;rw [r.length,hl,hn]
  ·cases hF
 ·have hF:bS m n f ds=some (.ok d):=hF
  unfold bS at hF;split at hF
  ·rw [<-hm,<-sU] at hF
   split at hF
   ·rename_i d' e
    cases (qB hF);exact ⟨_,(body cdv A outer s H E hr).run,gJ N ds,_,H,G,G,e,gB sm r,λv G' H' _ g rv=>q v G' H' g rv⟩
   ·rename_i ρ' e
    cases (qB hF);exact ⟨_,(body cdv A outer s H E hr).run,gJ N ds,_,H,G,G,e,gB sm r,λG' H' σ' _ R'=>q .non G' H' R'.grow .none⟩
   ·cases hF
  ·cases hF
def aT {f:SF} (m n:Nat) (D:Def K mg x st) (S:FnScope N ps (aD st)) (hm:N.length=m) (hn:ps.length=n)
  (hb:∀ (kV doc pm:Value) (an:T0k) (cdv ct:Value) (us:T0m),us.length=ps.length->ug (jV x x (eK st) (bR st) (aD st) .none kV doc pm an cdv ct) ⟨us,[]⟩=pure (ps.zip us))
  (body:∀ (fa:Addr) (cdv:Value) (A:Around) (outer:List Env) (s:Shared) (H:Hp) (E:XK),Room k (A.deeper (uf x (aD st) s.heap.objs.size fa cdv))->DB (fcx P w K mg base N x (aD st) fa cdv A outer s H E) (bR st) f):
  bC P w K mg base x (k+1) ps (bS m n f):=by
 obtain ⟨fa,fd,Fu,hmg⟩:=D.ex;exact ⟨fa,fd,hmg,Fu.kp,Fu.binds hb,b3y m n Fu S hm hn λcdv A outer s H E hr=>body fa cdv A outer s H E hr⟩
end
def fK {α:Type} (f:j0->Option α):List j0->Option (List α)
 | []=>some []
 | d::ds=>match f d with
  | none=>none
  | some a=>(fK f ds).map (a::·)
def a2Z:j0->Option Str
 | .str i=>some i
 | _=>none
def a1k {i:Str} (h:a2Z d=some i):d=.str i:=by
 cases d<;>first | (cases h;done) | (cases (qB h);rfl)
theorem fE {α:Type} {f:j0->Option α} {g:α->j0} (h:∀ d a,f d=some a->d=g a):∀ {ds:T0l} {as:List α},fK f ds=some as->ds=as.map g
 | [],as,e=>by cases (qB e);rfl
 | d::ds,as,e=>by
  unfold fK at e;split at e
  ·cases e
  ·rename_i a ea
   obtain ⟨as',e',rfl⟩:=qO.mp e;rw [qI,<-h d a ea,fE h e']
theorem hZ {α:Type} {f:j0->Option α} {g:α->j0} (h:∀ a,f (g a)=some a):∀ as:List α,fK f (as.map g)=some as
 | []=>rfl
 | a::as=>by rw [qI,fK,h a];show (fK f (as.map g)).map (a::·)=_;rw [hZ h as];rfl
def oB (ns:T0s):fK intD (ns.map .int)=some ns:=hZ (g:=.int) (λ_=>rfl) ns
variable {y:j0}
section
variable {x:j0}
def b8x {g:Int->Int->Int} (ho:OpR X (yw op) (rI0 λi j=>.int (g i j))):OpD X op (.int i) (.int j) (.int (g i j)):=⟨_,ho,λv u G H Q s rv ru q=>by
 cases rv;cases ru;exact ⟨_,_,rfl,rfl,q _ _ _ (.refl s) (.int _)⟩⟩
def a4J {C:Int->Int->Prop} {g:Int->Int->Int} (ho:OpR X (yw op) (rI C λi j=>.int (g i j))) (hc:C i j):OpD X op (.int i) (.int j) (.int (g i j)):=⟨_,ho,λv u G H Q s rv ru q=>by
 cases rv;cases ru;exact ⟨_,_,rfl,rfl,hc,q _ _ _ (.refl s) (.int _)⟩⟩
noncomputable def fF (x y:j0):Option j0:=match x,y with
 | .int i,.int j=>some (.int (i+j))
 | .str i,.str j=>if eF (i.length+j.length) then some (.str (i++j)) else none
 | .list a,.list b=>if eF (a.length+b.length) then some (.list (a++b)) else none
 | .tuple a,.tuple b=>if eF (a.length+b.length) then some (.tuple (a++b)) else none
 | _,_=>none
def cD (x y d:j0) (h:fF x y=some d):OpD X .Add x y d:=by
 unfold fF at h;split at h
 ·cases (qB h);exact b8x b8w
 ·split at h
  ·rename_i i j hz
   cases (qB h);exact ⟨_,a7z,λv u G H Q s rv ru q=>by cases rv;cases ru;exact ⟨_,_,rfl,rfl,iV hz,q _ _ _ (.refl s) (.str _)⟩⟩
  ·cases h
 ·split at h
  ·rename_i a b hz
   cases (qB h)
   exact ⟨_,b5C,λv u G H Q s rv ru q=>by
    cases rv with
    | list h1 r1=>cases ru with
     | list h2 r2=>exact ⟨_,_,_,_,rfl,rfl,s.seq h1,s.seq h2,by rw [r1.length,r2.length];exact iV hz,λl hl=>q _ _ _ (.put s hl) (.list (.of aG) ((r1.append r2).mono (bF (s.free hl))))⟩⟩
  ·cases h
 ·split at h
  ·rename_i a b hz
   cases (qB h)
   exact ⟨_,b5A,λv u G H Q s rv ru q=>by
    cases rv with
    | tuple h1 r1=>cases ru with
     | tuple h2 r2=>
      refine ⟨_,_,_,_,rfl,rfl,nV s h1,nV s h2,by rw [r1.length,r2.length];exact iV hz,λz=>?_,λz z2=>?_,λ_ _ l hl=>q _ _ _ (.put s hl) (.tuple (.of aG) ((r1.append r2).mono (bF (s.free hl))))⟩
      ·subst z
       cases r1;exact q _ G H (.refl s) (.tuple h2 r2)
      ·subst z2
       cases r2
       exact q _ G H (.refl s) (by rw [kW];exact .tuple h1 r1)⟩
  ·cases h
 ·cases h
def c1V (x y:j0):Option j0:=match x,y with
 | .int i,.int j=>some (.int (i - j))
 | _,_=>none
def mV (i:Int):Bool:=decide (-(2 ^ 64)<i)&&decide (i<2 ^ 64)
def a3m (h:mV i=true):-(2 ^ 64)<i/\i<2 ^ 64:=by
 unfold mV at h;rw [qJ] at h;exact ⟨of_decide_eq_true h.1,of_decide_eq_true h.2⟩
def yY (x y:j0):Option j0:=match x,y with
 | .int i,.int j=>if mV i || mV j then some (.int (i*j)) else none
 | _,_=>none
def a1Y (x y d:j0) (h:yY x y=some d):OpD X .Mult x y d:=by
 unfold yY at h;split at h
 ·split at h
  ·rename_i hz
   cases (qB h);rw [vj] at hz;exact a4J b8q (hz.imp a3m a3m)
  ·cases h
 ·cases h
def a7C (x y:j0):Option j0:=match x,y with
 | .int i,.int j=>if 0<j then some (.int (i % j)) else none
 | _,_=>none
def a4O (x y d:j0) (h:a7C x y=some d):OpD X .Mod x y d:=by
 unfold a7C at h;split at h
 ·split at h
  ·rename_i hz
   cases (qB h);exact a4J b8r hz
  ·cases h
 ·cases h
def b6r (x y:j0):Option j0:=match x,y with
 | .int i,.int j=>if 0<j/\j<1073741824 then some (.int (i / j)) else none
 | _,_=>none
def b9e (x y d:j0) (h:b6r x y=some d):OpD X .FloorDiv x y d:=by
 unfold b6r at h;split at h
 ·split at h
  ·rename_i hz
   cases (qB h);exact a4J b5z hz
  ·cases h
 ·cases h
def ltD (x y:j0):Option Bool:=match x,y with
 | .int i,.int j=>some (decide (i<j))
 | _,_=>none
def leD (x y:j0):Option Bool:=match x,y with
 | .int i,.int j=>some (decide (i<=j))
 | .str i,.str j=>some (!decide (j.cps.toList<i.cps.toList))
 | _,_=>none
def gtD (x y:j0):Option Bool:=match x,y with
 | .int i,.int j=>some (decide (j<i))
 | _,_=>none
def geD (x y:j0):Option Bool:=match x,y with
 | .int i,.int j=>some (decide (j<=i))
 | _,_=>none
def a3G (x y:j0) (t:Bool) (h:ltD x y=some t):CmpD X .Lt x y t:=by
 unfold ltD at h;split at h
 ·cases (qB h);exact b9w
 ·cases h
def a8V (x y:j0) (t:Bool) (h:leD x y=some t):CmpD X .LtE x y t:=by
 unfold leD at h;split at h
 ·cases (qB h);exact b9x
 ·cases (qB h);exact b6K
 ·cases h
def b7r (x y:j0) (t:Bool) (h:gtD x y=some t):CmpD X .Gt x y t:=by
 unfold gtD at h;split at h
 ·cases (qB h);exact cmp_gt
 ·cases h
def c0Z (x y:j0) (t:Bool) (h:geD x y=some t):CmpD X .GtE x y t:=by
 unfold geD at h;split at h
 ·cases (qB h);exact b9y
 ·cases h
def eqD (x y:j0):Option Bool:=match x,y with
 | .int i,.int j=>some (decide (i=j))
 | .str i,.str j=>some (decide (i=j))
 | .bool i,.bool j=>some (decide (i=j))
 | x,y=>if qp x&&qp y then some (jd x y) else none
noncomputable def neD (x y:j0):Option Bool:=match x,y with
 | .int i,.int j=>some (!decide (i=j))
 | .str i,.str j=>some (!decide (i=j))
 | .bool i,.bool j=>some (!decide (i=j))
 | x,y=>if qp x&&qp y then some (!PyData.eqv x y) else none
def a9m (hu:X.A.units+64<cLine) (x y:j0) (t:Bool) (h:eqD x y=some t):CmpD X .Eq x y t:=by
 unfold eqD at h;split at h
 ·cases (qB h);exact b6O
 ·cases (qB h);exact b6N
 ·cases (qB h);exact b6P
 ·split at h
  ·rename_i hz
   rw [qJ] at hz;cases (qB h);exact b9z hu hz.1 hz.2
  ·cases h
def b7l (hu:X.A.units+64<cLine) (x y:j0) (t:Bool) (h:neD x y=some t):CmpD X .NotEq x y t:=by
 unfold neD at h;split at h
 ·cases (qB h);exact b6I
 ·cases (qB h);exact b6H
 ·cases (qB h);exact b6J
 ·split at h
  ·rename_i hz
   rw [qJ] at hz;cases (qB h);exact b9v hu hz.1 hz.2
  ·cases h
def inD (x y:j0):Option Bool:=match x,a1a y with
 | .int i,some ds=>(fK intD ds).map λns=>decide (i∈ns)
 | .str i,some ds=>(fK a2Z ds).map λns=>decide (i∈ns)
 | _,_=>none
def a1m {K:qC} (s:bG G H) (h:a1a y=some ds) (r:Rep K G v y):∃ p vs,v=.ref p/\(SqL K H p vs\/SqT K H p vs)/\RepAll K G vs ds:=by
 cases r with
 | list hq r=>cases (qB h);exact ⟨_,_,rfl,.inl (s.seq hq),r⟩
 | tuple hq r=>cases (qB h);exact ⟨_,_,rfl,.inr (nV s hq),r⟩
 | dict _ _ _=>cases h
 | fil _ _=>cases h
 | none=>cases h
 | bool _=>cases h
 | int _=>cases h
 | str _=>cases h
def c0U (x y:j0) (t:Bool) (h:inD x y=some t):CmpD X .In x y t:=by
 unfold inD at h;split at h
 ·rename_i i ds e
  obtain ⟨ns,e2,rfl⟩:=qO.mp h;have:=fE (g:=.int) (λd a q=>tJ q) e2;subst this
  exact ⟨_,a3z,λv u G H Q s rv ru q=>by
   obtain ⟨p,vs,rfl,hq,r⟩:=a1m s e ru;have e3:=r.ints;subst e3;cases rv
   exact ⟨p,_,rfl,hq,rfl,b0C ns,by rw [b3k];simpa using q⟩⟩
 ·rename_i i ds e
  obtain ⟨ns,e2,rfl⟩:=qO.mp h;have:=fE (g:=.str) (λd a q=>a1k q) e2;subst this
  exact ⟨_,a3z,λv u G H Q s rv ru q=>by
   obtain ⟨p,vs,rfl,hq,r⟩:=a1m s e ru;have e3:=r.strs;subst e3;cases rv
   exact ⟨p,_,rfl,hq,rfl,b0B ns,by rw [b3j];simpa using q⟩⟩
 ·cases h
def iQ (ds:T0l):Option j0:=match ds with
 | [.list xs]=>some (.int xs.length)
 | [.tuple xs]=>some (.int xs.length)
 | [.str z]=>if eF z.length then some (.int z.length) else none
 | _=>none
def iF (ds:T0l) (d:j0) (h:iQ ds=some d):CallD X (.builtin "len") ds d:=by
 unfold iQ at h;split at h
 ·cases (qB h)
  exact ⟨_,xY,λvs G H Q s r q=>by
   cases r with | cons r rr=>cases rr;cases r with | list hq r=>exact ⟨_,_,rfl,.inl (s.seq hq),by rw [r.length];exact q _ G H (.refl s) (.int _)⟩⟩
 ·cases (qB h)
  exact ⟨_,xY,λvs G H Q s r q=>by
   cases r with | cons r rr=>cases rr;cases r with | tuple hq r=>exact ⟨_,_,rfl,.inr (nV s hq),by rw [r.length];exact q _ G H (.refl s) (.int _)⟩⟩
 ·split at h
  ·rename_i hz
   cases (qB h)
   exact ⟨_,a5n,λvs G H Q s r q=>by
    cases r with | cons r rr=>cases rr;cases r with | str z=>exact ⟨_,rfl,iV hz,q _ G H (.refl s) (.int _)⟩⟩
  ·cases h
 ·cases h
def b0k (ds:T0l):Option j0:=match ds with
 | [.int i,.int j]=>some (.int (max i j))
 | [.list xs]=>(match fK intD xs with | some (n::ns)=>some (.int (a4Q (n::ns))) | _=>none)
 | _=>none
def a7F (ds:T0l):Option j0:=match ds with
 | [.int i,.int j]=>some (.int (min i j))
 | [.list xs]=>(match fK intD xs with | some (n::ns)=>some (.int (b2I (n::ns))) | _=>none)
 | _=>none
def b2J (hc:X.calm=true) (ds:T0l) (d:j0) (h:b0k ds=some d):CallD X (.builtin "max") ds d:=by
 unfold b0k at h;split at h
 ·rename_i i j
  cases (qB h)
  exact ⟨_,b0Q hc,λvs G H Q s r q=>by
   cases r with | cons r rr=>cases rr with | cons r' rr=>cases rr;cases r;cases r';exact ⟨i,j,rfl,by rw [show (if j > i then j else i)=max i j by split<;>omega];exact q _ G H (.refl s) (.int _)⟩⟩
 ·split at h
  ·rename_i xs n ns e
   cases (qB h);have:=fE (g:=.int) (λd a q=>tJ q) e;subst this
   exact ⟨_,b0P hc,λvs G H Q s r q=>by
    cases r with | cons r rr=>cases rr;cases r with | list hq r=>
     have e:=r.ints;subst e
     exact ⟨_,n::ns,rfl,s.seq hq,by simp,λM m1 m2=>by rw [a8U m1 m2];exact q _ G H (.refl s) (.int _)⟩⟩
  ·cases h
 ·cases h
def b2H (hc:X.calm=true) (ds:T0l) (d:j0) (h:a7F ds=some d):CallD X (.builtin "min") ds d:=by
 unfold a7F at h;split at h
 ·rename_i i j
  cases (qB h)
  exact ⟨_,b0O hc,λvs G H Q s r q=>by
   cases r with | cons r rr=>cases rr with | cons r' rr=>cases rr;cases r;cases r';exact ⟨i,j,rfl,by rw [show (if j<i then j else i)=min i j by split<;>omega];exact q _ G H (.refl s) (.int _)⟩⟩
 ·split at h
  ·rename_i xs n ns e
   cases (qB h);have:=fE (g:=.int) (λd a q=>tJ q) e;subst this
   exact ⟨_,b0N hc,λvs G H Q s r q=>by
    cases r with | cons r rr=>cases rr;cases r with | list hq r=>
     have e:=r.ints;subst e
     exact ⟨_,n::ns,rfl,s.seq hq,by simp,λM m1 m2=>by rw [b5Q m1 m2];exact q _ G H (.refl s) (.int _)⟩⟩
  ·cases h
 ·cases h
def allB (ds:T0l):Option j0:=match ds with
 | [.list xs]=>(fK oH xs).map λns=>.bool (ns.all id)
 | _=>none
def b9G (hc:X.calm=true) (ds:T0l) (d:j0) (h:allB ds=some d):CallD X (.builtin "all") ds d:=by
 unfold allB at h;split at h
 ·obtain ⟨ns,e,rfl⟩:=qO.mp h
  have:=fE (g:=.bool) (λd a q=>yB q) e;subst this
  exact ⟨_,b0T hc,λvs G H Q s r q=>by
   cases r with | cons r rr=>cases rr;cases r with | list hq r=>
    have e:=r.bools;subst e
    exact ⟨_,ns,rfl,s.seq hq,q _ G H (.refl s) (.bool _)⟩⟩
 ·cases h
def a7i (ds:T0l):Option j0:=match ds with
 | [.list xs]=>some (.tuple xs)
 | [.tuple xs]=>some (.tuple xs)
 | _=>none
def b1v (ds:T0l) (d:j0) (h:a7i ds=some d):CallD X (.type "tuple") ds d:=by
 unfold a7i at h;split at h
 ·cases (qB h)
  exact ⟨_,uB,λvs G H Q s r q=>by
   cases r with | cons r rr=>cases rr;cases r with | list hq r=>exact ⟨_,_,rfl,.inl ⟨s.seq hq,λl hl=>q _ _ _ (.put s hl) (.tuple (.of aG) (r.mono (bF (s.free hl))))⟩⟩⟩
 ·cases (qB h)
  exact ⟨_,uB,λvs G H Q s r q=>by
   cases r with | cons r rr=>cases rr;cases r with | tuple hq r=>exact ⟨_,_,rfl,.inr ⟨nV s hq,q _ G H (.refl s) (.tuple hq r)⟩⟩⟩
 ·cases h
def c0O (ds:T0l):Option j0:=match ds with
 | [.list xs]=>some (.list xs)
 | [.tuple xs]=>some (.list xs)
 | _=>none
def c2v (ds:T0l):Option j0:=match ds with
 | [.bool b]=>some (.int (if b then 1 else 0))
 | [.int i]=>some (.int i)
 | _=>none
end
def b5K:j0->Option j0
 | .int i=>some (.int (-i))
 | _=>none
def op1 (g:j0->Option j0) (fa:EF):EF:=λρ=>bnd (fa ρ) λx=>lft (g x)
def b4f (ha:DE X a fa):DE X (.UnaryOp .USub a pos) (op1 b5K fa):=⟨λpz s σ H Q I ⟨ρ,r,H0,Gz,G,e,R,q⟩=>b7i b1r ha.run pz s σ H Q I (bE R e q.x λx v G1 H1 g1 R1 rv e1=>by
 obtain ⟨d,ed,rfl⟩:=bL e1;cases x with
 | int i=>cases (qB ed);cases rv;exact ⟨_,rfl,q _ _ _ g1 (.int _)⟩
 | none=>cases ed
 | bool _=>cases ed
 | str _=>cases ed
 | list _=>cases ed
 | tuple _=>cases ed
 | dict _=>cases ed)⟩
noncomputable def c1i (g1 g2 g3:j0->j0->Option Bool) (fa fb fc fd:EF):EF:=λρ=>bnd (fa ρ) λx=>bnd (fb ρ) λy=>bnd (lft (g1 x y)) λt=>if t then bnd (fc ρ) λz=>bnd (lft (g2 y z)) λu=>if u then bnd (fd ρ) λw=>lft ((g3 z w).map .bool) else some (.ok (.bool false)) else some (.ok (.bool false))
def isB (k x:j0):Option Bool:=match k,x with
 | .none,.none=>some true
 | .none,.bool _=>some false
 | .none,.int _=>some false
 | .none,.str _=>some false
 | .none,.list _=>some false
 | .none,.tuple _=>some false
 | .none,.dict _=>some false
 | .bool a,.bool b=>some (b==a)
 | _,_=>none
def isE (neg:Bool) (k:j0) (fa:EF):EF:=λρ=>bnd (fa ρ) λx=>lft ((isB k x).map λt=>.bool (neg != t))
def isT (neg:Bool) (k:j0) (fa:EF):TF:=λρ=>bnd (fa ρ) λx=>lft ((isB k x).map λt=>neg != t)
abbrev OF:=List Ent->Mm (Option Int)
def xH:OF:=λ_=>some (.ok none)
def rY (fa:EF):OF:=λρ=>bnd (fa ρ) λx=>lft ((intD x).map some)
def slD (x:j0) (lo hi:Option Int):Option j0:=match x with
 | .list ds=>some (.list (cutD ds lo hi))
 | .tuple ds=>if HT.sIx ds.length 0 lo=0/\HT.sIx ds.length ds.length hi=ds.length then none else some (.tuple (cutD ds lo hi))
 | _=>none
def slE (fa:EF) (lo hi:OF):EF:=λρ=>bnd (fa ρ) λx=>bnd (lo ρ) λl=>bnd (hi ρ) λh=>lft (slD x l h)
def a6a (x y:j0):Option j0:=match x with
 | .list xs=>(match fK intD xs with | some []=>some y | some (n::ns)=>some (.int (a4Q (n::ns))) | none=>none)
 | _=>none
def tyI:j0->Option Bool
 | .int _=>some true
 | .bool _=>some true
 | .dict _=>none
 | _=>some false
def tyB:j0->Option Bool
 | .bool _=>some true
 | .dict _=>none
 | _=>some false
def tyS:j0->Option Bool
 | .str _=>some true
 | .dict _=>none
 | _=>some false
def tyT:j0->Option Bool
 | .tuple _=>some true
 | .dict _=>none
 | _=>some false
def b0u (T:String) (x:j0):Option Bool:=if T = "int" then tyI x else if T = "bool" then tyB x else if T = "str" then tyS x else if T = "tuple" then tyT x else none
def isD (T:String) (x:j0):Option j0:=(b0u T x).map .bool
def b1j (a b:T0l):List j0:=(a.zip b).map λp=>.tuple [p.1,p.2]
def a7k:SF:=λ_=>none
def lX (ns:T0s):List Int:=ns.foldl (λa n=>if n∈a then a else a++[n]) []
def uT (ns:T0q):List Str:=ns.foldl (λa n=>if n∈a then a else a++[n]) []
def cO (a b:Str):Bool:=!decide (b.cps.toList<a.cps.toList)
def xA (ns:T0q):List Str:=ns.mergeSort cO
section
variable {d:Expr} {fd:EF}
def b8t:OpR X (wf .Is) (λx y H Q=>∃ c d,x=.bl c/\y=.bl d/\Q (.bl (c==d)) H):=by
 intro pz s σ H x y v u Q I rx ry ⟨c,d,e1,e2,q⟩;subst e1 e2;cases rx;cases ry;exact is_bool (bH I q rfl)
def b5y:OpR X (wf .IsNot) (λx y H Q=>∃ c d,x=.bl c/\y=.bl d/\Q (.bl (c != d)) H):=by
 intro pz s σ H x y v u Q I rx ry ⟨c,d,e1,e2,q⟩;subst e1 e2;cases rx;cases ry;exact isnot_bool (bH I q rfl)
def b6M {x:j0} (h:isB .none x=some t):CmpD X .Is x .none t:=⟨_,b8s,λv u G H Q s rv ru q=>by
 cases ru;refine ⟨rfl,?_⟩
 cases rv<;>(have h:=qB h;subst h;simpa using q)⟩
def b4j {x:j0} (h:isB .none x=some t):CmpD X .IsNot x .none (true != t):=⟨_,b5x,λv u G H Q s rv ru q=>by
 cases ru;refine ⟨rfl,?_⟩
 cases rv<;>(have h:=qB h;subst h;simpa using q)⟩
def a6r {c:Bool} {x:j0} (h:isB (.bool c) x=some t):∃ d,x=.bool d/\t=(d==c):=by
 cases x<;>first | (cases h;done) | (exact ⟨_,rfl,(qB h).symm⟩)
def b6L {c:Bool} {x:j0} (h:isB (.bool c) x=some t):CmpD X .Is x (.bool c) t:=by
 obtain ⟨d,rfl,rfl⟩:=a6r h;exact ⟨_,b8t,λv u G H Q s rv ru q=>by cases rv;cases ru;exact ⟨_,_,rfl,rfl,q⟩⟩
def b4i {c:Bool} {x:j0} (h:isB (.bool c) x=some t):CmpD X .IsNot x (.bool c) (true != t):=by
 obtain ⟨d,rfl,rfl⟩:=a6r h;exact ⟨_,b5y,λv u G H Q s rv ru q=>by cases rv;cases ru;exact ⟨_,_,rfl,rfl,by cases d<;>cases c<;>exact q⟩⟩
def isG (neg:Bool) (k:j0) (x y:j0):Option Bool:=match k,y with
 | .none,.none=>(isB k x).map λt=>neg != t
 | .bool a,.bool b=>if a=b then (isB k x).map λt=>neg != t else none
 | _,_=>none
def a7M (neg:Bool) (k:j0) (hk:k=.none\/∃ c,k=.bool c):isT neg k fa=iC (isG neg k) fa (cst k):=by
 funext ρ
 unfold isT iC cst;cases fa ρ with
 | none=>rfl
 | some r=>cases r with
  | ex c=>rfl
  | ok x=>
   rcases hk with rfl | ⟨c,rfl⟩
   ·rfl
   ·show lft _=lft _;simp only [isG,if_pos]
def b8V {k x:j0} (h:isG false k x y=some t):CmpD X .Is x y t:=by
 unfold isG at h;split at h
 ·obtain ⟨t',e,rfl⟩:=qO.mp h
  have:=b6M (X:=X) e;cases t'<;>exact this
 ·split at h
  ·rename_i hab
   subst hab;obtain ⟨t',e,rfl⟩:=qO.mp h;have:=b6L (X:=X) e;cases t'<;>exact this
  ·cases h
 ·cases h
def a9e {k x:j0} (h:isG true k x y=some t):CmpD X .IsNot x y t:=by
 unfold isG at h;split at h
 ·obtain ⟨t',e,rfl⟩:=qO.mp h
  exact b4j (X:=X) e
 ·split at h
  ·rename_i hab
   subst hab;obtain ⟨t',e,rfl⟩:=qO.mp h;exact b4i (X:=X) e
  ·cases h
 ·cases h
def uS {j:_} (ha:DE X a fa):DT X (.Compare a [.Is] [.Constant .none j p] pos) (isT false .none fa):=by rw [a7M _ _ (.inl rfl)];exact cI (λ_ _ _ h=>b8V h) ha pQ
def tW {j:_} (ha:DE X a fa):DT X (.Compare a [.IsNot] [.Constant .none j p] pos) (isT true .none fa):=by rw [a7M _ _ (.inl rfl)];exact cI (λ_ _ _ h=>a9e h) ha pQ
def a3f {k:Bool} {j:_} (ha:DE X a fa):DT X (.Compare a [.IsNot] [.Constant (.bool k) j p] pos) (isT true (.bool k) fa):=by rw [a7M _ _ (.inr ⟨_,rfl⟩)];exact cI (λ_ _ _ h=>a9e h) ha fB
end
def Inv.turnNew {T:Addr} (ch:T0o) (I:Inv X pz σ H s) (hf:∀ b∈ch,yF X pz H b)
  (k:∀ b o,b∉ch->s.heap.get? b=some o->h'.get? b=some o) (hT:s.heap.objs.size<=T) (new:bZ X.prog X.w (upd H T (.tup xs)) h' T (.tup xs)):Inv X pz σ (upd H T (.tup xs)) { s with heap:=h',toks:=t' }:=by
 have nT:H T=none:=I.hok.fresh hT;have ne:∀ b o,s.heap.get? b=some o->b≠T:=λb o e=>qW (qX (qM e) hT);have up:∀ b u,H b=some u->upd H T (.tup xs) b=some u:=λb u e=>by rw [aE (aR e nT)];exact e
 refine I.step (g':=s.gens) (d':=s.drawn) (ch:=ch) (λb hb=>?_) (λb o _ _ hc e _=>k b o hc e) (λb o _ _ hc e _=>⟨o.slots,k b o hc e⟩) (λb o _ e n=>by rw [aE (ne b o e)];exact n)
  (λb o hc e=>⟨o,k b o hc e⟩) (λb u e=>up b _ e) (λb o u e=>up b _ e) (λb ps e=>⟨#[],by rw [up b _ e];simp⟩) (λm hm=>?_) (λb u e=>?_) I.bare
 ·obtain ⟨f0,f1,f2,f3,f4,f5⟩:=hf b hb
  exact ⟨f3,f1,f4,f5⟩
 ·obtain ⟨o,es,ep,ho,r⟩:=hm
  exact ⟨o,es,ep,k _ o (λz=>(hf _ z).2.1 rfl) ho,r⟩
 ·by_cases hb:b=T
  ·subst hb
   rw [aG] at e;cases e;exact new
  ·rw [aE hb] at e
   refine (I.hok b u e).stay (λc v hc q=>k c v (λz=>?_) q) (λq e'=>up _ _ e') λc v q=>up _ _ q;have f0:=(hf c z).1;rcases hc with z' | z'
   ·rw [z',e] at f0;cases f0
   ·rw [z'] at f0;cases f0
def Inv.turnAll (ch:T0o) (I:Inv X pz σ H s) (hf:∀ b∈ch,yF X pz H b)
  (k:∀ b o,b∉ch->s.heap.get? b=some o->h'.get? b=some o):Inv X pz σ H { s with heap:=h',toks:=t' }:=by
 refine I.step (g':=s.gens) (d':=s.drawn) (ch:=ch) (λb hb=>?_) (λb o _ _ hc e _=>k b o hc e) (λb o _ _ hc e _=>⟨o.slots,k b o hc e⟩) (λb o _ e n=>n)
  (λb o hc e=>⟨o,k b o hc e⟩) (λb u e=>e) (λb o u e=>e) (λb ps e=>⟨#[],by rw [e];simp⟩) (λm hm=>?_) (λb u e=>?_) I.bare
 ·obtain ⟨f0,f1,f2,f3,f4,f5⟩:=hf b hb
  exact ⟨f3,f1,f4,f5⟩
 ·obtain ⟨o,es,ep,ho,r⟩:=hm
  exact ⟨o,es,ep,k _ o (λz=>(hf _ z).2.1 rfl) ho,r⟩
 ·refine (I.hok b u e).stay (λc v hc q=>k c v (λz=>?_) q) (λq e'=>e') λc v q=>q
  have f0:=(hf c z).1;rcases hc with z' | z'
  ·rw [z',e] at f0;cases f0
  ·rw [z'] at f0;cases f0
end L2.L3
variable {ρ ρ' ρ1 ρ2:List L2.L3.Ent} {fa fb fc fe fk fv fx:L2.L3.EF} {ft fu:L2.L3.TF} {fi aa:L2.L3.AF} {fl fh:L2.L3.OF} {L:List L2.L3.Mt}
namespace L2.SX
open PySem
def sO (xs:Array Nat):Prop:=xs.toList.Pairwise (·<·)
variable {xs:Array Nat}
theorem sO.lt (h:sO xs) (hij:i<j) (hj:j<xs.size):xs[i]<xs[j]:=by
 have:=kP.mp h i j (by simpa using vf hij hj) (by simpa using hj) hij;simpa using this
theorem b3r {xs:Array Nat} {j:Nat} (h:sO xs):∀ (fuel lo hi:Nat),hi - lo<=fuel->lo<=hi->hi<=xs.size->(∀ i (hi':i<xs.size),i<lo->xs[i]<j)->(∀ i (hi':i<xs.size),hi<=i->j<=xs[i]) ->
  zo xs j fuel lo hi<=xs.size/\(∀ i (hi':i<xs.size),i<zo xs j fuel lo hi->xs[i]<j)/\∀ i (hi':i<xs.size),zo xs j fuel lo hi<=i->j<=xs[i]
 | 0,lo,hi,hf,hl,hs,h1,h2=>by
  have:lo=hi:=by omega
  subst this;unfold zo;exact ⟨hs,h1,h2⟩
 | fuel+1,lo,hi,hf,hl,hs,h1,h2=>by
  unfold zo;by_cases hlt:lo<hi
  ·rw [if_pos hlt]
   dsimp only;have hm:(lo+hi) / 2<xs.size:=by omega
   have hg:xs.getD ((lo+hi) / 2) j=xs[(lo+hi) / 2]:=by simp [zp,hm]
   rw [hg];by_cases hc:xs[(lo+hi) / 2]<j
   ·rw [if_pos hc]
    refine b3r h fuel _ hi (by omega) (by omega) hs (λi hi' hlt'=>?_) h2;by_cases he:i=(lo+hi) / 2
    ·subst he;exact hc
    ·exact vf (h.lt (by omega) hm) hc
   ·rw [if_neg hc]
    refine b3r h fuel lo _ (by omega) (by omega) (by omega) h1 (λi hi' hge=>?_);by_cases he:i=(lo+hi) / 2
    ·subst he;omega
    ·have:=h.lt (i:=(lo+hi) / 2) (j:=i) (by omega) hi'
     omega
  ·rw [if_neg hlt]
   have:lo=hi:=by omega
   subst this;exact ⟨hs,h1,h2⟩
def a2M (h:sO xs) (j:Nat):qg xs j<=xs.size/\(∀ i (hi':i<xs.size),i<qg xs j->xs[i]<j)/\∀ i (hi':i<xs.size),qg xs j<=i->j<=xs[i]:=
 b3r h _ _ _ (by omega) (jB _) (qN _) (λ_ _ z=>absurd z (by omega)) (λi hi' z=>absurd z (by omega))
def a8q (h:sO xs) (hi:i<xs.size):qg xs (xs[i]+1)=i+1:=by
 obtain ⟨b1,b2,b3⟩:=a2M h (xs[i]+1);have c1:¬qg xs (xs[i]+1)<=i:=λz=>by have:=b3 i hi z;omega
 have c2:¬i+1<qg xs (xs[i]+1):=λz=>by
  have lt:i+1<xs.size:=by omega
  have:=b2 (i+1) lt z;have:=h.lt (i:=i) (j:=i+1) (by omega) lt;omega
 omega
def a8p (xs:Array Nat) (h:sO xs):qg xs 0=0:=by
 obtain ⟨b1,b2,b3⟩:=a2M h 0;cases e:qg xs 0 with
 | zero=>rfl
 | succ n=>
  have:=b2 0 (by omega) (by omega);omega
def b1S (h:sO xs) (hn:xs[qg xs j]?≠some j):sO (j7.insertAt xs (qg xs j) j):=by
 obtain ⟨b1,b2,b3⟩:=a2M h j;unfold sO;rw [j7.toList_insertAt,kz];have ne:∀ i (hi':i<xs.size),qg xs j<=i->j<xs[i]:=λi hi' hge=>by
  have a:=b3 i hi' hge;by_cases e:xs[i]=j
  ·exfalso
   by_cases e2:i=qg xs j
   ·exact hn (by rw [<-e2];simp [hi',e])
   ·have lt:qg xs j<i:=by omega
    have:=h.lt (i:=qg xs j) (j:=i) lt hi';have:=b3 (qg xs j) (by omega) (qN _);omega
  ·omega
 refine ⟨h.sublist (List.take_sublist _ _),?_,λa ha b hb=>?_⟩
 ·rw [jL]
  refine ⟨λa ha=>?_,h.sublist (List.drop_sublist _ _)⟩;obtain ⟨k,hk,e⟩:=jz.mp ha;rw [List.getElem_drop] at e;subst e;have:qg xs j+k<xs.size:=by simpa using (by rw [zj,qP] at hk;omega:qg xs j+k<xs.size)
  have:=ne (qg xs j+k) this (by omega);simpa using this
 ·obtain ⟨k,hk,e⟩:=jz.mp ha
  rw [List.getElem_take] at e;subst e;rw [jQ,qP] at hk;have k1:k<xs.size:=by omega
  have ak:=b2 k k1 (by omega);have ak':xs.toList[k]'(by simpa using k1)<j:=by simpa using ak
  rcases qG.mp hb with rfl | hb
  ·exact ak'
  ·obtain ⟨k',hk',e'⟩:=jz.mp hb
   rw [List.getElem_drop] at e';subst e';have k2:qg xs j+k'<xs.size:=by rw [zj,qP] at hk';omega
   have:=ne (qg xs j+k') k2 (by omega);have:j<xs.toList[qg xs j+k']'(by simpa using k2):=by simpa using this
   omega
structure TOk (t:j7) (led:Bool):Prop where
 led:t.led=led
 rise:t.plain=true->sO t.place
theorem TOk.fresh (led:Bool):TOk (j7.fresh 0 0 led) led:=⟨rfl,λ_=>by simp [j7.fresh,sO]⟩
theorem TOk.standIn {t:j7} {led:Bool} (h:TOk t led) (n:Nat):TOk (t.standIn n) led:=⟨h.led,λz=>by cases z⟩
variable {t:j7}
theorem TOk.off (h:TOk t led):TOk { t with plain:=false } led:=⟨h.led,λz=>by cases z⟩
theorem TOk.orStandIn {t:j7} {led:Bool} (h:TOk t led) (n:Nat):TOk (t.orStandIn n) led:=by
 unfold j7.orStandIn;split
 ·exact h
 ·exact h.standIn n
def a9R (h:t.slot j=.empty\/t.slot j=.dummy):t.place[qg t.place j]?≠some j:=by
 intro z;have:t.slot j=.live (qg t.place j):=by
  unfold j7.slot;dsimp only;rw [if_pos (by rw [z];simp)]
 rcases h with h | h<;>(rw [this] at h;cases h)
theorem uI {t:j7} {f:Nat->Int} {h:Int}:∀ (fuel:Nat) (p:j7.Probe) (j:Nat) (d:Option Nat),(∀ k,p.dummy=some k->t.slot k=.dummy)->j7.probe.go t f h fuel p=some (.empty j d) ->
  (t.slot j=.empty)/\∀ k,d=some k->t.slot k=.dummy
 | 0,p,j,d,_,e=>by unfold j7.probe.go at e;cases e
 | fuel+1,p,j,d,hd,e=>by
  unfold j7.probe.go at e;split at e
  ·rename_i es
   cases (qB e);exact ⟨es,hd⟩
  ·rename_i es
   refine uI fuel _ j d (λk hk=>?_) e;have adv:∀ q:j7.Probe,(t.advance q).dummy=q.dummy:=λq=>by unfold j7.advance;split<;>rfl
   rw [adv] at hk;cases hk;exact es
  ·split at e
   ·cases e
   ·refine uI fuel _ j d (λk hk=>?_) e
    have adv:∀ q:j7.Probe,(t.advance q).dummy=q.dummy:=λq=>by unfold j7.advance;split<;>rfl
    rw [adv] at hk;exact hd k hk
theorem TOk.layNew {t:j7} {led:Bool} (h:TOk t led) (es:Array (Int×Value)) (hs:Int) (x:Value):TOk (layNew t es hs x).2.1 led:=by
 unfold PySem.layNew;split
 ·rename_i slot wd e
  dsimp only;have hput:TOk (t.put slot).1 led:=by
   refine ⟨h.led,λhp=>?_⟩;have hr:sO t.place:=h.rise hp;refine b1S hr (a9R ?_);unfold j7.freeSlot j7.probe at e;split at e
   ·rename_i j d em
    obtain ⟨a,b⟩:=uI _ _ j d (λk hk=>by simp [j7.probeStart] at hk) em;cases (qB e);cases d with
    | none=>exact .inl a
    | some k=>exact .inr (b k rfl)
   ·cases e
  exact hput.orStandIn _
 ·exact h.standIn _
theorem TOk.relayAll {t:j7} {led:Bool} (h:TOk t led) (es:Array (Int×Value)) (wanted:Nat):TOk (relayAll t es wanted).2.1 led:=by
 unfold PySem.relayAll;split
 ·rename_i t' order e
  dsimp only;split
  ·unfold j7.relaid j7.laid at e
   cases ho:j7.layClean (kR wanted - 1) (es.map (·.1)) with
   | none=>rw [ho] at e;cases e
   | some owner=>
    rw [ho] at e;have e:=qB e;have e1:=(congrArg Prod.fst e).symm;dsimp only at e1;subst e1;refine ⟨h.led,λ_=>?_⟩;show List.Pairwise (·<·) _;simp only [zt];rw [kD,List.pairwise_filterMap];refine List.pairwise_lt_range.imp ?_;intro a b hab x hx y hy;obtain ⟨u,_,rfl⟩:=qO.mp hx;obtain ⟨v,_,rfl⟩:=qO.mp hy;exact hab
  ·exact h.standIn _
 ·exact h.standIn _
end L2.SX
namespace L2.SX
open PySem PyProof.Rows
variable {es:Array (Int×Value)} {t:j7}
section
variable {K:Type} [DecidableEq K]
structure Good (knd:KeyKind prog w K) (h:Heap) (a:Addr) (ks:List K) (led:Bool):Prop where
 ex:∃ o es ep t,h.get? a=some o/\o.ExactSet/\o.data=.set es ep t/\ElemsOf knd es.toList/\(∀ k,k∈ks↔∃ e∈es.toList,knd.is k e.2=true)/\es.size=ks.length/\t.fits es.size=true/\TOk t led
 nd:ks.Nodup
 few:ks.length<ui
def addK (ks:List K) (k:K):List K:=if k∈ks then ks else ks++[k]
variable {knd:KeyKind prog w K} {ks:List K}
theorem Good.keeps {h:Heap} (g:Good knd h a ks led) (k:∀ o,h.get? a=some o->h'.get? a=some o):Good knd h' a ks led:=by
 obtain ⟨o,es,ep,t,ho,r⟩:=g.ex;exact ⟨⟨o,es,ep,t,k o ho,r⟩,g.nd,g.few⟩
def stored {h:Heap} {o:Obj} {es':Array (Int×Value)} {t':j7} (ho:h.get? a=some o) (hd:o.data=.set es ep t):(h.update a (Obj.putSet es' t')).get? a=some { o with data:=.set es' (ep+1) t' }:=by
 have e:=putSet_of es' t' hd;have q:=kA (Obj.putSet es' t') ho (by rw [e];rfl);rw [e] at q;exact q
def cD {k:K} {x:Value} {Q:Bool->Shared->Prop} (hkey:knd.is k x=true) (hsc:x.scannable=true) (g:Good knd s.heap a ks led) (hroom:ks.length+1<ui)
  (h:∀ h' b,kB a s.heap h'->Good knd h' a (addK ks k) led->Q b { s with heap:=h' }):wpAny (model prog w) A (setAddHashed a x (knd.hash k)) Q E s:=by
 obtain ⟨o,es,ep,t,ho,hex,hd,hel,hmem,hn,hf,hT⟩:=g.ex;have hb:es.size<ui:=by rw [hn];exact g.few
 unfold setAddHashed setAddHashedIn;refine v8 (q8 (yd ho hd hf ?_));dsimp only;rw [byScan_of hsc hb hel];simp only [↓reduceIte];unfold setAddByScan;refine q8 (q8 (wp (q8 (wpAny_setScan_of hkey ho hd hf hel ?_))));cases hr:List.findIdx? (λe=>knd.is k e.2) es.toList with
 | some j=>
  dsimp only;obtain ⟨hj,hpj,_⟩:=List.findIdx?_eq_some_iff_getElem.mp hr;have hk:k∈ks:=(hmem k).mpr ⟨es.toList[j],jy hj,hpj⟩;refine j3 (j3 ?_);have q:=h s.heap false (Heap.SameBut.refl a s.heap) (by unfold addK;rw [if_pos hk];exact g);exact q
 | none=>
  dsimp only;have hk:k∉ks:=λz=>by
   obtain ⟨e,he,hp⟩:=(hmem k).mp z;have:=List.findIdx?_eq_none_iff.mp hr e he;rw [hp] at this;cases this
  have gone:∀ (b:Bool) {s1z:Shared} {Q':Unit->Shared->Prop},Q' () s1z->wpAny (model prog w) A (match b with | true=>rule "set.scan.the-table-gave-way" | false=>pure ()) Q' E s1z:=by
   intro b s1z Q' q;cases b
   ·exact j3 q
   ·exact wp q
  have hperm:=layNew_perm t es (knd.hash k) x;have hfits:=layNew_fits t es (knd.hash k) x;have hTL:=hT.layNew es (knd.hash k) x;generalize layNew t es (knd.hash k) x=L at hperm hfits hTL ⊢;obtain ⟨es1,t1,wd,gave⟩:=L;dsimp only at hperm hfits hTL ⊢;rw [Array.toList_push] at hperm;have hel1:ElemsOf knd es1.toList:=(hel.push hkey hsc).perm hperm;have hmem1:∀ k',k'∈addK ks k↔∃ e∈es1.toList,knd.is k' e.2=true:=by
   intro k';unfold addK;rw [if_neg hk,jD,qL,hmem k'];constructor
   ·rintro (⟨e,he,hp⟩ | rfl)
    ·exact ⟨e,hperm.mem_iff.mpr (kQ _ he),hp⟩
    ·exact ⟨_,hperm.mem_iff.mpr (qo _ (qL.mpr rfl)),hkey⟩
   ·rintro ⟨e,he,hp⟩
    rcases jD.mp (hperm.mem_iff.mp he) with he | he
    ·exact .inl ⟨e,he,hp⟩
    ·rw [qL] at he
     subst he;exact .inr (knd.inj x k' k hp hkey)
  have hlen:(addK ks k).length=ks.length+1:=by unfold addK;rw [if_neg hk];simp
  have hsz1:es1.size=(addK ks k).length:=by rw [hlen,<-hn,<-qP,hperm.length_eq];simp
  have hb1:es1.size<ui:=by rw [hsz1,hlen];exact hroom
  have hnd:(addK ks k).Nodup:=by
   unfold addK;rw [if_neg hk,kE];exact ⟨g.nd,by simp,λa ha b hb=>by rw [qL] at hb;subst hb;exact λz=>hk (z▸ha)⟩
  have tail:∀ {gv:Bool->Sem Unit} (hgv:∀ (b:Bool) (s1z:Shared) (Q':Unit->Shared->Prop),Q' () s1z->wpAny (model prog w) A (gv b) Q' E s1z) {t2:j7},t2.fits es1.size=true->TOk t2 led->∀ {R:Option Bool->Shared->Prop},(∀ h',kB a s.heap h'->Good knd h' a (addK ks k) led->R (some true) { s with heap:=h' }) ->
    wpAny (model prog w) A (do
     storeSet a es1 t2
     if (!wd&&t2.tooFull)=true then do
       gv (relayAll t2 es1 (zK es1.size)).2.2
       storeSet a (relayAll t2 es1 (zK es1.size)).1 (relayAll t2 es1 (zK es1.size)).2.1
       pure (some true)
      else pure (some true)) R E s:=by
   intro gv hgv t2 hf2 hT2 R hR;refine q8 (QG ho hd ?_ (fits_of_scanBound hb1));have ho1:=stored (es':=es1) (t':=t2) ho hd;have sb1:=jv s.heap a (Obj.putSet es1 t2);split
   ·have p2:=relayAll_perm t2 es1 (zK es1.size)
    have f2:=relayAll_fits t2 es1 (zK es1.size);have hT3:=hT2.relayAll es1 (zK es1.size);generalize relayAll t2 es1 (zK es1.size)=W at p2 f2 hT3 ⊢;obtain ⟨es2,t3,gv2⟩:=W;dsimp only at p2 f2 hT3 ⊢;have sz2:es2.size=es1.size:=by rw [<-qP,p2.length_eq,qP]
    refine q8 (hgv _ _ _ ?_);refine q8 (QG ho1 rfl ?_ (fits_of_scanBound (by rw [sz2];exact hb1)));have ho2:=stored (a:=a) (es':=es2) (t':=t3) ho1 rfl;refine j3 (hR _ (sb1.trans (jv _ a _)) ⟨⟨_,es2,_,t3,ho2,hex,rfl,hel1.perm p2,λk'=>(hmem1 k').trans ⟨λ⟨e,he,q⟩=>⟨e,p2.mem_iff.mpr he,q⟩,λ⟨e,he,q⟩=>⟨e,p2.mem_iff.mp he,q⟩⟩,by rw [sz2];exact hsz1,f2,hT3⟩,hnd,by rw [hlen];exact hroom⟩)
   ·exact j3 (hR _ sb1 ⟨⟨_,es1,_,t2,ho1,hex,rfl,hel1,hmem1,hsz1,hf2,hT2⟩,hnd,by rw [hlen];exact hroom⟩)
  refine q8 (gone _ ?_);split
  ·refine q8 ?_
   rw [hashByValue_scannable 8 hsc];refine j3 ?_;split
   ·refine tail (λb s1z Q' q=>by cases b<;>first | exact j3 q | exact wp q) hfits hTL λh' sb gg=>?_
    dsimp only;exact j3 (h h' true sb gg)
   ·refine tail (λb s1z Q' q=>by cases b<;>first | exact j3 q | exact wp q) (j7.fits_plain_off hfits) hTL.off λh' sb gg=>?_
    dsimp only;exact j3 (h h' true sb gg)
  ·refine q8 (j3 ?_)
   simp only [↓reduceIte];refine tail (λb s1z Q' q=>by cases b<;>first | exact j3 q | exact wp q) hfits hTL λh' sb gg=>?_;dsimp only;exact j3 (h h' true sb gg)
end
section
variable {K:Type} [DecidableEq K] {knd:KeyKind prog w K} {R:Result->Shared->Prop} {wr:T0o} {G:Array QT->Array QT->Prop} {P:Nat->Value->Prop} {St:Nat->Shared->Prop}
def metK (val:Nat->K) (i:Nat):List K:=((qm i).map val).foldl addK []
def a3E (val:Nat->K) (i:Nat):metK val (i+1)=addK (metK val i) (val i):=by unfold metK;rw [List.range_succ,qc,List.foldl_append];rfl
theorem metK_len (val:Nat->K):∀ i,(metK val i).length<=i
 | 0=>by simp [metK]
 | i+1=>by
  have:=metK_len val i;rw [a3E];unfold addK;split
  ·omega
  ·simp;omega
def b5U (W:WalksS prog w A.in1 I fp wr G n P St) (S:Addr) (hSf:S∉fp) (val:Nat->K) (hval:∀ i v,P i v->knd.is (val i) v=true/\v.scannable=true)
  (hpy:∀ i v (A':Around) (E':T0a) (s':Shared) (Q':Int->Shared->Prop),P i v->Q' (knd.hash (val i)) { s' with toks:=s'.toks+1 }->wpAny (model prog w) A' (pyHash v) Q' E' s') (hb:n+1<ui):
  ∀ (m i:Nat) (s:Shared),n - i=m->i<=n->St i s->Good knd s.heap S (metK val i) led->(∀ s',Moved (S::wr) G s s'->Good knd s'.heap S (metK val n) led->R (.ok (.ret .none)) s') ->
   yo (model prog w) A (.builtin "set.update.loop" ⟨[.ref S,.ref I],[]⟩) R s:=by
 have nw:S∉wr:=λz=>hSf (W.sub _ z);have up:∀ b∈wr,b∈S::wr:=λb hb=>qF _ hb;intro m
 induction m with
 | zero=>
  intro i s hm hi st g hR;obtain rfl:i=n:=by omega
  refine k9 F.entry_set_update_loop ?_;rw [qy wU _];show wpAny _ A.in1 (yf (.ref I)>>=_) _ _ s;refine q8 (W.done s _ _ st λs' mv=>?_);exact j3 (hR s' (mv.mono up) (g.keeps λo e=>mv.heap S o nw e))
 | succ m ih=>
  intro i s hm hi st g hR;have lt:i<n:=by omega
  refine k9 F.entry_set_update_loop ?_;rw [qy wU _];show wpAny _ A.in1 (yf (.ref I)>>=_) _ _ s;refine q8 (W.item i s _ _ lt st λv s' pv st' mv=>?_);have g':=g.keeps (h':=s'.heap) λo e=>mv.heap S o nw e;obtain ⟨hk,hsc⟩:=hval i v pv;show wpAny _ A.in1 (holding [v] (setAdd S v)>>=_) _ _ s';refine q8 (v8 ?_);unfold setAdd;refine v8 (q8 (hpy i v _ _ _ _ pv ?_));have room:(metK val i).length+1<ui:=by have:=metK_len val i;omega
  refine cD (knd:=knd) (s:={ s' with toks:=s'.toks+1 }) hk hsc g' room λh' b sb g2=>?_;rw [<-a3E] at g2;refine j3 ⟨wx wU _,ih (i+1) _ (by omega) lt (W.frame _ s' _ _ st' (jx _) λc hc o e=>?_) g2 λs'' mv'' g''=>?_⟩
  ·rw [sb.2 c (λz:c=S=>hSf (z▸hc))]
   exact e
  ·refine hR s'' (Moved.trans W.gtrans ((mv.mono up).then_heap (jx _) λc o hc e=>?_) mv'') g''
   rw [sb.2 c (λz:c=S=>hc (by rw [z];exact qY))];exact e
end
def ledOf (w:World):Bool:=!w.params.followText "set-order"
abbrev cU (w:World):Obj:={ cls:=.type "set", dict:=none,data:=.set #[] 0 (.fresh 0 0 (ledOf w)) }
section
variable {K:Type} [DecidableEq K] {knd:KeyKind prog w K}
def a6u (h:Heap):Good knd (h.push (cU w)) h.objs.size [] (ledOf w):=
 ⟨⟨_,#[],0,_,qH _ rfl,⟨rfl,rfl,rfl⟩,rfl,λe he=>by simp at he,λk=>by simp,rfl,rfl,.fresh _⟩,vt,by show 0<ui;decide⟩
def new_one (v:Value) {Q1:T0a} (h:Q1 (.ref s.heap.objs.size) { s with heap:=s.heap.push (cU w) }):yo (model prog w) A (.call (.builtin "set.__new__") ⟨[.type "set", v],[]⟩) (wants Q1 E) s:=by
 refine u0 ?_;show wpAny _ A.in1 (checkBuiltinCall "set.__new__" ⟨[.type "set", v],[]⟩>>=λ_=>again (.builtin "set.__new__" ⟨[.type "set", v],[]⟩)) _ _ s;refine q8 (ub (F.newCall_set_1 v) (j3 ⟨wx F.plain_set_new _,k9 F.entry_set_new ?_⟩));rw [qy F.plain_set_new _];unfold Builtin.«set.__new__» Builtin.Frozenset.newClass;have sub:=sub_set_self;obtain ⟨hp,gs,dr,tk,os⟩:=s;dsimp only
 wp_walk
 refine yu (j3 ?_);dsimp only [newObj];exact q8 (wpAny_alloc (j3 (j3 h)))
def set_of {val:Nat->K} (hh:A.handled=none) (hl:s.heap.IsList l items) (hval:∀ i v,items[i]?=some v->knd.is (val i) v=true/\v.scannable=true)
  (hpy:∀ i v (A':Around) (E':T0a) (s':Shared) (Q':Int->Shared->Prop),items[i]?=some v->Q' (knd.hash (val i)) { s' with toks:=s'.toks+1 }->wpAny (model prog w) A' (pyHash v) Q' E' s') (hb:items.size+1<ui)
  (h:∀ (h':Heap) (tk:Nat),Good knd h' s.heap.objs.size (metK val items.size) (ledOf w)->(∀ b o,b<s.heap.objs.size->s.heap.get? b=some o->h'.get? b=some o)->Q (.ref s.heap.objs.size) { s with heap:=h',toks:=tk }):
  wpAny (model prog w) A (call (.type "set") [.ref l]) Q E s:=by
 obtain ⟨c,tl,hmro⟩:=jc.mro;have hmade:=jc.made;have hsub:=jc.sub;refine uv (u0 ?_);show wpAny _ _ (callAny (.type "set") ⟨[.ref l],[]⟩) _ _ _;refine j3 ⟨Code.quiet_builtin _ (by decide +kernel),k9 F.entry_type_call ?_⟩;rw [Around.under_plain (ur "set" [.ref l] []) rfl];have n1:=jc.notType;have n2:=jc.canCreate;have n3:=F.typeCall_set_1 (.ref l)
 repeat (any_goals (first | assumption | wp_step))
 refine wy (new_one (.ref l) (E:=E) (Q1:=λob s1=>ob=.ref s.heap.objs.size/\s1={ s with heap:=s.heap.push (cU w) }) ⟨rfl,rfl⟩) λr s1 hr=>?_;cases r with
 | error e=>exact hr
 | ok fl=>
  cases fl with
  | ret ob=>
   obtain ⟨rfl,rfl⟩:=hr;have hS:(s.heap.push (cU w)).get? s.heap.objs.size=some (cU w):=qH _ rfl;have hT:zG { s with heap:=s.heap.push (cU w) } (.ref s.heap.objs.size) "set" := ⟨_,hS,rfl⟩;have k1:=jc.init.lookup;have k2:=jc.init.bind (.ref s.heap.objs.size)
   repeat (any_goals (first | assumption | wp_step))
   refine wy (y6 (R:=wants (λr s2=>r=.none/\∃ h' tk,s2={ s with heap:=h',toks:=tk }/\Good knd h' s.heap.objs.size (metK val items.size) (ledOf w)/\∀ b o,b<s.heap.objs.size->s.heap.get? b=some o->h'.get? b=some o) E)
    jc.init.plain F.entry_set_init (check_set_init_1 hT ?_)) λr2 s2 hr2=>?_
   ·obtain ⟨ol,g0,c0,nl,d0⟩:=hl
    obtain ⟨ocl,odc,odt,osl⟩:=ol;dsimp only at c0 d0;subst c0 d0;have g1:(s.heap.push (cU w)).get? l=some { cls:=.type "list", dict:=odc,data:=.seq items nl,slots:=osl }:=qD _ g0;have s1:=F.sub_list_set;have s2:=F.sub_list_frozenset;have ne:(zF "list" == zF "dict")=false:=by decide
    have L1:(s.heap.push (cU w)).IsList l items:=⟨_,g1,rfl,nl,rfl⟩;unfold Builtin.«set.__init__» noKeywords Builtin.Frozenset.updateFrom;generalize hI:pyIter=PI
    wp_walk
    subst hI;refine ym L1 (q8 (wpAny_runValue ?_));have lt:l<s.heap.objs.size:=qM g0;have h3:A.in1.in1.in1.handled=none:=by simp [hh]
    have nI:l≠(s.heap.push (cU w)).objs.size:=by
     rw [qu];exact qW (jm lt)
    have nf:s.heap.objs.size∉[(s.heap.push (cU w)).objs.size,l]:=by
     rw [qu];intro z;rcases qG.mp z with z | z
     ·exact absurd z (qW (kn _))
     ·rw [qL] at z
      exact absurd z (jW lt)
    refine b5U (knd:=knd) (led:=ledOf w) ((Walks.list h3 _ l nI items).toS) s.heap.objs.size nf val hval hpy hb (items.size - 0) 0 _ (by omega) (jB _) ⟨⟨_,qH _ rfl,rfl,rfl⟩,L1.push _⟩ ?g0 ?gR
    case g0=>exact (a6u (knd:=knd) s.heap).keeps λo e=>qD _ e
    case gR=>
     intro s' mv g';obtain ⟨h',gs',dr',tk',os'⟩:=s';obtain rfl:gs'=s.gens:=mv.gens;obtain rfl:dr'=s.drawn:=mv.drawn;obtain rfl:os'=s.os:=mv.os;show wpAny _ _ _ _ _ _;refine j3 ?_;show wpAny _ _ (ret jR) _ _ _;refine j3 ⟨rfl,h',tk',rfl,g',λb o hb' e=>?_⟩;refine mv.heap b o (λz=>?_) (qD _ (qD _ e));rcases qG.mp z with z | z
     ·exact absurd z (qW hb')
     ·rw [qL,qu] at z
      exact absurd z (qW (jm hb'))
   ·cases r2 with
    | error e=>exact hr2
    | ok fl2=>
     cases fl2 with
     | ret r=>
      obtain ⟨rfl,h',tk,rfl,g',kp⟩:=hr2
      repeat (any_goals (first | assumption | wp_step))
      exact h _ _ g' kp
     | _=>exact hr2.elim
  | _=>exact hr.elim
end
def slot_next:Slot "set_iterator" "__next__" "set_iterator.__next__" :=
 .of (owner := "set_iterator") (n := "__next__") (by rw [yy,w9];kernel_rfl) (by decide +kernel) (by decide +kernel) (by decide +kernel) (by first | exact .inl (by decide +kernel) | exact .inr (by decide +kernel)) (by rw [yc];kernel_rfl)
def entry_next:uy table "set_iterator.__next__" = some Builtin.«set_iterator.__next__»:=entryFor_of_fast (by kernel_rfl)
def args_next (v:Value):QQ "set_iterator.__next__" ⟨[v],[]⟩:=by unfold QQ;kernel_rfl
def a7Y:uy table "set.__iter__" = some Builtin.«frozenset.__iter__»:=uk (id' := "frozenset.__iter__") (by kernel_rfl) rfl (by decide +kernel) (by kernel_rfl)
abbrev itO (f0:Value) (i:Nat) (a:Addr) (n ep:Nat):Obj:={ cls:=.type "set_iterator", data:=.fields #[f0,v7 i,.ref a,v7 n,v7 ep] }
structure SetAt (h:Heap) (a:Addr) (es:Array (Int×Value)) (ep:Nat) (t:j7):Prop where
 ex:∃ o,h.get? a=some o/\o.cls=.type "set" /\ o.data=.set es ep t
 fits:t.fits es.size=true
theorem SetAt.keeps {h:Heap} (g:SetAt h a es ep t) (k:∀ o,h.get? a=some o->h'.get? a=some o):SetAt h' a es ep t:=by
 obtain ⟨o,ho,r⟩:=g.ex;exact ⟨⟨o,k o ho,r⟩,g.fits⟩
theorem SetAt.state {Q:(Array (Int×Value)×Nat×j7)->Shared->Prop} (g:SetAt s.heap a es ep t) (h:Q (es,ep,t) s):wpAny (model prog w) A (setState a) Q E s:=by
 obtain ⟨o,ho,_,hd⟩:=g.ex;exact yd ho hd g.fits h
def SetAt.entries {Q:Array (Int×Value)->Shared->Prop} (g:SetAt s.heap a es ep t) (h:Q es s):wpAny (model prog w) A (y7 a) Q E s:=by
 unfold y7;exact q8 (g.state (j3 h))
def next_item {x:Value} {nx:Nat} {Q:Option Value->Shared->Prop} (hI:s.heap.get? I=some (itO (v7 f0) i a es.size ep)) (g:SetAt s.heap a es ep t)
  (hn:∀ (A':Around) (E':T0a) (Q':Option (Value×Nat)->Shared->Prop),Q' (some (x,nx)) s->wpAny (model prog w) A' (u7 a f0 i ep) Q' E' s)
  (hQ:∀ h',h'.get? I=some (itO (v7 nx) (i+1) a es.size ep)->kB I s.heap h'->Q (some x) { s with heap:=h' }):wpAny (model prog w) A (yf (.ref I)) Q E s:=by
 have hT:s.TypeIs (.ref I) "set_iterator" := ⟨_,hI,rfl⟩;unfold yf;refine q8 (yg (k5 (name:=qx "__next__") hT slot_next (j9 slot_next hT entry_next ?_ (args_next _))));unfold Builtin.«set_iterator.__next__»;generalize hSE:y7=SE;generalize hSN:u7=SN;generalize hSF:setField=SF
 wp_walk
 subst hSE hSN hSF;refine g.entries ?_;dsimp only;rw [if_neg (by simp)];show wpAny _ A.in1 (u7 a (f0:Int).toNat (i:Int).toNat (ep:Int).toNat>>=_) _ _ s;rw [jE,jE,jE];refine q8 (hn _ _ _ ?_);dsimp only;refine q8 (k7 hI (by simp) λh1 g1 s1=>?_);refine q8 (k7 g1 (by simp) λh2 g2 s2=>?_);refine j3 ⟨x,rfl,j3 (hQ h2 ?_ (s1.trans s2))⟩;rw [g2];simp [itO,v7]
def next_end {Q:Option Value->Shared->Prop} (hh:A.handled=none) (hI:s.heap.get? I=some (itO (v7 f0) i a es.size ep)) (g:SetAt s.heap a es ep t)
  (hn:∀ (A':Around) (E':T0a) (Q':Option (Value×Nat)->Shared->Prop),Q' none s->wpAny (model prog w) A' (u7 a f0 i ep) Q' E' s)
  (hQ:∀ h',Heap.ExtBut I s.heap h'->Q none { s with heap:=h' }):wpAny (model prog w) A (yf (.ref I)) Q E s:=by
 have hT:s.TypeIs (.ref I) "set_iterator" := ⟨_,hI,rfl⟩;unfold yf;refine q8 (yg (k5 (name:=qx "__next__") hT slot_next (j9 slot_next hT entry_next ?_ (args_next _))));unfold Builtin.«set_iterator.__next__»;generalize hSE:y7=SE;generalize hSN:u7=SN;generalize hSF:setField=SF;generalize hNE:newExc=NE;generalize hRN:@QM=RN
 wp_walk
 subst hSE hSN hSF hNE hRN;refine g.entries ?_;dsimp only;rw [if_neg (by simp)];show wpAny _ A.in1 (u7 a (f0:Int).toNat (i:Int).toNat (ep:Int).toNat>>=_) _ _ s;rw [jE,jE,jE];refine q8 (hn _ _ _ ?_);dsimp only;refine q8 (k7 hI (by simp) λh1 g1 s1=>?_);refine q8 ?_;dsimp only [newExc,newTuple];refine q8 (j8 ?_ (by size_fits));refine q8 (m:=yi _ _) (ub (a:=jR) (by first | rfl | (simp only [yi];rfl)) ?_);refine j8 ?_ (by size_fits);dsimp only [QM];refine q8 (QH ?_);rw [show A.in1.handled=none from hh];refine q8 (j3 (wpAny_throw ?_));refine q8 (yh (T := "StopIteration") (b:=true) ⟨_,qH _ rfl,rfl⟩ QB ?_);exact j3 (hQ _ ((s1.extBut.push _).push _))
variable {T:Addr}
abbrev plO (pl:List Nat):Obj:={ cls:=.type "tuple", data:=.seq (pl.map λ(k:Nat)=>v7 k).toArray }
def a7A {p:Nat} {hx:Int} {x:Value} {Q:Option Value->Shared->Prop} (hI:s.heap.get? I=some (itO (.ref T) i a es.size ep)) (hT:s.heap.get? T=some (plO pl)) (g:SetAt s.heap a es ep t) (hp:pl[i]?=some p) (he:es[p]?=some (hx,x))
  (hQ:∀ h',h'.get? I=some (itO (.ref T) (i+1) a es.size ep)->kB I s.heap h'->Q (some x) { s with heap:=h' }):wpAny (model prog w) A (yf (.ref I)) Q E s:=by
 have hty:s.TypeIs (.ref I) "set_iterator" := ⟨_,hI,rfl⟩;unfold yf;refine q8 (yg (k5 (name:=qx "__next__") hty slot_next (j9 slot_next hty entry_next ?_ (args_next _))));unfold Builtin.«set_iterator.__next__»;generalize hSE:y7=SE;generalize hSN:setNextDrawn=SN;generalize hSF:setField=SF;generalize hSI:yz=SI
 wp_walk
 subst hSE hSN hSF hSI;refine g.entries ?_;dsimp only;rw [if_neg (by simp)];show wpAny _ A.in1 (yz (.ref T)>>=_) _ _ s;refine q8 (v6 hT rfl ?_);dsimp only;have e1:(pl.map λ(k:Nat)=>v7 k).toArray[(i:Int).toNat]?=some (v7 p):=by
  rw [jE,jG,qQ,hp];rfl
 rw [e1];show wpAny _ A.in1 (setNextDrawn a (p:Int).toNat (ep:Int).toNat>>=_) _ _ s;rw [jE,jE];unfold setNextDrawn;refine q8 (q8 (g.state ?_));dsimp only;rw [if_neg (by simp),he];refine j3 ?_;refine q8 (k7 hI (by simp) λh1 g1 s1=>?_);refine j3 ⟨x,rfl,j3 (hQ h1 ?_ s1)⟩;rw [g1];simp [itO,v7]
def b0e {Q:Option Value->Shared->Prop} (hh:A.handled=none) (hI:s.heap.get? I=some (itO (.ref T) i a es.size ep)) (hT:s.heap.get? T=some (plO pl)) (g:SetAt s.heap a es ep t) (hp:pl[i]?=none)
  (hQ:∀ h',Heap.ExtBut I s.heap h'->Q none { s with heap:=h' }):wpAny (model prog w) A (yf (.ref I)) Q E s:=by
 have hty:s.TypeIs (.ref I) "set_iterator" := ⟨_,hI,rfl⟩;unfold yf;refine q8 (yg (k5 (name:=qx "__next__") hty slot_next (j9 slot_next hty entry_next ?_ (args_next _))));unfold Builtin.«set_iterator.__next__»;generalize hSE:y7=SE;generalize hSF:setField=SF;generalize hSI:yz=SI;generalize hNE:newExc=NE;generalize hRN:@QM=RN
 wp_walk
 subst hSE hSF hSI hNE hRN;refine g.entries ?_;dsimp only;rw [if_neg (by simp)];show wpAny _ A.in1 (yz (.ref T)>>=_) _ _ s;refine q8 (v6 hT rfl ?_);dsimp only;have e1:(pl.map λ(k:Nat)=>v7 k).toArray[(i:Int).toNat]?=none:=by
  rw [jE,jG,qQ,hp];rfl
 rw [e1];dsimp only;refine q8 (k7 hI (by simp) λh0 g0 s0=>?_);refine q8 (k7 g0 (by simp) λh1 g1 s1=>?_);refine q8 ?_;dsimp only [newExc,newTuple];refine q8 (j8 ?_ (by size_fits));refine q8 (m:=yi _ _) (ub (a:=jR) (by first | rfl | (simp only [yi];rfl)) ?_);refine j8 ?_ (by size_fits);dsimp only [QM];refine q8 (QH ?_);rw [show A.in1.handled=none from hh];refine q8 (j3 (wpAny_throw ?_));refine q8 (yh (T := "StopIteration") (b:=true) ⟨_,qH _ rfl,rfl⟩ QB ?_);exact j3 (hQ _ (((s0.trans s1).extBut.push _).push _))
theorem a9h {α:Type} (next:Nat->Nat):∀ (fuel k:Nat) (left:List α) (out:Array α),left.length=fuel->(yt.go next fuel k left out).toList.Perm (out.toList++left)
 | 0,k,left,out,h=>by
  have:left=[]:=List.length_eq_zero_iff.mp h;subst this;simp [yt.go]
 | fuel+1,k,left,out,h=>by
  unfold yt.go;have lt:next k % left.length<left.length:=Nat.mod_lt _ (by omega);rw [qK lt];dsimp only;refine (a9h next fuel (k+1) _ _ (by rw [List.length_eraseIdx,if_pos lt];omega)).trans ?_;rw [Array.toList_push,jh];refine List.Perm.append_left _ ?_;show (left[next k % left.length]::left.eraseIdx (next k % left.length)).Perm left;generalize next k % left.length=m at lt;rw [wP];have e:left=left.take m++left[m]::left.drop (m+1):=by rw [List.getElem_cons_drop,List.take_append_drop]
  refine List.Perm.trans ?_ (List.Perm.of_eq e.symm);exact List.perm_middle.symm
def yV {α:Type} (next:Nat->Nat) (xs:Array α):(yt next xs).toList.Perm xs.toList:=by
 unfold yt;have:=a9h next xs.size 0 xs.toList #[] (by simp);simpa using this
def b9N (hb:w.params.followText "set-order" = true) {Q:Array (Int×Value)->Shared->Prop} (g:SetAt s.heap a es ep t) (h:Q (yt (w.params.setOrder a ep) es) s):wpAny (model prog w) A (setWalk a) Q E s:=by
 unfold setWalk;refine q8 (g.state ?_);dsimp only;unfold setsByText;refine q8 (q8 (yu (j3 ?_)));show wpAny _ _ (if w.params.followText "set-order" = true then _ else _) _ _ s;rw [if_pos hb];exact q8 (yu (j3 h))
def nextT (hb:w.params.followText "set-order" = true) {Q:Option (Value×Nat)->Shared->Prop} (g:SetAt s.heap a es ep t) (h:Q (((yt (w.params.setOrder a ep) es)[i]?).map λe=>(e.2,f0)) s):wpAny (model prog w) A (u7 a f0 i ep) Q E s:=by
 unfold u7;refine q8 (g.state ?_);dsimp only;refine q8 ?_;unfold setsByText;refine q8 (yu (j3 ?_));show wpAny _ _ (if w.params.followText "set-order" = true then _ else _) _ _ s;rw [if_pos hb,if_neg (by simp)];refine q8 ?_;exact b9N hb g (j3 h)
def b7j (hb:w.params.followText "set-order" = false) (hnd:(!t.plain&&decide (es.size > 1))=false) (hl:t.led=true) {Q:Option (Value×Nat)->Shared->Prop} (g:SetAt s.heap a es ep t)
  (h:Q (match es[qg t.place f0]?,t.place[qg t.place f0]? with | some (_,x),some j=>some (x,j+1) | _,_=>none) s):wpAny (model prog w) A (u7 a f0 i ep) Q E s:=by
 unfold u7;refine q8 (g.state ?_);dsimp only;refine q8 ?_;unfold setsByText;refine q8 (yu (j3 ?_));show wpAny _ _ (if w.params.followText "set-order" = true then _ else (if (!t.plain&&decide (es.size > 1))=true then _ else _)) _ _ s;rw [hb,if_neg (by decide),hnd,if_neg (by decide)];show wpAny _ _ ((if (!t.led&&!es.isEmpty)=true then unsupported "set:maker-not-led" else pure PUnit.unit)>>=λ_=>_) _ _ s;rw [hl];rw [if_neg (by simp)];exact q8 (j3 (j3 h))
def b0M {src:Source} {Q:Nat->Shared->Prop} (hn:n≠0) (h:∀ k,k<n->Q k { s with drawn:=s.drawn.bump src }):wpAny M A (choose src n) Q E s:=λΓ p hΓ=>by
 unfold choose;rw [Sem.wp_choose];exact ⟨hn,h _ (Nat.mod_lt _ (by omega))⟩
theorem a9p {α:Type} {M:Model} {A:Around} {E:T0a}:∀ (n:Nat) (xs:List α) (s:Shared) (Q:List α->Shared->Prop),xs.length=n->(∀ ys d',ys.Perm xs->Q ys { s with drawn:=d' })->wpAny M A (drawOrder n xs) Q E s
 | 0,xs,s,Q,hn,h=>by
  have:xs=[]:=List.length_eq_zero_iff.mp hn;subst this;unfold drawOrder;exact j3 (h [] s.drawn .nil)
 | n+1,[],s,Q,hn,h=>by cases hn
 | n+1,x::xs,s,Q,hn,h=>by
  unfold drawOrder;refine q8 (b0M (by simp) λk hk=>?_);rw [qK hk];dsimp only;refine q8 (a9p n _ _ _ (by rw [List.length_eraseIdx,if_pos hk];omega) λys d' hp=>j3 (h _ d' ?_));refine (hp.cons _).trans ?_;generalize hL:x::xs=left at hk ⊢;rw [wP];have e:left=left.take k++left[k]::left.drop (k+1):=by rw [List.getElem_cons_drop,List.take_append_drop]
  exact List.perm_middle.symm.trans (List.Perm.of_eq e.symm)
def slot_self:Slot "set_iterator" "__iter__" "set_iterator.__iter__" :=
 .of (owner := "set_iterator") (n := "__iter__") (by rw [yy,w9];kernel_rfl) (by decide +kernel) (by decide +kernel) (by decide +kernel) (by first | exact .inl (by decide +kernel) | exact .inr (by decide +kernel)) (by rw [yc];kernel_rfl)
def entry_self:uy table "set_iterator.__iter__" = some Builtin.«dict_keyiterator.__iter__»:=uk (id' := "dict_keyiterator.__iter__") (by kernel_rfl) rfl (by decide +kernel) (by kernel_rfl)
def args_self (v:Value):QQ "set_iterator.__iter__" ⟨[v],[]⟩:=by unfold QQ;kernel_rfl
def lG (hty:s.TypeIs (.ref I) "set_iterator") (h:Q (.ref I) s):wpAny (model prog w) A (pyIter (.ref I)) Q E s:=by
 refine uo hty slot_self (j9 slot_self hty entry_self ?_ (args_self _));show wpAny _ _ (ret (.ref I)) _ _ s;exact j3 ⟨_,rfl, "set_iterator", _,hty,slot_next.lookup,h⟩
def b7B (hb:w.params.followText "set-order" = true) (hne:a≠I) (hh:A.handled=none):Walks prog w A I [I,a] [I] es.size (λi v=>((yt (w.params.setOrder a ep) es).toList.map (·.2))[i]?=some v)
  (λi h=>h.get? I=some (itO (v7 0) i a es.size ep)/\SetAt h a es ep t) where
 sub:=λb hb=>by simp at hb;simp [hb]
 frame:=λi h h' st kp=>⟨kp I (by simp) _ st.1,st.2.keeps λo e=>kp a (by simp) o e⟩
 item:=λi s Q E hi st hQ=>by
  have hl:(yt (w.params.setOrder a ep) es).size=es.size:=by rw [<-qP,(yV _ _).length_eq,qP]
  have hi':i<(yt (w.params.setOrder a ep) es).size:=by omega
  refine next_item st.1 st.2 (x:=(yt (w.params.setOrder a ep) es)[i].2) (nx:=0) (λA' E' Q' q=>nextT hb st.2 (by rw [jC hi'];exact q)) λh' g1 s1=>?_;refine hQ _ h' s.toks ?_ ⟨g1,st.2.keeps λo e=>s1.extBut _ _ hne e⟩ λb o hb e=>s1.extBut b o (by simpa using hb) e;rw [qQ,ju,jC hi'];rfl
 done:=λs Q E st hQ=>by
  have hl:(yt (w.params.setOrder a ep) es).size=es.size:=by rw [<-qP,(yV _ _).length_eq,qP]
  refine next_end hh st.1 st.2 (λA' E' Q' q=>nextT hb st.2 (by rw [Array.getElem?_eq_none (by omega)];exact q)) λh' x=>hQ h' s.toks λb o hb e=>x b o (by simpa using hb) e
 self:=λi s Q E st hQ=>by
  have hty:s.TypeIs (.ref I) "set_iterator" := ⟨_,st.1,rfl⟩;exact lG hty hQ
def slotAt (t:j7):Nat->Nat
 | 0=>0
 | i+1=>t.place.getD i 0+1
def yC (hr:sO t.place) (hn:t.place.size=n):∀ i,i<=n->qg t.place (slotAt t i)=i
 | 0,_=>a8p _ hr
 | i+1,h=>by
  have lt:i<t.place.size:=by omega
  show qg t.place (t.place.getD i 0+1)=i+1;have:t.place.getD i 0=t.place[i]:=by simp [zp,lt]
  rw [this];exact a8q hr lt
def b7D (hb:w.params.followText "set-order" = false) (hnd:(!t.plain&&decide (es.size > 1))=false) (hl:t.led=true) (hr:sO t.place) (hp:t.place.size=es.size) (hne:a≠I) (hh:A.handled=none):
  Walks prog w A I [I,a] [I] es.size (λi v=>(es.toList.map (·.2))[i]?=some v) (λi h=>i<=es.size/\h.get? I=some (itO (v7 (slotAt t i)) i a es.size ep)/\SetAt h a es ep t) where
 sub:=λb hb=>by simp at hb;simp [hb]
 frame:=λi h h' st kp=>⟨st.1,kp I (by simp) _ st.2.1,st.2.2.keeps λo e=>kp a (by simp) o e⟩
 item:=λi s Q E hi st hQ=>by
  have hi':i<t.place.size:=by omega
  have bl:=yC hr hp i (by omega)
  refine next_item st.2.1 st.2.2 (x:=es[i].2) (nx:=slotAt t (i+1)) (λA' E' Q' q=>b7j hb hnd hl st.2.2 (by
   rw [bl,jC hi,jC hi'];have:slotAt t (i+1)=t.place[i]+1:=by show t.place.getD i 0+1=_;simp [zp,hi']
   rw [this] at q
   exact q)) λh' g1 s1=>?_
  refine hQ _ h' s.toks ?_ ⟨hi,g1,st.2.2.keeps λo e=>s1.extBut _ _ hne e⟩ λb o hb e=>s1.extBut b o (by simpa using hb) e;rw [qQ,ju,jC hi];rfl
 done:=λs Q E st hQ=>by
  have bl:=yC hr hp es.size (qN _)
  refine next_end hh st.2.1 st.2.2 (λA' E' Q' q=>b7j hb hnd hl st.2.2 (by
   rw [bl,Array.getElem?_eq_none (qN _)]
   exact q)) λh' x=>hQ h' s.toks λb o hb e=>x b o (by simpa using hb) e
 self:=λi s Q E st hQ=>lG ⟨_,st.2.1,rfl⟩ hQ
def b7C (hpl:pl.Perm (qm es.size)) (hne:a≠I) (hTI:T≠I) (hh:A.handled=none):
  Walks prog w A I [I,a,T] [I] es.size (λi v=>(pl.map λk=>(es.toList.map (·.2)).getD k .none)[i]?=some v) (λi h=>h.get? I=some (itO (.ref T) i a es.size ep)/\h.get? T=some (plO pl)/\SetAt h a es ep t) where
 sub:=λb hb=>by simp at hb;simp [hb]
 frame:=λi h h' st kp=>⟨kp I (by simp) _ st.1,kp T (by simp) _ st.2.1,st.2.2.keeps λo e=>kp a (by simp) o e⟩
 item:=λi s Q E hi st hQ=>by
  have hlen:pl.length=es.size:=by rw [hpl.length_eq,zU]
  have hi':i<pl.length:=by omega
  have hm:pl[i]∈qm es.size:=hpl.mem_iff.mp (jy hi');have hlt:pl[i]<es.size:=jp.mp hm;refine a7A (p:=pl[i]) (hx:=es[pl[i]].1) (x:=es[pl[i]].2) st.1 st.2.1 st.2.2 (qK hi') (jC hlt) λh' g1 s1=>?_;refine hQ _ h' s.toks ?_ ⟨g1,s1.extBut _ _ hTI st.2.1,st.2.2.keeps λo e=>s1.extBut _ _ hne e⟩ λb o hb e=>s1.extBut b o (by simpa using hb) e;rw [qQ,qK hi'];simp [zw,hlt]
 done:=λs Q E st hQ=>by
  have hlen:pl.length=es.size:=by rw [hpl.length_eq,zU]
  exact b0e hh st.1 st.2.1 st.2.2 (qb (by omega)) λh' x=>hQ h' s.toks λb o hb e=>x b o (by simpa using hb) e
 self:=λi s Q E st hQ=>lG ⟨_,st.1,rfl⟩ hQ
def a7y {α:Type} (xs:List α) (d:α) (h:pl.Perm (qm xs.length)):(pl.map λk=>xs.getD k d).Perm xs:=by
 refine (h.map _).trans (List.Perm.of_eq ?_);apply jT;intro i;rw [qQ];by_cases hi:i<xs.length
 ·rw [zH hi,qK hi];simp [zw,hi]
 ·rw [qb (by simpa using hi),qb (by omega)];rfl
def b3d (g:SetAt s.heap a es ep t) (hT:TOk t (ledOf w)) (few:es.size<=j5)
  (h:∀ (h':Heap) (d':Drawn) (I:Addr) (vs:T0m) (fp:T0o) (St:Nat->Heap->Prop),vs.Perm (es.toList.map (·.2))->(∀ b o,s.heap.get? b=some o->h'.get? b=some o)->s.heap.objs.size<=I->I∈fp->(∀ b∈fp,b=a\/s.heap.objs.size<=b) ->
   (∀ A':Around,A'.handled=none->Walks prog w A' I fp [I] es.size (λi v=>vs[i]?=some v) St)->St 0 h'->Q (.ref I) { s with heap:=h',drawn:=d' }):
  wpAny (model prog w) A (pyIter (.ref a)) Q E s:=by
 obtain ⟨o,ho,hc,hd⟩:=g.ex;have hty:s.TypeIs (.ref a) "set" := ⟨o,ho,hc⟩;have lt:a<s.heap.objs.size:=qM ho;have hpl:t.place.size=es.size:=by
  have:=g.fits;simp only [j7.fits,qJ,beq_iff_eq] at this;exact this.1
 refine uo hty F.slot_set_iter (j9 F.slot_set_iter hty a7Y ?_ (F.args_set_iter_1 _));unfold Builtin.«frozenset.__iter__»;generalize hSD:setDrawn=SD;generalize hSE:setEpoch=SE;generalize hSZ:zS=SZ
 wp_walk
 subst hSD hSE hSZ;unfold zS;refine q8 (g.entries (j3 ?_));have fin:∀ (f0:Value) (s2:Shared),SetAt s2.heap a es ep t->Q (.ref s2.heap.objs.size) { s2 with heap:=s2.heap.push (itO f0 0 a es.size ep) } ->
   wpAny (model prog w) A.in1 (setEpoch a>>=λe=>newFields "set_iterator" [f0,v7 0,qw a,v7 (es.size:Nat),v7 (e:Nat)]>>=λv=>ret v) (λfin s'=>∃ v,fin=Fin.done (Flow.ret v)/\∃ T' r,s'.TypeIs v T'/\typeLookup (zF T') (qx "__next__")=pure (some r)/\Q v s') E s2:=by
  intro f0 s2 g2 q;refine q8 ?_;unfold setEpoch;refine q8 (g2.state (j3 ?_));refine q8 ?_;unfold newFields;exact j8 (j3 ⟨_,rfl, "set_iterator", _,⟨_,qH _ rfl,rfl⟩,slot_next.lookup,q⟩) (by size_fits)
 have plain:∀ (vs:T0m) (St:Nat->Heap->Prop),vs.Perm (es.toList.map (·.2))->(∀ A':Around,A'.handled=none->Walks prog w A' s.heap.objs.size [s.heap.objs.size,a] [s.heap.objs.size] es.size (λi v=>vs[i]?=some v) St) ->
   St 0 (s.heap.push (itO (v7 0) 0 a es.size ep))->Q (.ref s.heap.objs.size) { s with heap:=s.heap.push (itO (v7 0) 0 a es.size ep) }:=by
  intro vs St hp W st;refine h _ s.drawn s.heap.objs.size vs [s.heap.objs.size,a] St hp (λb o e=>qD _ e) (qN _) (by simp) (λb hb=>?_) W st;rcases qG.mp hb with z | z
  ·exact .inr (by rw [z];exact qN _)
  ·exact .inl (qL.mp z)
 have hne:a≠s.heap.objs.size:=qW lt;have g1:SetAt (s.heap.push (itO (v7 0) 0 a es.size ep)) a es ep t:=g.keeps λo e=>qD _ e;refine q8 ?_;unfold setDrawn;refine q8 (g.state ?_);dsimp only;unfold setsByText;refine q8 (q8 (yu (j3 (j3 ?_))));show wpAny _ _ (if (!w.params.followText "set-order" && (!t.plain&&decide (es.size > 1)))=true then _ else _) _ _ s;cases hbt:w.params.followText "set-order" with
 | true=>
  rw [if_neg (by simp)];refine q8 (j3 ?_);exact fin (v7 0) s g (plain _ _ ((yV _ _).map _) (λA' hA=>b7B hbt hne hA) ⟨qH _ rfl,g1⟩)
 | false=>
  have hled:t.led=true:=by rw [hT.led];unfold ledOf;rw [hbt];rfl
  cases hdr:(!t.plain&&decide (es.size > 1)) with
  | false=>
   rw [if_neg (by simp)];refine q8 (j3 ?_);have hr:sO t.place:=by
    cases hp:t.plain with
    | true=>exact hT.rise hp
    | false=>
     rw [hp] at hdr;have:¬es.size > 1:=by simpa using hdr
     unfold sO;have hl:t.place.toList.length<=1:=by rw [qP];omega
     match t.place.toList,hl with
     | [],_=>exact .nil
     | [x],_=>exact zN _ _
   exact fin (v7 0) s g (plain _ _ (.refl _) (λA' hA=>b7D hbt hdr hled hr hpl hne hA) ⟨jB _,qH _ rfl,g1⟩)
  | true=>
   rw [if_pos (by simp)];refine q8 (a9p es.size (qm es.size) s _ (by simp) λpl d' hpl'=>?_);refine q8 ?_;unfold newTuple
   refine j8 ?_ (by
    have h1:pl.length=es.size:=by rw [hpl'.length_eq,zU]
    show (pl.map λ(k:Nat)=>v7 k).toArray.size<=j5;rw [qR,qE,h1]
    exact few)
   have g2:SetAt (s.heap.push (plO pl)) a es ep t:=g.keeps λo e=>qD _ e;refine fin (.ref s.heap.objs.size) { s with heap:=s.heap.push (plO pl),drawn:=d' } g2 ?_;have sz:(s.heap.push (plO pl)).objs.size=s.heap.objs.size+1:=qu ..;have hp2:(pl.map λk=>(es.toList.map (·.2)).getD k jR).Perm (es.toList.map (·.2)):=a7y _ _ (by simpa using hpl');refine h _ d' (s.heap.push (plO pl)).objs.size _ [(s.heap.push (plO pl)).objs.size,a,s.heap.objs.size] _ hp2 (λb o e=>qD _ (qD _ e)) (by rw [sz];exact jx _) (by simp) (λb hb=>?_)
    (λA' hA=>b7C (ep:=ep) (t:=t) hpl' (by rw [sz];exact qW (jm lt)) (by rw [sz];exact qW (kn _)) hA) ⟨qH _ rfl,qD _ (qH _ rfl),g2.keeps λo e=>qD _ e⟩
   rcases qG.mp hb with z | z
   ·exact .inr (by rw [z,sz];exact jx _)
   ·rcases qG.mp z with z | z
    ·exact .inl z
    ·rw [qL] at z;exact .inr (by rw [z];exact qN _)
def b4T:typeLookup (.type "set") "__len__" = pure (some (.builtin "set.__len__")):=by rw [yy,w9];kernel_rfl
def a6M {Q:List Value->Shared->Prop} (hh:A.handled=none) (g:SetAt s.heap a es ep t) (hT:TOk t (ledOf w)) (few:es.size<=j5)
  (hQ:∀ (h':Heap) (d':Drawn) (tk:Nat) (vs:T0m),vs.Perm (es.toList.map (·.2))->(∀ b o,s.heap.get? b=some o->h'.get? b=some o)->s.heap.objs.size<h'.objs.size->Q vs { s with heap:=h',drawn:=d',toks:=tk }):
  wpAny (model prog w) A (collect (.ref a)) Q E s:=by
 obtain ⟨o,ho,hc,_⟩:=g.ex;have lt:a<s.heap.objs.size:=qM ho;unfold collect;refine q8 (wpAny_runValue (k9 F.entry_proto_collect ?_));rw [qy F.plain_proto_collect _];show wpAny _ A.in1 (newList []>>=λl=>again (.builtin "list.__iadd__" ⟨[l,.ref a],[]⟩)) _ _ s;refine q8 (j8 ?_);refine j3 ⟨wx vi _,k9 F.entry_list_iadd ?_⟩;rw [qy vi _];have g1:SetAt (s.heap.push { cls:=.type "list", data:=.seq ([]:T0m).toArray }) a es ep t:=g.keeps λo e=>qD _ e;have hS1:(s.heap.push { cls:=.type "list", data:=.seq ([]:T0m).toArray }).get? s.heap.objs.size=some { cls:=.type "list", data:=.seq ([]:T0m).toArray }:=qH _ rfl;have ty1:zG { s with heap:=s.heap.push { cls:=.type "list", data:=.seq ([]:T0m).toArray } } (.ref a) "set" := ⟨o,qD _ ho,hc⟩;show wpAny _ A.in1 (zB (.ref s.heap.objs.size) (.ref a) (.ref s.heap.objs.size)) _ _ _;unfold zB;refine q8 (yv ty1 ?_);have e1:Builtin.List.listSameRef (.ref s.heap.objs.size) (.ref a)=false:=by simp [Builtin.List.listSameRef,jW lt]
 have e2:(zF "set" == zF "list")=false:=by decide
 have e3:(zF "set" == zF "tuple")=false:=by decide
 simp only [e1,e2,e3,wH,qt,if_false];refine q8 (b3d (w:=w) g1 hT few λh' d' I vs fp St hp kp hI hIf hfp W st=>?_);have ty2:zG { s with heap:=h',drawn:=d' } (.ref a) "set" := ⟨o,kp a o (qD _ ho),hc⟩;refine q8 (v8 ?_);have hint:∀ Q':Bool->Shared->Prop,Q' false { s with heap:=h',drawn:=d' }->wpAny (model prog w) A.in1 (Builtin.List.listLengthHint (.ref a)) Q' E { s with heap:=h',drawn:=d' }:=by
  intro Q' q;unfold Builtin.List.listLengthHint;refine q8 (u5 ty2 b4T ?_);generalize hid:("set.__len__" : String)=i0
  wp_delta
  rw [show splitId i0=some ("set", "__len__") from by rw [<-hid];decide +kernel];rw [<-hid];refine q8 (yh (T := "set") (b:=true) ty2 sub_set_self ?_);refine wpAny_ite_split (λz=>absurd z (by decide)) λ_=>?_;refine wpAny_ite_split (λ_=>?_) λz=>absurd (by decide +kernel) z;exact q8 (yv ty2 (j3 q))
 refine hint _ ?_;have hSf:s.heap.objs.size∉fp:=λhm=>by
  rcases hfp _ hm with z | z
  ·exact absurd z (jW lt)
  ·rw [qu] at z;exact absurd z (Nat.not_succ_le_self _)
 refine wpAny_ite_split (λ_=>?_) λz=>absurd (by decide +kernel) z;have hS2:=kp _ _ hS1;refine q8 (wp ?_);refine q8 ?_;show wpAny _ A.in1 (updateSeq s.heap.objs.size (·.push .none)>>=λ_=>updateSeq s.heap.objs.size (·.pop)) _ _ _;refine q8 (uh hS2 rfl ?_);have hS3:=kA (kC (·.push jR)) hS2 rfl;refine uh hS3 rfl ?_;have hS4:=kA (kC (·.pop)) hS3 rfl;have oth:∀ b o,b≠s.heap.objs.size->h'.get? b=some o->((h'.update s.heap.objs.size (kC (·.push jR))).update s.heap.objs.size (kC (·.pop))).get? b=some o:=
  λb o hb e=>by rw [je _ _ (jJ hb),je _ _ (jJ hb)];exact e
 have W1:=W A.in1 hh
 refine j3 ⟨wx F.plain_extend_loop _,codeAny_extend_loopS W1.toS few _ hSf _ es.size 0 _ _ _ rfl (jB _)
  (W1.frame 0 _ _ st λb hb o e=>oth b o (λz=>hSf (z▸hb)) e) hS4 (ItemsOf.nil _) λs' acc' c' hm hS' hacc=>?_⟩
 show wpAny _ A (load s.heap.objs.size>>=_) _ _ s';refine q8 (wpAny_load hS' (j3 ?_));have hv:acc'.toList=vs:=by
  have hl:vs.length=es.size:=by rw [hp.length_eq];simp
  refine jT λi=>?_;by_cases hi:i<es.size
  ·have h1:i<acc'.size:=by rw [hacc.1];exact hi
   have h2:=hacc.2 i _ (jC h1);rw [h2,ju,jC h1]
  ·rw [qb (by rw [qP,hacc.1];omega),qb (by rw [hl];omega)]
 show Q acc'.toList s';rw [hv,Moved.eq_with hm];refine hQ s'.heap d' s'.toks vs hp (λb o e=>?_) (qM hS');have hb:b≠s.heap.objs.size:=qW (qM e);refine hm.heap b o (λhmem=>?_) (oth b o hb (kp b o (qD _ e)));rcases qG.mp hmem with z | z
 ·exact hb z
 ·rw [qL] at z
  rw [qu] at hI;have q:=qM e;rw [z] at q;exact jK _ (qX (jm q) hI)
theorem a8H {α:Type} [DecidableEq α]:∀ (ks qs:List α),ks.Nodup->(∀ k∈ks,k∈qs)->qs.length=ks.length->qs.Perm ks
 | [],[],_,_,_=>.refl _
 | k::ks,qs,hn,hm,hl=>by
  have h1:=List.perm_cons_erase (hm k (by simp));have hn':=kF.mp hn;refine h1.trans (.cons k (a8H ks _ hn'.2 (λx hx=>?_) ?_))
  ·exact (List.mem_erase_of_ne (λz=>by rw [z] at hx;exact hn'.1 hx)).mpr (hm x (by simp [hx]))
  ·have:=h1.length_eq;simp only [qV] at this hl;omega
variable {ks:List Int}
section
variable {K:Type} [DecidableEq K] {knd:KeyKind prog w K}
inductive Keys (knd:KeyKind prog w K):List Value->List K->Prop
 | nil:Keys knd [] []
 | cons {v k vs ks:_}:knd.is k v=true->Keys knd vs ks->Keys knd (v::vs) (k::ks)
theorem Keys.len {vs ks:_} (h:Keys knd vs ks):ks.length=vs.length:=by induction h<;>simp [*]
theorem Keys.mem {vs ks:_} (h:Keys knd vs ks) {v:Value} {k:K} (hv:v∈vs) (e:knd.is k v=true):k∈ks:=by
 induction h with
 | nil=>cases hv
 | cons h1 _ ih=>
  rcases qG.mp hv with z | z
  ·subst z;rw [knd.inj _ _ _ e h1];simp
  ·exact qF _ (ih z)
theorem a8Z:∀ (es:List (Int×Value)),ElemsOf knd es->∃ qs,Keys knd (es.map (·.2)) qs
 | [],_=>⟨[],.nil⟩
 | e::es,h=>by
  obtain ⟨qs,hq⟩:=a8Z es λx hx=>h x (qF _ hx);obtain ⟨⟨k,hk,_⟩,_⟩:=h e (by simp);exact ⟨k::qs,.cons hk hq⟩
theorem Keys.perm (hp:us.Perm vs):∀ {ks:_},Keys knd vs ks->∃ qs,Keys knd us qs/\qs.Perm ks:=by
 induction hp with
 | nil=>intro ks h;exact ⟨ks,h,.refl _⟩
 | cons v _ ih=>
  intro ks h;cases h with
  | cons h1 h2=>obtain ⟨qs,a,b⟩:=ih h2;exact ⟨_::qs,.cons h1 a,.cons _ b⟩
 | swap x y l=>
  intro ks h;cases h with
  | cons h1 h2=>cases h2 with
   | cons h3 h4=>exact ⟨_,.cons h3 (.cons h1 h4),.swap ..⟩
 | trans _ _ i1 i2=>
  intro ks h;obtain ⟨q1,a1,b1⟩:=i2 h;obtain ⟨q2,a2,b2⟩:=i1 a1;exact ⟨q2,a2,b2.trans b1⟩
theorem Good.keys {h:Heap} {ks:List K} (g:Good knd h a ks led):∃ es ep t,SetAt h a es ep t/\TOk t led/\es.size=ks.length/\∀ vs,vs.Perm (es.toList.map (·.2))->∃ qs,Keys knd vs qs/\qs.Perm ks:=by
 obtain ⟨o,es,ep,t,ho,hx,hd,hE,hm,hl,hf,hT⟩:=g.ex;refine ⟨es,ep,t,⟨⟨o,ho,hx.1,hd⟩,hf⟩,hT,hl,λvs hp=>?_⟩;obtain ⟨qs,hq⟩:=a8Z es.toList hE
 have h1:qs.Perm ks:=a8H ks qs g.nd (λk hk=>by
  obtain ⟨e,he,hi⟩:=(hm k).mp hk
  exact hq.mem (jo he) hi) (by rw [hq.len,qE,qP,hl])
 obtain ⟨q2,a2,b2⟩:=Keys.perm hp.symm.symm hq;exact ⟨q2,a2,b2.trans h1⟩
def b0p (h:Keys (QY prog w) vs ks):ud vs ks:=by
 induction h with
 | nil=>exact .nil
 | cons h1 _ ih=>obtain ⟨t,rfl⟩:=Value.isInt_shape h1;exact .cons _ t ih
def a7n {Out:Array Value->Prop} (hh:A.handled=none) (g:SetAt s.heap a es ep t) (hT:TOk t (ledOf w)) (few:es.size<64)
  (hsort:∀ (A':Around) (E':T0a) (s':Shared) (l:Addr) (vs:T0m) (n:Nat) (P:Fin->Shared->Prop),vs.Perm (es.toList.map (·.2))->s'.heap.get? l=some (ya "list" vs.toArray n) ->
   (∀ out,Out out->P (.done (.ret .none)) { s' with heap:=sortedHeap s'.heap l vs out })->wpAny (model prog w) A' (Builtin.«list.sort» ⟨[.ref l],[]⟩) P E' s')
  (h:∀ (h':Heap) (d':Drawn) (tk:Nat) (D:Addr) (out:Array Value) (e:Nat),(∀ b o,s.heap.get? b=some o->h'.get? b=some o)->s.heap.objs.size<=D->h'.get? D=some (ya "list" out e)->Out out->Q (.ref D) { s with heap:=h',drawn:=d',toks:=tk }):
  wpAny (model prog w) A (call (.builtin "sorted") [.ref a]) Q E s:=by
 have big:(64:Nat)<=j5:=by decide
 refine Calls.call_function_entry kind_sorted plain_sorted entry_sorted (args_sorted1 _) ?_;unfold Builtin.«sorted»;refine q8 (m:=checkCount "sorted" 1 1 _) (j3 ?_);refine q8 (a6M hh g hT (qi (jF few) big) λh1 d1 tk vs hp kp hlt=>?_);have hl:vs.length=es.size:=by rw [hp.length_eq];simp
 refine q8 (wpAny_newList ?_ (by rw [hl];exact qi (jF few) big));have hoL:(h1.push (ya "list" vs.toArray 0)).get? h1.objs.size=some (ya "list" vs.toArray 0):=qH _ rfl;refine q8 (v8 (j9 slot_list_sort ⟨_,hoL,rfl⟩ entry_list_sort (hsort _ _ _ _ vs 0 _ hp hoL λout ho=>⟨_,rfl,?_⟩) (args_list_sort _)));obtain ⟨e,he⟩:=sortedHeap_at (out:=out) hoL;refine j3 ⟨_,rfl,h _ d1 tk h1.objs.size out e (λb o g=>?_) (jF hlt) he ho⟩;have hb:b<h1.objs.size:=qM (kp b o g);rw [sortedHeap_old (qW hb) (by rw [qu];exact jm hb),qD _ (kp b o g)]
def sorted_setI (hh:A.handled=none) (g:Good (QY prog w) s.heap a ks (ledOf w)) (few:ks.length<64)
  (h:∀ (h':Heap) (d':Drawn) (tk:Nat) (D:Addr) (out:Array Value) (e:Nat),(∀ b o,s.heap.get? b=some o->h'.get? b=some o)->s.heap.objs.size<=D->h'.get? D=some (ya "list" out e)->ud out.toList (L3.sortI ks)->Q (.ref D) { s with heap:=h',drawn:=d',toks:=tk }):
  wpAny (model prog w) A (call (.builtin "sorted") [.ref a]) Q E s:=by
 obtain ⟨es,ep,t,g1,hT,hl,hv⟩:=g.keys;refine a7n (Out:=λout=>ud out.toList (L3.sortI ks)) hh g1 hT (by rw [hl];exact few) (λA' E' s' l vs n P hp ho q=>?_) h;obtain ⟨qs,hk,hq⟩:=hv vs hp;refine list_sort_tree ho (b0p hk) (by rw [hp.length_eq,qE,qP,hl];exact few) λout ns' h1 h2 h3=>q out ?_;rw [<-L3.sortI_eq (h2.trans hq) h3];exact h1
end
end L2.SX
namespace L2.L3
open PySem PySem.Spec PyProof.Rows
def c2M (X:Cx) (H0 Gz G:Hp) (ρ:List Ent) (H:Hp) (Q:Option Int->Hp->Prop):Re (Option Int)->Prop
 | .ok b=>∀ G' H',Grow G H G' H'->Q b H'
 | .ex c=>nN X H0 Gz G ρ c
def rO (X:Cx) (f:OF):TO:=λσ H Q=>∃ ρ r H0 Gz G,f ρ=some r/\RepS X.K H0 Gz G H σ ρ/\c2M X H0 Gz G ρ H Q r
structure DO (X:Cx) (e:Option Expr) (f:OF):Prop where
 run:PO X e (rO X f)
variable {a d:Expr} {fd:EF} {ns:List Str}
def bO {fa:OF} {β:Type} {k:Option Int->Mm β} {r:Re β} (R:RepS X.K H0 Gz G H σ ρ) (e:bnd (fa ρ) k=some r) {T:Option Int->Hp->Prop} (hx:∀ c,r=.ex c->nN X H0 Gz G ρ c)
  (h:∀ x G1 H1,Grow G H G1 H1->RepS X.K H0 Gz G1 H1 σ ρ->k x=some r->T x H1):rO X fa σ H T:=by
 rcases eV e with ⟨x,e1,e2⟩ | ⟨c,e1,e2⟩
 ·exact ⟨ρ,_,H0,Gz,G,e1,R,λG1 H1 g1=>h x G1 H1 g1 (R.more g1) e2⟩
 ·exact ⟨ρ,_,H0,Gz,G,e1,R,hx c e2⟩
def xT:DO X none xH:=⟨λpz s σ H Q I ⟨ρ,r,H0,Gz,G,e,R,q⟩=>by
 cases (qB e)
 exact b5f pz s σ H Q I (q G H (.refl R.sub))⟩
def xS (ha:DE X a fa):DO X (some a) (rY fa):=⟨λpz s σ H Q I ⟨ρ,r,H0,Gz,G,e,R,q⟩=>by
 refine b5e ha.run pz s σ H Q I (bE R e (λc z=>by subst z;exact q) λx v G1 H1 g1 R1 rv e1=>?_);obtain ⟨k,ek,rfl⟩:=bL e1;cases x<;>simp only [intD,Option.map] at ek<;>cases ek
 cases rv
 exact ⟨_,rfl,q G1 H1 g1⟩⟩
def b4d (ha:DE X a fa) (hl:DO X lo fl) (hh:DO X hi fh):DE X (.Subscript a (.Slice lo hi none p2) pos) (slE fa fl fh):=⟨λpz s σ H Q I ⟨ρ,r,H0,Gz,G,e,R,q⟩=>
 a5P (b4O.or b1K) ha.run hl.run hh.run pz s σ H Q I (bE R e q.x λx v G1 H1 g1 R1 rv e1=>bO R1 e1 (q.more g1).x λl G2 H2 g2 R2 e2=>bO R2 e2 ((q.more g1).more g2).x λh G3 H3 g3 R3 e3=>by
  obtain ⟨d,ed,rfl⟩:=bL e3;have g23:=g2.trans g3;unfold slD at ed;split at ed
  ·cases (qB ed)
   cases rv with
   | list hq r=>
    refine .inl ⟨_,_,rfl,(g23.gg.trans g23.sub).seq hq,λl hl=>q _ _ _ ((g1.trans g23).trans (.put g23.sub hl)) ?_⟩;exact .list (.of aG) (a2F (r.mono (g23.gg.trans (bF (g23.sub.free hl)))) _ _)
  ·split at ed
   ·cases ed
   ·rename_i hw
    cases (qB ed);cases rv with
    | tuple hq r=>
     refine .inr ⟨_,_,rfl,nV (g23.gg.trans g23.sub) hq,by rw [r.length];exact hw,λl hl=>q _ _ _ ((g1.trans g23).trans (.put g23.sub hl)) ?_⟩;exact .tuple (.of aG) (a2F (r.mono (g23.gg.trans (bF (g23.sub.free hl)))) _ _)
  ·cases ed)⟩
def Inv.draws (I:Inv X pz σ H s):Inv X pz σ H { s with drawn:=d' }:=⟨I.ok,I.os,I.bare,I.base,I.loc,I.cell,I.free,I.freeC,I.pin,I.hok,I.len⟩
def a8f {α:Type} [DecidableEq α] (d:α) (ns:List α):SX.metK (λi=>ns.getD i d) ns.length=ns.foldl SX.addK []:=by
 unfold SX.metK;have:(qm ns.length).map (λi=>ns.getD i d)=ns:=by
  refine jT λi=>?_;rw [qQ];by_cases h:i<ns.length
  ·rw [zH h,qK h];simp [h]
  ·rw [qb (by simp;omega),qb (by omega)];rfl
 rw [this]
def a0q (ns:T0s):SX.metK (λi=>ns.getD i 0) ns.length=lX ns:=a8f 0 ns
def a9f {ns:T0s} (h:ud vs ns):∀ (i:Nat) (v:Value),vs[i]?=some v->∃ t:Tok,v=vd (ns.getD i 0) t:=by
 induction h with
 | nil=>intro i v e;simp at e
 | cons n t _ ih=>
  intro i v e;cases i with
  | zero=>simp at e;exact ⟨t,by simp [<-e]⟩
  | succ i=>simpa using ih i v (by simpa using e)
def a8w (h:StrsAre vs ns):∀ (i:Nat) (v:Value),vs[i]?=some v->∃ t:Tok,v=Value.str (ns.getD i "") t:=by
 induction h with
 | nil=>intro i v e;simp at e
 | cons n t _ ih=>
  intro i v e;cases i with
  | zero=>simp at e;exact ⟨t,by simp [<-e]⟩
  | succ i=>simpa using ih i v (by simpa using e)
def a1D:∀ {us:T0m},bB (ns.map V.str) us->StrsAre us ns:=by
 induction ns with
 | nil=>intro us r;cases r;exact .nil
 | cons n ns ih=>intro us r;cases r with | cons r1 r2=>obtain ⟨t,rfl⟩:=r1;exact .cons n t (ih r2)
theorem a3i:∀ {vs:T0m} {ns:T0q},StrsAre vs ns->bB (ns.map V.str) vs
 | _,_,.nil=>.nil
 | _,_,.cons n t h=>.cons ⟨t,rfl⟩ (a3i h)
theorem xD {K:qC} {G:Hp}:∀ ns:List Str,RepAll K G (ns.map V.str) (ns.map .str)
 | []=>.nil
 | _::r=>.cons (.str _) (xD r)
def a0E (h:StrsAre vs ns):vs.length=ns.length:=by induction h<;>simp [*]
def sG {a b c:Str} (h1:cO a b=true) (h2:cO b c=true):cO a c=true:=by
 unfold cO at *;simp only [zW,decide_eq_false_iff_not,List.not_lt] at *;exact List.le_trans h1 h2
def mQ (a b:Str):(cO a b || cO b a)=true:=by
 unfold cO;simp only [vj,zW,decide_eq_false_iff_not,List.not_lt];exact List.le_total _ _
def a2g {a b:Str} (h1:cO a b=true) (h2:cO b a=true):a=b:=by
 unfold cO at *;simp only [zW,decide_eq_false_iff_not,List.not_lt] at *;have e:=List.le_antisymm h1 h2;cases a;cases b;congr 1;exact Array.toList_inj.mp e
def lJ (ns:T0q):(xA ns).Perm ns:=vy _ _
def a4w (ns:T0q):(xA ns).Pairwise (λa b=>cO a b=true):=vN (le:=cO) (λa b c h1 h2=>sG h1 h2) mQ ns
theorem a3s:∀ (l:T0q) (p:Str),risingS p l=true->(p::l).Pairwise (λa b=>cO a b=true)
 | [],p,_=>zN _ _
 | x::r,p,h=>by
  have h':(!ltCps x.cps.toList p.cps.toList&&risingS x r)=true:=h;rw [qJ] at h';have h1:cO p x=true:=by unfold cO;rw [<-ltCps_eq];exact h'.1
  have ih:=a3s r x h'.2;refine jL.mpr ⟨λy hy=>?_,ih⟩;rcases qG.mp hy with z | z
  ·rw [z];exact h1
  ·exact sG h1 ((jL.mp ih).1 y z)
def a9Q (l:T0q) (h:sortedS l=true):l.Pairwise (λa b=>cO a b=true):=by
 cases l with
 | nil=>exact .nil
 | cons x r=>exact a3s r x h
theorem a1M:∀ {a b:T0q},a.Perm b->a.Pairwise (λa b=>cO a b=true)->b.Pairwise (λa b=>cO a b=true)->a=b
 | [],b,hp,_,_=>by rw [List.nil_perm.mp hp]
 | x::a,b,hp,ha,hb=>by
  match b,hp,hb with
  | [],hp,_=>exact absurd hp.length_eq (by simp)
  | y::b,hp,hb=>
   have h1:=jL.mp ha;have h2:=jL.mp hb;have e:x=y:=by
    rcases qG.mp (hp.mem_iff.mp (qY (a:=x) (l:=a))) with z | z
    ·exact z
    ·rcases qG.mp (hp.mem_iff.mpr (qY (a:=y) (l:=b))) with q | q
     ·exact q.symm
     ·exact a2g (h1.1 y q) (h2.1 x z)
   subst e;rw [a1M (List.Perm.cons_inv hp) h1.2 h2.2]
def b1J {ms:T0q} (hp:ms.Perm ns) (hs:sortedS ms=true):ms=xA ns:=a1M (hp.trans (lJ ns).symm) (a9Q ms hs) (a4w ns)
def b3f {K:qC} {x:j0} (h:b0u T x=some t):zX K (.type (tyD x)) (.type T)=some t:=by
 unfold b0u at h;by_cases c:T = "int"
 ·rw [if_pos c] at h;subst c;cases x<;>first | (cases h;rfl) | cases h
 rw [if_neg c] at h;by_cases c:T = "bool"
 ·rw [if_pos c] at h;subst c;cases x<;>first | (cases h;rfl) | cases h
 rw [if_neg c] at h;by_cases c:T = "str"
 ·rw [if_pos c] at h;subst c;cases x<;>first | (cases h;rfl) | cases h
 rw [if_neg c] at h;by_cases c:T = "tuple"
 ·rw [if_pos c] at h;subst c;cases x<;>first | (cases h;rfl) | cases h
 rw [if_neg c] at h;cases h
def b6e {D:List (j0×j0)} (h:b0u T (.dict D)=some t):False:=by
 unfold b0u tyI tyB tyS tyT at h;split at h
 ·cases h
 split at h
 ·cases h
 split at h
 ·cases h
 split at h
 ·cases h
 ·cases h
section
variable {x:Str}
def a4f (hm:X.mg "isinstance" = none) (hx:X.mg x=none) (hv:wg x=some (.type T)) (ha:DE X a fa) (hn:x ≠ "__name__":=by decide) (hdb:(x==("__debug__" : Str))=false:=by decide)
  (he:j4 [a,.Name x p2] X.env=(false,eval a X.env)::j4 [.Name x p2] X.env:=by rfl) (he2:j4 [.Name x p2] X.env=(false,eval (.Name x p2) X.env)::j4 [] X.env:=by rfl)
  (hpl:(v0 pos (j4 [.Name x p2] X.env)).any (·.1)=false:=by rfl) (hg:Gl X "isinstance":=by rfl) (hgx:Gl X x:=by rfl):DE X (.Call (.Name "isinstance" p) [a,.Name x p2] [] pos) (op1 (isD T) fa):=by
 have hc:iP X (.builtin "isinstance") (λxs H Q=>∃ v d t,xs=[v,.ty T]/\Rep X.K H v d/\b0u T d=some t/\Q (.bl t) H):=by
  intro pz s σ H xs us Q I r ⟨v,d,t,e1,rv,ht,q⟩;subst e1;obtain ⟨u,w',rfl,r1,r2⟩:=vals2 r;cases r2;exact b3e I rv (λD z=>by subst z;exact b6e ht) r1 (b3f ht) λtk=>⟨.bl t,H,I.tok tk,rfl,q⟩
 exact ⟨λpz s σ H Q I ⟨ρ,r,H0,Gz,G,e,R,q⟩=>a5Q hc hg hm boot_isinstance (iY ha.run (iY (b5q (v:=.ty T) hgx hx hv rfl hn hdb) pA he2) he) (by decide) (by decide) he hpl pz s σ H Q I (bE R e q.x λx v G1 H1 g1 R1 rv e1=>by
  obtain ⟨d,ed,rfl⟩:=bL e1;obtain ⟨t,et,rfl⟩:=qO.mp ed
  exact ⟨v,x,t,rfl,rv.mono g1.sub,et,q _ _ _ g1 (.bool t)⟩)⟩
end
def anyB (ds:T0l):Option j0:=match ds with
 | [.list xs]=>(fK oH xs).map λns=>.bool (ns.any id)
 | _=>none
def range_any (bs:List Bool):(qm bs.length).any (λi=>bs.getD i false)=bs.any id:=by
 have:(qm bs.length).map (λi=>bs.getD i false)=bs:=by
  refine jT λi=>?_;rw [qQ];by_cases h:i<bs.length
  ·rw [zH h,qK h];simp [h]
  ·rw [qb (by simp;omega),qb (by omega)];rfl
 conv=>rhs;rw [<-this]
 rw [wR];rfl
section
variable {x:Str}
def b0S (hc:X.calm=true):iP X (.builtin "any") (λxs H Q=>∃ (p:Addr) (bs:List Bool),xs=[.ref p]/\SqL X.K H p (bs.map V.bl)/\Q (.bl (bs.any id)) H):=by
 intro pz s σ H xs us Q I r ⟨p,bs,e,hq,q⟩;subst e;obtain ⟨u,rfl,rx⟩:=vals1 r;cases rx;obtain ⟨its,rv,pl,hz⟩:=I.list hq;have ev:=a4r rv;subst ev;have hl:=pl.isList;have lt:p<s.heap.objs.size:=by obtain ⟨o,g,_⟩:=hl;exact qM g
 refine call_any_walk (ym hl ?_);refine ⟨s.heap.objs.size,_,_,_,_,_,λi=>bs.getD i false,rfl,Walks.list (A:=X.A.in1) (I.ok.hd hc) _ p (qW lt) (bs.map kZ).toArray,⟨⟨_,qH _ rfl,rfl,rfl⟩,hl.push _⟩,λi v s' Q' E' hP hQ=>?_,λh' tk kp=>?_⟩
 ·have hP:(bs.map kZ).toArray[i]?=some v:=hP
  rw [jG,qQ] at hP;cases eb:bs[i]? with
  | none=>rw [eb] at hP;cases hP
  | some b=>
   rw [eb] at hP;cases hP;refine v9 ?_;have:bs.getD i false=b:=by rw [zw,eb];rfl
   rw [<-this];exact hQ
 ·have sz:(bs.map kZ).toArray.size=bs.length:=by simp
  rw [sz,range_any];refine ⟨.bl _,H,I.kept (λb o g=>kp b o ?_ (qD _ g)),rfl,q⟩;intro hb;have z:b=s.heap.objs.size:=by simpa using hb
  exact absurd (qM g) (by rw [z];exact jK _)
def a8r (hc:X.calm=true) (ds:T0l) (d:j0) (h:anyB ds=some d):CallD X (.builtin "any") ds d:=by
 unfold anyB at h;split at h
 ·obtain ⟨ns,e,rfl⟩:=qO.mp h
  have:=fE (g:=.bool) (λd a q=>yB q) e;subst this
  exact ⟨_,b0S hc,λvs G H Q s r q=>by
   cases r with | cons r rr=>cases rr;cases r with | list hq r=>
    have e:=r.bools;subst e
    exact ⟨_,ns,rfl,s.seq hq,q _ G H (.refl s) (.bool _)⟩⟩
 ·cases h
def inX (x y:j0):Option Bool:=match x with
 | .tuple _=>none
 | .list _=>none
 | _=>inD x y
def a7O (hu:X.A.in1.units+64<cLine) (x y:j0) (t:Bool) (h:inX x y=some t):CmpD X .In x y t:=by
 unfold inX at h;split at h
 ·cases h
 ·cases h
 ·exact c0U x y t h
end
theorem _root_.L2.Room.units1 (r:Room k A):A.in1.units+64<cLine:=by
 have:=r.un;show A.units+1+64<cLine;omega
section
variable {x:Str}
end
def a0Q (ds:T0l):List j0:=(qm ds.length).map λ(k:Nat)=>.tuple [.int (k:Int),ds.getD k .none]
def b3F (fa:EF):AF:=λρ=>match fa ρ with
 | some (.ok (.list a))=>some (.ok (a0Q a))
 | _=>none
def Itn (K:qC) (l:Addr):It:=
 ⟨λi H=>∃ xs x,SqL K H l xs/\xs[i]?=some x,
 λi H v H'=>∃ T x,H T=none/\v=.ref T/\H'=upd H T (.tup [.int (i:Int),x])/\∀ xs,SqL K H l xs->xs[i]?=some x,
 λi H=>∃ xs,SqL K H l xs/\xs.length<=i⟩
def b7G (e it l:Addr) (i:Nat) (h:Heap):Prop:=(∃ old,IsEnum h e it i old)/\h.IsListIter it l i
def a9I {K:qC} {e:Addr} (hne:e≠it):Turn P w K (.Tuple pq k0 p0) (Itn K l) [e,it] e (b7G e it l) where
 mem:=by simp
 obj:=λi h ⟨⟨old,he⟩,⟨o1,g1,_,d1⟩⟩ c hc=>by
  simp only [qG,ql,or_false] at hc;rcases hc with rfl | rfl
  ·exact ⟨_,he,λv q=>by cases q⟩
  ·exact ⟨o1,g1,λv q=>by rw [d1] at q;cases q⟩
 keep:=λi h h' ⟨⟨old,he⟩,h1⟩ kp=>⟨⟨old,kp e (by simp) _ he⟩,h1.at λo q=>kp it (by simp) o q⟩
 item:=by
  intro X hP hw hK hc i pz s σ H E I hf ⟨⟨old,he⟩,h1⟩ ⟨xs,x,q1,ex⟩;subst hP hw hK;obtain ⟨its,r1,p1,_⟩:=I.list q1;obtain ⟨u,eu,ru⟩:=r1.get ex;refine wpAny_pyNext_enum_item he h1 p1.isList (x:=u) (by rw [jG];exact eu) hne λh' a1 a2 a3 a4 hk=>⟨_,rfl,?_⟩;refine wpAny_letOwnedTupleGo_enum a1 λh2' hz' hs'=>?_;have hk2:∀ c o,c∉[e,it]->s.heap.get? c=some o->h2'.get? c=some o:=λc o hc q=>by
   simp only [qG,ql,or_false,not_or] at hc;exact hs'.extBut c o hc.1 (hk c o hc.1 hc.2 q)
  have nT:s.heap.objs.size≠e:=jW (qM he);have new:bZ X.prog X.w (upd H s.heap.objs.size (.tup [.int (i:Int),x])) h2' s.heap.objs.size (.tup [.int (i:Int),x]):=
   ⟨by show 2<=j5;decide,[.int i s.toks,u],.cons ⟨_,rfl⟩ (.cons ru .nil),⟨_,hs'.extBut _ _ nT a3,rfl,_,rfl⟩⟩
  have hfT:H s.heap.objs.size=none:=I.hok.fresh (qN _)
  refine ⟨.ref s.heap.objs.size,upd H s.heap.objs.size (.tup [.int (i:Int),x]),Inv.turnNew (s:=s) (h':=h2') (t':=s.toks+1) [e,it] I (λc hc=>hf c hc) hk2 (qN _) new,rfl,
   ⟨_,x,hfT,rfl,rfl,λxs' q=>by rw [I.list_inj q q1];exact ex⟩,⟨⟨u,hz'⟩,a2.extBut hs'.extBut (jJ hne)⟩,λc hc=>?_⟩
  obtain ⟨o,q,_⟩:∃ o,s.heap.get? c=some o/\True:=by
   simp only [qG,ql,or_false] at hc;rcases hc with rfl | rfl
   ·exact ⟨_,he,trivial⟩
   ·obtain ⟨o,g,_⟩:=h1;exact ⟨o,g,trivial⟩
  rw [aE (qW (qM q))];exact (hf c hc).1
 done:=by
  intro X hP hw hK hc i pz s σ H E I hf ⟨⟨old,he⟩,h1⟩ ⟨xs,q1,hend⟩;subst hP hw hK;obtain ⟨its,r1,p1,_⟩:=I.list q1;have l1':=r1.length;refine wpAny_pyNext_enum_end (I.ok.hd hc) he h1 p1.isList (by rw [jG];exact qb (by omega)) λh' hk=>⟨rfl,Inv.turnAll (t':=s.toks) [e,it] I (λc hc=>hf c hc) λc o hc q=>?_⟩;simp only [qG,ql,or_false,not_or] at hc;exact hk c o hc.2 q
 self:=λA i s Q E ⟨⟨old,he⟩,_⟩ h=>wpAny_pyIter_enum he h
def b6u (ds:T0l) (i:Nat):(a0Q ds)[i]?=(ds[i]?).map λd=>.tuple [.int (i:Int),d]:=by
 unfold a0Q;rw [qQ];by_cases h:i<ds.length
 ·rw [zH h,qK h];simp [h]
 ·rw [qb (by simp;omega),qb (by omega)];rfl
def a9F {K:qC} (h1:SqL K G l xs) (r1:RepAll K G xs ds):Walk K (Itn K l) G (a0Q ds):=by
 intro i G' H' s1 s2;have a1:=(s1.trans s2).seq h1;refine ⟨λd e=>?_,λhl=>⟨xs,a1,?_⟩⟩
 ·rw [b6u] at e
  obtain ⟨p,e1,rfl⟩:=qO.mp e;obtain ⟨v,ev,rv⟩:=r1.get e1;refine ⟨⟨xs,v,a1,ev⟩,λx H2 ⟨T,x',hT,ex,eH,b1⟩=>?_⟩;subst ex eH;have b3:=b1 xs a1;rw [ev] at b3;cases b3;have hG:G' T=none:=s2.free hT;exact ⟨upd G' T (.tup [.int (i:Int),v]),.put s2 hT,.tuple (.of aG) (.cons (.int _) (.cons ((rv.mono s1).mono (bF hG)) .nil))⟩
 ·unfold a0Q at hl
  rw [qE,zU] at hl;have e1:=r1.length;omega
def b6E (hm:X.mg "enumerate" = none) (ha:DE X a fa) (hs:j4 [a] X.env=(false,eval a X.env)::j4 [] X.env:=by rfl)
  (hpl:(v0 pos (j4 [] X.env)).any (·.1)=false:=by rfl) (hg:Gl X "enumerate":=by rfl):DI X (.Tuple pq k0 p0) (.Call (.Name "enumerate" p) [a] [] pos) (b3F fa):=a9r λρ r e=>by
 unfold b3F at e;split at e
 ·rename_i as e1
  refine ⟨_,(qB e).symm,⟨?_⟩⟩;intro pz s σ H R I ⟨H0,Gz,G,S,q⟩;have pa:=gQ (ha.pd e1) mO hs;refine k6 (iG I hg hm boot_enumerate ?_ (by decide) (by decide));refine kr (thn (pa.run H0 Gz G pos pz s σ H (λvs H'=>∃ G',Grow G H G' H'/\RepAll X.K G' vs [.list as]) I S λvs G' H' g r=>⟨G',g,r⟩) λus s1 ⟨vs,H1,I1,r1,G1,g1,w1⟩=>?_) hs hpl;cases w1 with
  | cons wa wn=>
   cases wn;cases wa with
   | list hq ra=>
    obtain ⟨u,rfl,ru⟩:=vals1 r1;cases ru;obtain ⟨its,r1',p1,_⟩:=I1.list (g1.sub.seq hq);refine call_enumerate_list p1.isList λh' z1 z2 z3 hk=>?_;refine wpAny_pyIter_enum z1 ?_;refine ⟨s1.heap.objs.size+1,[s1.heap.objs.size+1,s1.heap.objs.size],_,_,H1,rfl,I1.kept (h':=h') (t':=s1.toks) (λb o e=>hk b o e),a9I (Nat.succ_ne_self _),⟨⟨_,z1⟩,z2⟩,λc hc=>?_,q _ G1 H1 g1 (a9F hq ra)⟩;have ge:s1.heap.objs.size<=c:=by
     simp only [qG,ql,or_false] at hc;rcases hc with h | h<;>rw [h]<;>first | exact wY _ _ | exact qN _
    exact I1.fpOk ge (I1.hok.fresh ge)
 ·cases e
def a6E:DS X st a7k:=⟨λpz s σ H D I ⟨ρ,o,H0,Gz,G,e,R,q⟩=>by cases e⟩
end L2.L3
namespace L2.ZT
open PySem PyProof.Rows
variable {c t:Addr} {xs:Array Value}
section
def b1w {x:Value} (hc:s.heap.IsTupleIter c t i) (ht:s.heap.IsTuple t xs) (hx:xs[i]?=some x)
  (q:∀ k,k.IsTupleIter c t (i+1)->kB c s.heap k->Q x { s with heap:=k }):wpAny (model prog w) A (jM (.ref c)) Q E s:=by
 obtain ⟨oc,gc,ec,dc⟩:=id hc;obtain ⟨ot,gt,_,nt,dt⟩:=ht;unfold jM;refine q8 (k5 (name:=qx "__next__") hc.typeIs zJ (j9 zJ hc.typeIs F.entry_tuple_iterator_next ?_ (F.args_tuple_iterator_next_1 _)));show wpAny _ _ (field (.ref c) 0>>=_) _ _ s;refine q8 (wq gc dc (x:=.ref t) rfl ?_);show wpAny _ _ (if (qw t==jR)=true then _ else _) _ _ s;rw [if_neg (λz=>by cases z)];show wpAny _ _ (field (.ref c) 1>>=_) _ _ s;refine q8 (wq gc dc (x:=.int i 0) rfl ?_);show wpAny _ _ (yz (.ref t)>>=_) _ _ s;refine q8 (v6 gt dt ?_);simp only [jE,hx];refine q8 (wpAny_setField gc dc (by simp) (j3 ⟨x,rfl,j3 (q _ ?_ (jv ..))⟩));refine ⟨_,kA _ gc (Obj.isFreed_of_fields (Obj.data_mapFields dc _)),(Obj.cls_mapFields ..).trans ec,?_⟩;rw [Obj.data_mapFields dc];simp [v7]
def b1u (hh:A.handled=none) (hc:s.heap.IsTupleIter c t i) (ht:s.heap.IsTuple t xs) (hx:xs[i]?=none)
  (q:∀ k e,Heap.ExtBut c s.heap k->(∃ o,k.get? e=some o/\o.cls=.type "StopIteration")->E (.ref e) { s with heap:=k }):wpAny (model prog w) A (jM (.ref c)) Q E s:=by
 obtain ⟨oc,gc,ec,dc⟩:=id hc;obtain ⟨ot,gt,_,nt,dt⟩:=ht;unfold jM;refine q8 (k5 (name:=qx "__next__") hc.typeIs zJ (j9 zJ hc.typeIs F.entry_tuple_iterator_next ?_ (F.args_tuple_iterator_next_1 _)));show wpAny _ _ (field (.ref c) 0>>=_) _ _ s;refine q8 (wq gc dc (x:=.ref t) rfl ?_);show wpAny _ _ (if (qw t==jR)=true then _ else _) _ _ s;rw [if_neg (λz=>by cases z)];show wpAny _ _ (field (.ref c) 1>>=_) _ _ s;refine q8 (wq gc dc (x:=.int i 0) rfl ?_);show wpAny _ _ (yz (.ref t)>>=_) _ _ s;refine q8 (v6 gt dt ?_);simp only [jE,hx];refine q8 (wp (q8 (wpAny_setField gc dc (by simp) ?_)));unfold Builtin.SmallTypes.stopIteration;refine q8 ?_;simp only [newExc,newTuple];refine q8 (j8 ?_ (by size_fits));refine q8 (m:=yi _ _) (ub (a:=jR) (by simp only [yi];rfl) ?_);refine j8 ?_ (by size_fits);simp only [QM];refine q8 (QH ?_);rw [show A.in1.handled=none from hh];refine q8 (j3 (wpAny_throw (q _ _ ?_ ⟨_,qH _ rfl,rfl⟩)));exact ((jv ..).extBut.push _).push _
variable {TI TO d u:Addr} {a b:Value}
end
abbrev itT (l:Addr):Obj:={ cls:=.type "tuple_iterator", data:=.fields #[.ref l,.int 0 0] }
end L2.ZT
namespace L2.L3
open PySem PySem.Spec PyProof.Rows
def Itt (K:qC) (l1 l2:Addr):It:=
 ⟨λi H=>∃ xs ys x y,SqT K H l1 xs/\SqT K H l2 ys/\xs[i]?=some x/\ys[i]?=some y,
 λi H v H'=>∃ T x y,H T=none/\v=.ref T/\H'=upd H T (.tup [x,y])/\(∀ xs,SqT K H l1 xs->xs[i]?=some x)/\∀ ys,SqT K H l2 ys->ys[i]?=some y,
 λi H=>∃ xs ys,SqT K H l1 xs/\SqT K H l2 ys/\(xs.length<=i\/ys.length<=i)⟩
section
variable {a:Expr}
end
end L2.L3
namespace L2.L3
open PySem PySem.Spec PyProof.Rows PySem.W PySem.Builtin PySem.Builtin.ObjectAttr PySem.Builtin.Getset_descriptor
section
variable {K:Frag} {D:Addr} {ox:Obj}
end
end L2.L3
namespace L2.L3
open PySem PySem.Spec PyProof.Rows
variable {f:SF}
noncomputable def CX1 (P:Program) (w:World):CXT:=λouter H s E e s'=>∃ a C H',e=.ref a/\E (.ref C) none H'/\s'.os=s.os/\u6 s'.gens/\Un (frs outer) [] H H' s.heap s'.heap/\HOk P w H' s'.heap/\ExcAt (λb=>s.heap.get? b=none) H' a C s'.heap
section
variable {K:qC} {x:Str} {F:List j0->Mm j0}
end
section
variable {K:qC}
end
section
variable {x:Str}
end
section
variable {K:qC} {x y:Str} {F:Str->Mm j0}
end
section
variable {env:Env}
end
section
variable {σ:List (Option V)} {fr:Addr->Prop}
end
section
variable {cap:T0e} {t:Tg}
end
end L2.L3
namespace L2.ST
open PySem PySem.W PyProof.Rows
section
variable {α β:Type} {lt:Nat->Nat->Bool}
def run (lt:Nat->Nat->Bool):KasT α->α
 | .ret a=>a
 | .ask i j k=>run lt (k (lt i j))
def asks (n:Nat) (lt:Nat->Nat->Bool):KasT α->Prop
 | .ret _=>True
 | .ask i j k=>i<n/\j<n/\asks n lt (k (lt i j))
def Hq (n:Nat) (lt:Nat->Nat->Bool) (t:KasT α) (Q:α->Prop):Prop:=asks n lt t/\Q (run lt t)
def lT {a:α} {Q:α->Prop} (h:Q a):Hq n lt (.ret a) Q:=⟨trivial,h⟩
def a0g {k:Bool->KasT α} {Q:α->Prop} (hi:i<n) (hj:j<n) (h:Hq n lt (k (lt i j)) Q):Hq n lt (.ask i j k) Q:=⟨⟨hi,hj,h.1⟩,h.2⟩
theorem tK {f:α->KasT β} {Q:β->Prop}:∀ {t:KasT α},Hq n lt t (λa=>Hq n lt (f a) Q)->Hq n lt (t.bind f) Q
 | .ret _,h=>h.2
 | .ask i j k,h=>a0g h.1.1 h.1.2.1 (tK (t:=k (lt i j)) ⟨h.1.2.2,h.2⟩)
def iZ {t:KasT α} {Q Q':α->Prop} (h:Hq n lt t Q) (hq:∀ a,Q a->Q' a):Hq n lt t Q':=⟨h.1,hq _ h.2⟩
theorem wp_run {cmp:Nat->Nat->(Bool->Shared->Prop)->Shared->Prop} {s:Shared} (hc:∀ i j C,i<n->j<n->C (lt i j) s->cmp i j C s):∀ (t:KasT α) {Q:α->Shared->Prop},asks n lt t->Q (run lt t) s->t.kasWp cmp Q s
 | .ret _,_,_,h=>h
 | .ask i j k,Q,a,h=>hc i j _ a.1 a.2.1 (wp_run hc (k (lt i j)) a.2.2 h)
end
variable {p:Array Nat}
section
variable {r:Nat->Int}
def vl (r:Nat->Int) (p:Array Nat) (k:Nat):Int:=r (p.getD k 0)
def ltr (r:Nat->Int) (i j:Nat):Bool:=decide (r i<r j)
def Up (r:Nat->Int) (p:Array Nat) (k:Nat):Prop:=∀ i j,i<=j->j<k->vl r p i<=vl r p j
def uW (r:Nat->Int) (p:Array Nat) (k:Nat):Prop:=∀ i j,i<=j->j<k->vl r p j<=vl r p i
structure Pm (n:Nat) (p:Array Nat):Prop where
 size:p.size=n
 perm:p.Perm (qm n).toArray
theorem Pm.lt (h:Pm n p) (hn:0<n) (k:Nat):p.getD k 0<n:=by
 by_cases hk:k<p.size
 ·have e:p.getD k 0=p[k]:=by simp [zp,hk]
  rw [e];have:p[k]∈(qm n).toArray:=h.perm.mem_iff.mp (Array.getElem_mem hk);simpa using this
 ·have e:p.getD k 0=0:=by simp [zp,hk]
  rw [e];exact hn
theorem Pm.rev (h:Pm n p) (i j:Nat):Pm n (kas_rev p i j):=⟨by unfold kas_rev;rw [mirror_size];exact h.size,(mirror_perm _ _ _ _).trans h.perm⟩
theorem Pm.bub (h:Pm n p) (i j:Nat):Pm n (bubble p i j):=⟨by rw [bubble_size];exact h.size,(bubble_perm _ _ _).trans h.perm⟩
def xN {q:Array Nat} (h:p[i]?=q[j]?):p.getD i 0=q.getD j 0:=by
 rw [Array.getD_eq_getD_getElem?,Array.getD_eq_getD_getElem?,h]
def a7e (hj:j<=p.size) (k:Nat):vl r (kas_rev p i j) k=if i<=k/\k<j then vl r p (i+j - 1 - k) else vl r p k:=by
 have e:=getElem?_mirror_all (i:=i) hj k;unfold vl kas_rev;by_cases h:i<=k/\k<j
 ·rw [if_pos h] at e ⊢;rw [xN e]
 ·rw [if_neg h] at e ⊢;rw [xN e]
def b1n {src d:Nat} (hs:src<p.size) (hd:d<=src) (k:Nat):vl r (bubble p src d) k=if k=src - d then vl r p src else if src - d<k/\k<=src then vl r p (k - 1) else vl r p k:=by
 have e:=getElem?_bubble hs d hd k;unfold vl;by_cases h:k=src - d
 ·rw [if_pos h] at e ⊢;rw [xN e]
 ·rw [if_neg h] at e ⊢
  by_cases h2:src - d<k/\k<=src
  ·rw [if_pos h2] at e ⊢;rw [xN e]
  ·rw [if_neg h2] at e ⊢;rw [xN e]
def Up.snoc (h:Up r p k) (hk:0<k) (hl:vl r p (k - 1)<=vl r p k):Up r p (k+1):=λi j hij hj=>by
 by_cases e:j=k
 ·subst e
  by_cases e2:i=j
  ·subst e2;exact kG _
  ·exact wS (h i (j - 1) (by omega) (by omega)) hl
 ·exact h i j hij (by omega)
def uW.snoc (h:uW r p k) (hk:0<k) (hl:vl r p k<=vl r p (k - 1)):uW r p (k+1):=λi j hij hj=>by
 by_cases e:j=k
 ·subst e
  by_cases e2:i=j
  ·subst e2;exact kG _
  ·exact wS hl (h i (j - 1) (by omega) (by omega))
 ·exact h i j hij (by omega)
theorem b3n (P:Pm n p) (hn:0<n):∀ (f m:Nat),0<m->Up r p m->Hq n (ltr r) (kas_asc p f m) (λk=>m<=k/\k<=m+f/\Up r p k/\(k<m+f->vl r p k<vl r p (k - 1)))
 | 0,m,hm,h=>lT ⟨qN _,qN _,h,λz=>absurd z (by omega)⟩
 | f+1,m,hm,h=>by
  refine a0g (P.lt hn _) (P.lt hn _) ?_;by_cases c:r (p.getD m 0)<r (p.getD (m - 1) 0)
  ·rw [show ltr r (p.getD m 0) (p.getD (m - 1) 0)=true from decide_eq_true c,if_pos rfl]
   exact lT ⟨qN _,by omega,h,λ_=>c⟩
  ·rw [show ltr r (p.getD m 0) (p.getD (m - 1) 0)=false from decide_eq_false c,if_neg (by simp)]
   exact iZ (b3n P hn f (m+1) (by omega) (h.snoc hm (Int.not_lt.mp c))) λk ⟨a,b,c,d⟩=>⟨by omega,by omega,c,λz=>d (by omega)⟩
def a4q (hj:j<=p.size) (he:∀ k,i<=k->k<j->vl r p k=vl r p (j - 1)) (k:Nat):vl r (kas_rev p i j) k=vl r p k:=by
 rw [a7e hj];by_cases h:i<=k/\k<j
 ·rw [if_pos h,he _ (by omega) (by omega),he k h.1 h.2]
 ·rw [if_neg h]
def uW.cong {p':Array Nat} (e:∀ k,vl r p' k=vl r p k) (h:uW r p k):uW r p' k:=λi j a b=>by rw [e,e];exact h i j a b
theorem a4X (hn:0<n):∀ (f:Nat) (p:Array Nat) (m q:Nat),Pm n p->q<m->m+f<=n->uW r p m->(∀ k,m - (q+1)<=k->k<m->vl r p k=vl r p (m - 1)) ->
  Hq n (ltr r) (kas_desc f p m q) (λx=>Pm n x.1/\m<=x.2.1/\x.2.1<=m+f/\x.2.2<x.2.1/\uW r x.1 x.2.1/\∀ k,x.2.1 - (x.2.2+1)<=k->k<x.2.1->vl r x.1 k=vl r x.1 (x.2.1 - 1))
 | 0,p,m,q,P,hq,hm,hd,he=>lT ⟨P,qN _,qN _,hq,hd,he⟩
 | f+1,p,m,q,P,hq,hm,hd,he=>by
  have one:∀ p':Array Nat,∀ k,m+1 - (0+1)<=k->k<m+1->vl r p' k=vl r p' (m+1 - 1):=λp' k a b=>by rw [show k=m+1 - 1 by omega]
  refine a0g (P.lt hn _) (P.lt hn _) ?_;by_cases c:r (p.getD m 0)<r (p.getD (m - 1) 0)
  ·rw [show ltr r (p.getD m 0) (p.getD (m - 1) 0)=true from decide_eq_true c,if_pos rfl]
   have hd':=hd.snoc (by omega) (wT c);by_cases q0:q > 0
   ·rw [if_pos q0]
    have e:=a4q (i:=m - (q+1)) (j:=m) (by rw [P.size];omega) he;exact iZ (a4X hn f _ (m+1) 0 (P.rev _ _) (by omega) (by omega) (hd'.cong e) (one _)) λx ⟨a,b,c,d,e,g⟩=>⟨a,by omega,by omega,d,e,g⟩
   ·rw [if_neg q0]
    exact iZ (a4X hn f _ (m+1) 0 P (by omega) (by omega) hd' (one _)) λx ⟨a,b,c,d,e,g⟩=>⟨a,by omega,by omega,d,e,g⟩
  ·rw [show ltr r (p.getD m 0) (p.getD (m - 1) 0)=false from decide_eq_false c,if_neg (by simp)]
   refine a0g (P.lt hn _) (P.lt hn _) ?_;by_cases c2:r (p.getD (m - 1) 0)<r (p.getD m 0)
   ·rw [show ltr r (p.getD (m - 1) 0) (p.getD m 0)=true from decide_eq_true c2,if_pos rfl]
    exact lT ⟨P,qN _,wY _ _,hq,hd,he⟩
   ·rw [show ltr r (p.getD (m - 1) 0) (p.getD m 0)=false from decide_eq_false c2,if_neg (by simp)]
    have eq:vl r p m=vl r p (m - 1):=by unfold vl;omega
    refine iZ (a4X hn f p (m+1) (q+1) P (by omega) (by omega) (hd.snoc (by omega) (by omega)) λk a b=>?_) λx ⟨a,b,c,d,e,g⟩=>⟨a,by omega,by omega,d,e,g⟩;rw [show m+1 - 1=m by omega,eq];by_cases e2:k=m
    ·rw [e2,eq]
    ·exact he k (by omega) (by omega)
theorem uW.rev {m:Nat} (P:Pm n p) (hm:m<=n) (h:uW r p m):Up r (kas_rev p 0 m) m:=λi j hij hj=>by
 rw [a7e (by rw [P.size];omega),a7e (by rw [P.size];omega),if_pos (by omega),if_pos (by omega)];exact h _ _ (by omega) (by omega)
abbrev b9L (r:Nat->Int) (n:Nat) (x:Nat×Array Nat):Prop:=Pm n x.2/\0<x.1/\x.1<=n/\Up r x.2 x.1
def b3m (hn:0<n) {m:Nat} (P:Pm n p) (h0:0<m) (hm:m<=n) (hd:uW r p m):Hq n (ltr r) (kas_tail3 m n p) (b9L r n):=by
 unfold kas_tail3;refine tK (iZ (b3n (P.rev 0 m) hn (n - m) m h0 (hd.rev P hm)) λk ⟨a,b,c,d⟩=>lT ⟨P.rev 0 m,by show 0<k;omega,by show k<=n;omega,c⟩)
def a2s (hn:0<n) {m:Nat} (P:Pm n p) (hm:m+1<=n) (hd:uW r p (m+1)):Hq n (ltr r) (kas_descPart m n p) (b9L r n):=by
 unfold kas_descPart;refine tK (iZ (a4X hn (n - (m+1)) p (m+1) 0 P (by omega) (by omega) hd (λk a b=>by rw [show k=m+1 - 1 by omega])) λx ⟨a,b,c,d,e,g⟩=>?_);by_cases h:x.2.2 > 0
 ·rw [if_pos h]
  exact b3m hn (a.rev _ _) (by omega) (by omega) (e.cong (a4q (by rw [a.size];omega) g))
 ·rw [if_neg h]
  exact b3m hn a (by omega) (by omega) e
def b6h (hn:0<n) (P:Pm n p):Hq n (ltr r) (kas_count n p) (b9L r n):=by
 unfold kas_count;refine tK (iZ (b3n P hn (n - 1) 1 (by decide) (λi j a b=>by rw [show i=j by omega];exact kG _)) λm ⟨a,b,c,d⟩=>?_);by_cases h:(m==n)=true
 ·rw [if_pos h]
  exact lT ⟨P,by show 0<m;omega,by show m<=n;omega,c⟩
 ·rw [if_neg h]
  have hmn:m<n:=by have:m≠n:=λz=>h (by rw [z];simp);omega
  have dr:=d (by omega);by_cases h1:m > 1
  ·rw [if_pos h1]
   refine a0g (P.lt hn _) (P.lt hn _) ?_;by_cases c2:r (p.getD 0 0)<r (p.getD (m - 1) 0)
   ·rw [show ltr r (p.getD 0 0) (p.getD (m - 1) 0)=true from decide_eq_true c2,if_pos rfl]
    exact lT ⟨P,by show 0<m;omega,by show m<=n;omega,c⟩
   ·rw [show ltr r (p.getD 0 0) (p.getD (m - 1) 0)=false from decide_eq_false c2,if_neg (by simp)]
    have eqs:∀ k,k<m->vl r p k=vl r p (m - 1):=λk hk=>by
     have a1:=c 0 k (jB _) hk;have a2:=c k (m - 1) (by omega) (by omega);have a3:vl r p (m - 1)<=vl r p 0:=Int.not_lt.mp c2;omega
    have e:=a4q (r:=r) (i:=0) (j:=m) (by rw [P.size];omega) (λk _ hk=>eqs k hk);refine a2s hn (P.rev 0 m) (by omega) (uW.cong e ?_);refine uW.snoc (λi j hij hj=>?_) (by omega) (wT dr);rw [eqs i (by omega),eqs j hj];exact kG _
  ·rw [if_neg h1]
   refine a2s hn P (by omega) (uW.snoc (λi j hij hj=>?_) (by omega) (wT dr));rw [show i=j by omega];exact kG _
theorem a4W (hn:0<n) (P:Pm n p) {k:Nat} (hu:Up r p k):∀ (f l u:Nat),l<=u->u<=k->u - l<=f->(∀ i,i<l->vl r p i<=vl r p k)->(∀ i,u<=i->i<k->vl r p k<vl r p i) ->
  Hq n (ltr r) (kas_place p k f l u) (λx=>x<=k/\(∀ i,i<x->vl r p i<=vl r p k)/\∀ i,x<=i->i<k->vl r p k<vl r p i)
 | 0,l,u,h1,h2,h3,a,b=>lT ⟨by omega,a,λi hi hk=>b i (by omega) hk⟩
 | f+1,l,u,h1,h2,h3,a,b=>by
  unfold kas_place;by_cases h:l>=u
  ·rw [if_pos h];exact lT ⟨by omega,a,λi hi hk=>b i (by omega) hk⟩
  ·rw [if_neg h]
   refine a0g (P.lt hn _) (P.lt hn _) ?_;by_cases c:r (p.getD k 0)<r (p.getD ((l+u) / 2) 0)
   ·rw [show ltr r (p.getD k 0) (p.getD ((l+u) / 2) 0)=true from decide_eq_true c,if_pos rfl]
    refine a4W hn P hu f l ((l+u) / 2) (by omega) (by omega) (by omega) a λi hi hk=>?_;have c':vl r p k<vl r p ((l+u) / 2):=c;exact Int.lt_of_lt_of_le c' (hu _ _ hi hk)
   ·rw [show ltr r (p.getD k 0) (p.getD ((l+u) / 2) 0)=false from decide_eq_false c,if_neg (by simp)]
    refine a4W hn P hu f ((l+u) / 2+1) u (by omega) (by omega) (by omega) (λi hi=>?_) b;have c':vl r p ((l+u) / 2)<=vl r p k:=Int.not_lt.mp c;exact wS (hu i ((l+u) / 2) (by omega) (by omega)) c'
theorem b7q (hn:0<n):∀ (f:Nat) (p:Array Nat) (k:Nat),Pm n p->0<k->k+f=n->Up r p k->Hq n (ltr r) (kas_bin f p k) (λq=>Pm n q/\Up r q n)
 | 0,p,k,P,_,hk,hu=>lT ⟨P,by rw [show n=k by omega];exact hu⟩
 | f+1,p,k,P,h0,hk,hu=>by
  unfold kas_bin;refine tK (iZ (a4W hn P hu k 0 k (jB _) (qN _) (by omega) (λi hi=>absurd hi (by omega)) (λi hi hk=>absurd hi (by omega))) λl ⟨a,b,c⟩=>?_);refine b7q hn f _ (k+1) (P.bub _ _) (by omega) (by omega) λi j hij hj=>?_;have hs:k<p.size:=by rw [P.size];omega
  have ei:=b1n (r:=r) hs (show k - l<=k by omega) i;have ej:=b1n (r:=r) hs (show k - l<=k by omega) j;rw [show k - (k - l)=l by omega] at ei ej;rw [ei,ej];by_cases i1:i=l
  ·rw [if_pos i1]
   by_cases j1:j=l
   ·rw [if_pos j1];exact kG _
   ·rw [if_neg j1,if_pos (by omega)];exact wT (c (j - 1) (by omega) (by omega))
  ·rw [if_neg i1]
   by_cases i2:l<i/\i<=k
   ·rw [if_pos i2,if_neg (by omega),if_pos (by omega)];exact hu _ _ (by omega) (by omega)
   ·rw [if_neg i2]
    by_cases j1:j=l
    ·rw [if_pos j1];exact b i (by omega)
    ·rw [if_neg j1]
     by_cases j2:l<j/\j<=k
     ·rw [if_pos j2];exact hu _ _ (by omega) (by omega)
     ·rw [if_neg j2];exact hu _ _ hij (by omega)
def h_sort (hn:2<=n):Hq n (ltr r) (kas_sort n) (λq=>Pm n q/\Up r q n):=by
 unfold kas_sort;refine tK (iZ (b6h (by omega) ⟨by simp,Array.Perm.refl _⟩) λx ⟨a,b,c,d⟩=>?_);by_cases h:x.1<n
 ·rw [if_pos h,show max x.1 1=x.1 by omega]
  exact b7q (by omega) _ _ _ a b (by omega) d
 ·rw [if_neg h]
  exact lT ⟨a,by rw [show n=x.1 by omega];exact d⟩
end
end L2.ST
namespace L2.L3
open PySem PySem.Spec PyProof.Rows
def ltC:j0->j0->Bool
 | .int a,.int b=>decide (a<b)
 | .str a,.str b=>!cO b a
 | _,_=>false
def eqC:j0->j0->Bool
 | .int a,.int b=>a==b
 | .str a,.str b=>a==b
 | _,_=>false
def ltR:List j0->List j0->Bool
 | a::r,b::s=>if eqC a b then ltR r s else ltC a b
 | _,_=>false
def eN:List Bool->List j0->Bool
 | [],[]=>true
 | true::g,.int _::r=>eN g r
 | false::g,.str _::r=>eN g r
 | _,_=>false
variable {a:List j0}
def mL (h:eN [] a=true):a=[]:=by
 cases a with
 | nil=>rfl
 | cons x r=>cases x<;>cases h
def sig_int (h:eN (true::g) a=true):∃ i r,a=.int i::r/\eN g r=true:=by
 cases a with
 | nil=>cases h
 | cons x r=>cases x<;>first | exact ⟨_,_,rfl,h⟩ | cases h
def sig_str (h:eN (false::g) a=true):∃ i r,a=.str i::r/\eN g r=true:=by
 cases a with
 | nil=>cases h
 | cons x r=>cases x<;>first | exact ⟨_,_,rfl,h⟩ | cases h
def a7L (a:Str):cO a a=true:=by have:=mQ a a;rwa [Bool.or_self] at this
theorem a4U:∀ (g:List Bool) (a:T0l),eN g a=true->ltR a a=false
 | [],a,h=>by rw [mL h];rfl
 | true::g,a,h=>by
  obtain ⟨i,r,rfl,h⟩:=sig_int h;simp [ltR,eqC,a4U g r h]
 | false::g,a,h=>by
  obtain ⟨i,r,rfl,h⟩:=sig_str h;simp [ltR,eqC,a4U g r h]
theorem a4T:∀ (g:List Bool) (a b:T0l),eN g a=true->eN g b=true->ltR a b=true\/a=b\/ltR b a=true
 | [],a,b,h,h'=>by rw [mL h,mL h'];exact .inr (.inl rfl)
 | true::g,a,b,h,h'=>by
  obtain ⟨i,r,rfl,h⟩:=sig_int h;obtain ⟨j,q,rfl,h'⟩:=sig_int h';by_cases e:i=j
  ·subst e
   rcases a4T g r q h h' with z | z | z
   ·exact .inl (by simp [ltR,eqC,z])
   ·exact .inr (.inl (by rw [z]))
   ·exact .inr (.inr (by simp [ltR,eqC,z]))
  ·by_cases l:i<j
   ·exact .inl (by simp [ltR,eqC,e,ltC,l])
   ·exact .inr (.inr (by have:¬j=i:=λz=>e z.symm;simp [ltR,eqC,this,ltC];omega))
 | false::g,a,b,h,h'=>by
  obtain ⟨i,r,rfl,h⟩:=sig_str h;obtain ⟨j,q,rfl,h'⟩:=sig_str h';by_cases e:i=j
  ·subst e
   rcases a4T g r q h h' with z | z | z
   ·exact .inl (by simp [ltR,eqC,z])
   ·exact .inr (.inl (by rw [z]))
   ·exact .inr (.inr (by simp [ltR,eqC,z]))
  ·have e':¬j=i:=λz=>e z.symm
   cases l:cO j i with
   | false=>exact .inl (by simp [ltR,eqC,e,ltC,l])
   | true=>
    cases l2:cO i j with
    | false=>exact .inr (.inr (by simp [ltR,eqC,e',ltC,l2]))
    | true=>exact absurd (a2g l2 l) e
theorem a7J:∀ (g:List Bool) (a b c:T0l),eN g a=true->eN g b=true->eN g c=true->ltR a b=true->ltR b c=true->ltR a c=true
 | [],a,b,c,h,_,_,z,_=>by rw [mL h] at z;cases z
 | true::g,a,b,c,h,h',h'',z,z'=>by
  obtain ⟨i,r,rfl,h⟩:=sig_int h;obtain ⟨j,q,rfl,h'⟩:=sig_int h';obtain ⟨k,u,rfl,h''⟩:=sig_int h'';simp only [ltR,eqC,ltC,beq_iff_eq] at z z' ⊢;by_cases e:i=j
  ·subst e
   rw [if_pos rfl] at z;by_cases e2:i=k
   ·subst e2;rw [if_pos rfl] at z' ⊢;exact a7J g r q u h h' h'' z z'
   ·rw [if_neg e2] at z' ⊢;exact z'
  ·rw [if_neg e] at z
   by_cases e2:j=k
   ·subst e2;rw [if_neg e];exact z
   ·rw [if_neg e2] at z'
    rw [decide_eq_true_eq] at z z';rw [if_neg (by omega)];exact decide_eq_true (by omega)
 | false::g,a,b,c,h,h',h'',z,z'=>by
  obtain ⟨i,r,rfl,h⟩:=sig_str h;obtain ⟨j,q,rfl,h'⟩:=sig_str h';obtain ⟨k,u,rfl,h''⟩:=sig_str h'';simp only [ltR,eqC,ltC,beq_iff_eq] at z z' ⊢;by_cases e:i=j
  ·subst e
   rw [if_pos rfl] at z;by_cases e2:i=k
   ·subst e2;rw [if_pos rfl] at z' ⊢;exact a7J g r q u h h' h'' z z'
   ·rw [if_neg e2] at z' ⊢;exact z'
  ·rw [if_neg e] at z
   by_cases e2:j=k
   ·subst e2;rw [if_neg e];exact z
   ·rw [if_neg e2] at z'
    have z1:cO j i=false:=by simpa using z
    have z2:cO k j=false:=by simpa using z'
    have y1:cO i j=true:=by have:=mQ i j;rw [z1,wH] at this;exact this
    have y2:cO j k=true:=by have:=mQ j k;rw [z2,wH] at this;exact this
    have z3:cO k i=false:=by
     cases q3:cO k i with
     | false=>rfl
     | true=>rw [sG q3 y1] at z2;cases z2
    have e3:¬i=k:=λw=>by subst w;rw [a7L] at z3;cases z3
    rw [if_neg e3,z3];rfl
def ltT:j0->j0->Bool
 | .tuple a,.tuple b=>ltR a b
 | _,_=>false
def cB (g:List Bool):j0->Bool
 | .tuple a=>eN g a
 | _=>false
def iM (h:cB g d=true):∃ a,d=.tuple a/\eN g a=true:=by
 cases d<;>first | exact ⟨_,rfl,h⟩ | cases h
section
variable {a b c:j0}
def a4S (h:cB g a=true):ltT a a=false:=by obtain ⟨x,rfl,h⟩:=iM h;exact a4U g x h
def a1p (h:cB g a=true) (h':cB g b=true):ltT a b=true\/a=b\/ltT b a=true:=by
 obtain ⟨x,rfl,h⟩:=iM h;obtain ⟨y,rfl,h'⟩:=iM h';exact (a4T g x y h h').imp id (Or.imp (λe=>by rw [e]) id)
def a4R (h:cB g a=true) (h':cB g b=true) (h'':cB g c=true) (z:ltT a b=true) (z':ltT b c=true):ltT a c=true:=by
 obtain ⟨x,rfl,h⟩:=iM h;obtain ⟨y,rfl,h'⟩:=iM h';obtain ⟨u,rfl,h''⟩:=iM h'';exact a7J g x y u h h' h'' z z'
def b8K (h:cB g a=true) (h':cB g b=true) (h'':cB g c=true) (z:ltT b a=false) (z':ltT c b=false):ltT c a=false:=by
 cases e:ltT c a with
 | false=>rfl
 | true=>
  rcases a1p h h' with q | q | q
  ·rw [a4R h'' h h' e q] at z';cases z'
  ·subst q;rw [e] at z';cases z'
  ·rw [q] at z;cases z
end
def a3d (x:j0):List j0->List j0
 | []=>[x]
 | y::l=>if ltT y x then y::a3d x l else x::y::l
def a1F (l:T0l):List j0:=l.foldr a3d []
theorem a0f (x:j0):∀ l:List j0,(a3d x l).Perm (x::l)
 | []=>.refl _
 | y::l=>by
  unfold a3d;split
  ·exact ((a0f x l).cons y).trans (.swap x y l)
  ·exact .refl _
theorem yN:∀ l:List j0,(a1F l).Perm l
 | []=>.refl _
 | x::l=>(a0f x _).trans ((yN l).cons x)
abbrev a0x (l:T0l):Prop:=l.Pairwise λa b=>ltT b a=false
theorem a0P {g:List Bool} {x:j0} (hx:cB g x=true):∀ l:List j0,(∀ d∈l,cB g d=true)->a0x l->a0x (a3d x l)
 | [],_,_=>by simp [a3d]
 | y::l,h,hp=>by
  have hp':=jL.mp hp;have hy:=h y (by simp);unfold a3d;by_cases e:ltT y x=true
  ·rw [if_pos e,a0x,jL]
   refine ⟨λz hz=>?_,a0P hx l (λd hd=>h d (qF _ hd)) hp'.2⟩;rcases qG.mp ((a0f x l).mem_iff.mp hz) with rfl | hz
   ·cases q:ltT z y with
    | false=>rfl
    | true=>have:=a4R hx hy hx q e;rw [a4S hx] at this;cases this
   ·exact hp'.1 z hz
  ·rw [if_neg e,a0x,jL]
   have e':ltT y x=false:=by simpa using e
   refine ⟨λz hz=>?_,hp⟩;rcases qG.mp hz with rfl | hz
   ·exact e'
   ·exact b8K hx hy (h z (qF _ hz)) e' (hp'.1 z hz)
theorem rQ {g:List Bool}:∀ l:List j0,(∀ d∈l,cB g d=true)->a0x (a1F l)
 | [],_=>.nil
 | x::l,h=>a0P (h x (by simp)) _ (λd hd=>h d (qF _ ((yN l).mem_iff.mp hd))) (rQ l λd hd=>h d (qF _ hd))
theorem a5C {g:List Bool}:∀ (l m:T0l),l.Perm m->(∀ d∈l,cB g d=true)->a0x l->a0x m->l=m
 | [],m,hp,_,_,_=>by rw [List.nil_perm.mp hp]
 | x::l,[],hp,_,_,_=>by have:=hp.length_eq;simp at this
 | x::l,y::m,hp,h,h1,h2=>by
  have q1:=jL.mp h1;have q2:=jL.mp h2;have hy:y∈x::l:=hp.mem_iff.mpr (by simp);have hx:x∈y::m:=hp.mem_iff.mp (by simp);have e:x=y:=by
   rcases qG.mp hy with z | z
   ·exact z.symm
   ·rcases qG.mp hx with w | w
    ·exact w
    ·rcases a1p (h x (by simp)) (h y hy) with u | u | u
     ·rw [q2.1 x w] at u;cases u
     ·exact u
     ·rw [q1.1 y z] at u;cases u
  subst e;rw [a5C l m (List.Perm.cons_inv hp) (λd hd=>h d (qF _ hd)) q1.2 q2.2]
def a8y {l m:T0l} (hp:l.Perm m) (h:∀ d∈m,cB g d=true) (hs:a0x l):l=a1F m:=
 a5C (g:=g) l (a1F m) (hp.trans (yN m).symm) (λd hd=>h d (hp.mem_iff.mp hd)) hs (rQ m h)
def rk (ds:T0l) (i:Nat):Int:=((ds.filter λx=>ltT x (ds.getD i .none)).length:Nat)
theorem a4Z {α:Type} {p q:α->Bool}:∀ l:List α,(∀ x∈l,p x=true->q x=true)->(l.filter p).length<=(l.filter q).length
 | [],_=>by simp
 | x::l,h=>by
  have ih:=a4Z l λy hy=>h y (qF _ hy);cases e:p x with
  | false=>
   rw [qd (by simp [e])];cases e2:q x with
   | false=>rw [qd (by simp [e2])];exact ih
   | true=>rw [qZ e2,qV];omega
  | true=>rw [qZ e,qZ (h x (by simp) e),qV,qV];omega
theorem a9k {α:Type} {p q:α->Bool}:∀ l:List α,(∀ x∈l,p x=true->q x=true)->(∃ x∈l,p x=false/\q x=true)->(l.filter p).length<(l.filter q).length
 | [],_,⟨x,hx,_⟩=>by cases hx
 | x::l,h,⟨y,hy,h1,h2⟩=>by
  have ih:=a4Z l λy hy=>h y (qF _ hy);rcases qG.mp hy with rfl | hy
  ·rw [qd (by simp [h1]),qZ h2,qV];omega
  ·have ih2:=a9k l (λy hy=>h y (qF _ hy)) ⟨y,hy,h1,h2⟩
   cases e:p x with
   | false=>
    rw [qd (by simp [e])];cases e2:q x with
    | false=>rw [qd (by simp [e2])];exact ih2
    | true=>rw [qZ e2,qV];omega
   | true=>rw [qZ e,qZ (h x (by simp) e),qV,qV];omega
def b7g (h:∀ d∈ds,cB g d=true) (hi:i<ds.length) (hj:j<ds.length):ltT (ds.getD i .none) (ds.getD j .none)=ST.ltr (rk ds) i j:=by
 have mi:ds.getD i .none∈ds:=by rw [qk,qK hi];exact jy hi
 have mj:ds.getD j .none∈ds:=by rw [qk,qK hj];exact jy hj
 unfold ST.ltr rk;generalize ds.getD i j0.none=a at *;generalize ds.getD j j0.none=b at *;have ha:=h a mi;have hb:=h b mj;cases e:ltT a b with
 | true=>
  refine (decide_eq_true ?_).symm;have:=a9k (p:=λx=>ltT x a) (q:=λx=>ltT x b) ds (λx hx z=>a4R (h x hx) ha hb z e) ⟨a,mi,a4S ha,e⟩;omega
 | false=>
  refine (decide_eq_false ?_).symm
  have:=a4Z (p:=λx=>ltT x b) (q:=λx=>ltT x a) ds (λx hx z=>by
   rcases a1p ha hb with q | q | q
   ·rw [e] at q;cases q
   ·subst q;exact z
   ·exact a4R (h x hx) hb ha z q)
  omega
def a1S (h:∀ d∈ds,cB g d=true) {p:Array Nat} (P:ST.Pm ds.length p) (U:ST.Up (rk ds) p ds.length):(p.toList.map λi=>ds.getD i .none)=a1F ds:=by
 have hl:p.toList.length=ds.length:=by rw [qP];exact P.size
 have hr:(qm ds.length).map (λi=>ds.getD i .none)=ds:=by
  refine List.ext_getElem (by simp) λi h1 h2=>?_;simp [qk,h2]
 have hp:(p.toList.map λi=>ds.getD i .none).Perm ds:=by
  have:=(zz.mp P.perm).map λi=>ds.getD i j0.none;simp only [zt] at this;rw [hr] at this;exact this
 refine a8y hp h ?_;unfold a0x;rw [kD,kP];intro i j hi hj hij;have hi':i<p.size:=by simpa using hi
 have hj':j<p.size:=by simpa using hj
 have u:=U i j (jF hij) (by rw [P.size] at hj';exact hj');unfold ST.vl at u;have ei:p.toList[i]=p.getD i 0:=by simp [zp,hi']
 have ej:p.toList[j]=p.getD j 0:=by simp [zp,hj']
 rw [ei,ej];by_cases hn:0<ds.length
 ·rw [b7g h (P.lt hn j) (P.lt hn i)]
  exact decide_eq_false (by omega)
 ·rw [P.size] at hi';omega
end L2.L3
namespace L2.L3
open PySem PySem.W PyProof.Rows PySem.Calls
variable {Q:Bool->Shared->Prop} {k:Bool}
def a8N (b:Bool) (m n:Int) (t u:Tok) (h:Q (decide (m<n)) s):wpAny (model prog w) A (oneLt' b (.int m t) (.int n u)) Q E s:=by
 cases b with
 | true=>exact oneLt_int h
 | false=>exact kat_one _ _ (lt_int h)
def b5E (b:Bool) (m n:Str) (t u:Tok) (h:Q (decide (m.cps.toList<n.cps.toList)) s):wpAny (model prog w) A (oneLt' b (.str m t) (.str n u)) Q E s:=by
 cases b with
 | true=>exact oneLt_str h
 | false=>exact kat_one _ _ (lt_str h)
theorem a2G {Q:Bool->Shared->Prop}:∀ (g:List Bool) (xs ys:T0m) (ds es:T0l) (as bs:T0o) (i:Nat),u9 s.heap xs ds as->u9 s.heap ys es bs->eN g ds=true->eN g es=true->Q (ltR ds es) s ->
  KatLex prog w A true false Q (xs.zip ys) i s
 | [],xs,ys,ds,es,as,bs,i,r,r',h,h',q=>by
  have e1:=mL h;have e2:=mL h';subst e1;subst e2;cases r;cases r';exact kat_nil q
 | true::g,xs,ys,ds,es,as,bs,i,r,r',h,h',q=>by
  obtain ⟨m,r1,rfl,h⟩:=sig_int h;obtain ⟨n,r2,rfl,h'⟩:=sig_int h';cases r with | cons v rr=>
  cases r' with | cons v' rr'=>
  cases v;cases v';refine kat_cons (SeqAt.EqAt.int_int _ _ _ _ _ _ _ _ ?_);by_cases e:m=n
  ·subst e
   rw [beq_self_eq_true];refine kat_yes (a2G g _ _ _ _ _ _ _ rr rr' h h' ?_);simpa [ltR,eqC] using q
  ·rw [beq_eq_false_iff_ne.mpr e]
   refine kat_no (a8N _ _ _ _ _ ?_);simpa [ltR,eqC,e,ltC] using q
 | false::g,xs,ys,ds,es,as,bs,i,r,r',h,h',q=>by
  obtain ⟨m,r1,rfl,h⟩:=sig_str h;obtain ⟨n,r2,rfl,h'⟩:=sig_str h';cases r with | cons v rr=>
  cases r' with | cons v' rr'=>
  cases v;cases v';refine kat_cons (SeqAt.EqAt.str_str _ _ _ _ _ _ _ _ ?_);by_cases e:m=n
  ·subst e
   rw [beq_self_eq_true];refine kat_yes (a2G g _ _ _ _ _ _ _ rr rr' h h' ?_);simpa [ltR,eqC] using q
  ·rw [beq_eq_false_iff_ne.mpr e]
   refine kat_no (b5E _ _ _ _ _ ?_);have:ltR (.str m::r1) (.str n::r2)=decide (m.cps.toList<n.cps.toList):=by
    simp [ltR,eqC,e,ltC,cO]
   rw [<-this];exact q
def b7T {v:Value} {e:j0} {as bs:T0o} (r:Reads s.heap v d as) (r':Reads s.heap u e bs) (h:cB g d=true) (h':cB g e=true) (q:Q (ltT d e) s):
  wpAny (model prog w) A (keyLt' (tuples' true) v u) Q E s:=by
 obtain ⟨x,rfl,h⟩:=iM h;obtain ⟨y,rfl,h'⟩:=iM h';cases r with
 | tuple hg hc hd rr=>
  cases r' with
  | tuple hg' hc' hd' rr'=>
   refine kat_lt hg hd hg' hd' ?_;have sz:∀ (g:List Bool) (x y:T0l),eN g x=true->eN g y=true->x.length=y.length:=by
    intro g
    induction g with
    | nil=>intro x y h h';rw [mL h,mL h']
    | cons b g ih=>
     intro x y h h';cases b with
     | true=>obtain ⟨_,_,rfl,h⟩:=sig_int h;obtain ⟨_,_,rfl,h'⟩:=sig_int h';simp [ih _ _ h h']
     | false=>obtain ⟨_,_,rfl,h⟩:=sig_str h;obtain ⟨_,_,rfl,h'⟩:=sig_str h';simp [ih _ _ h h']
   have ln:∀ {vs:T0m} {ds:T0l} {as:T0o},u9 s.heap vs ds as->vs.length=ds.length:=by
    intro vs
    induction vs with
    | nil=>intro ds as r;cases r;rfl
    | cons v vs ih=>intro ds as r;cases r with | cons _ r=>simp [ih r]
   have e1:=ln rr;have e2:=ln rr';have e3:=sz _ _ _ h h';rw [decide_eq_false (by rw [<-qP,<-qP];omega)];exact a2G g _ _ _ _ _ _ 0 rr rr' h h' q
inductive Rows (h:Heap):List Value->List j0->Prop
 | nil:Rows h [] []
 | cons {v:Value} {vs:T0m} {d:j0} {ds:T0l} {as:T0o}:Reads h v d as->Rows h vs ds->Rows h (v::vs) (d::ds)
theorem Rows.len {h:Heap} (r:Rows h vs ds):vs.length=ds.length:=by
 induction r with
 | nil=>rfl
 | cons _ _ ih=>simp [ih]
theorem Rows.at {h:Heap} {vs:T0m} {ds:T0l} (r:Rows h vs ds):∀ i,i<vs.length->∃ as,Reads h (vs.getD i .none) (ds.getD i .none) as:=by
 induction r with
 | nil=>intro i hi;simp at hi
 | cons r _ ih=>
  intro i hi;cases i with
  | zero=>exact ⟨_,r⟩
  | succ i=>exact ih i (by simpa using hi)
def Rows.firsts {h:Heap} {k:Bool} (r:Rows h vs ds) (hs:∀ d∈ds,cB (k::g) d=true):
  ∃ fs:List Value,KatTups h vs fs/\fs.length=vs.length/\∀ v∈fs,(k=true/\∃ i t,v=.int i t)\/(k=false/\∃ i t,v=.str i t):=by
 induction r with
 | nil=>exact ⟨[],.nil,rfl,λv hv=>by cases hv⟩
 | @cons v vs d ds as r _ ih=>
  obtain ⟨fs,t,l,a⟩:=ih λd hd=>hs d (qF _ hd);obtain ⟨x,rfl,hx⟩:=iM (hs d (by simp));cases r with
  | tuple hg hc hd rr=>
   cases k with
   | true=>
    obtain ⟨i,y,rfl,hy⟩:=sig_int hx;generalize hv:wW _=vl at rr;cases rr with | cons z rr=>
    cases z with | int _ tk=>
    refine ⟨.int i tk::fs,KatTups.cons hg hc hd (by rw [<-ju,hv];rfl) t,by simp [l],λv hv=>?_⟩
    ·rcases qG.mp hv with rfl | hv
     ·exact .inl ⟨rfl,_,_,rfl⟩
     ·exact a v hv
   | false=>
    obtain ⟨i,y,rfl,hy⟩:=sig_str hx;generalize hv:wW _=vl at rr;cases rr with | cons z rr=>
    cases z with | str _ tk=>
    refine ⟨.str i tk::fs,KatTups.cons hg hc hd (by rw [<-ju,hv];rfl) t,by simp [l],λv hv=>?_⟩
    ·rcases qG.mp hv with rfl | hv
     ·exact .inr ⟨rfl,_,_,rfl⟩
     ·exact a v hv
def a9X {k:Bool} (r:Rows s.heap vs ds) (hs:∀ d∈ds,cB (k::g) d=true) (hne:0<vs.length) {Q:SortKind->Shared->Prop} (h:Q (tuples' true) s):
  wpAny (model prog w) A (keyKind' vs.toArray) Q E s:=by
 obtain ⟨fs,t,l,a⟩:=r.firsts hs;cases k with
 | true=>
  refine kat_kind (T:=.type "int") t (by omega) (λv hv=>?_) (by decide) h;rcases a v hv with ⟨_,i,t,rfl⟩ | ⟨z,_⟩
  ·exact Looks.of_pure rfl
  ·cases z
 | false=>
  refine kat_kind (T:=.type "str") t (by omega) (λv hv=>?_) (by decide) h;rcases a v hv with ⟨z,_⟩ | ⟨_,i,t,rfl⟩
  ·cases z
  ·exact Looks.of_pure rfl
def a3g {o:Obj} {Q:List Value->Shared->Prop} (hT:T = "list" \/ T = "tuple") (ho:s.heap.get? l=some o) (hc:o.cls=.type T) (hd:o.data=.seq vs.toArray n) (few:vs.length<=j5)
  (hQ:∀ h',(∀ b o,s.heap.get? b=some o->h'.get? b=some o)->s.heap.objs.size<=h'.objs.size->Q vs { s with heap:=h' }):wpAny (model prog w) A (collect (.ref l)) Q E s:=by
 unfold collect;refine q8 (wpAny_runValue (k9 F.entry_proto_collect ?_));rw [qy F.plain_proto_collect _];show wpAny _ A.in1 (newList []>>=λl'=>again (.builtin "list.__iadd__" ⟨[l',.ref l],[]⟩)) _ _ s;refine q8 (j8 ?_);refine j3 ⟨wx vi _,k9 F.entry_list_iadd ?_⟩;rw [qy vi _];have hS1:(s.heap.push { cls:=.type "list", data:=.seq ([]:T0m).toArray }).get? s.heap.objs.size=some { cls:=.type "list", data:=.seq ([]:T0m).toArray }:=qH _ rfl;have ty1:zG { s with heap:=s.heap.push { cls:=.type "list", data:=.seq ([]:T0m).toArray } } (.ref l) T:=⟨o,qD _ ho,hc⟩;show wpAny _ A.in1 (zB (.ref s.heap.objs.size) (.ref l) (.ref s.heap.objs.size)) _ _ _;unfold zB;refine q8 (yv ty1 ?_);rw [if_pos (by rcases hT with rfl | rfl<;>simp)];refine q8 (QS (qD _ ho) hd ?_);refine q8 (QS hS1 rfl ?_);rw [if_neg (by simp)];refine q8 (ux hS1 rfl ?_ (jB _) (by rw [Array.size_append,qR,qR,zu];omega));have hS2z:=kA (kC (·++vs.toArray)) hS1 rfl;refine j3 ?_;show wpAny _ A (load s.heap.objs.size>>=_) _ _ _;refine q8 (wpAny_load hS2z (j3 ?_));have e:(([]:T0m).toArray++vs.toArray).toList=vs:=by simp
 show Q (([]:T0m).toArray++vs.toArray).toList _;rw [e];refine hQ _ (λb o' hb=>?_) (by rw [Heap.size_update,size_push'];omega);rw [Heap.get?_update_ne _ _ _ _ (qW (qM hb))];exact qD _ hb
end L2.L3
namespace L2.L3
open PySem PySem.W PyProof.Rows
def b1M:List j0->Option (List Bool)
 | []=>some []
 | .int _::r=>(b1M r).map (true::·)
 | .str _::r=>(b1M r).map (false::·)
 | _=>none
def b4P:j0->Option (List Bool)
 | .tuple a=>b1M a
 | _=>none
theorem a5T:∀ (g:List Bool) (a:T0l),eN g a=true->noDcs a=true
 | _,[],_=>by simp [noDcs]
 | [],_::_,h=>by simp [eN] at h
 | b::g,x::a,h=>by
  rw [noDcs,qJ];cases b<;>cases x<;>first | (simp [eN] at h;done) | exact ⟨by simp [rK],a5T g a (by simpa [eN] using h)⟩
theorem a8C {g:List Bool}:∀ {ds:T0l},(∀ d∈ds,cB g d=true)->noDcs ds=true
 | [],_=>by simp [noDcs]
 | d::ds,h=>by
  rw [noDcs,qJ];obtain ⟨a,rfl,ha⟩:=iM (h d (by simp));exact ⟨by rw [rK];exact a5T g a ha,a8C λx hx=>h x (qF _ hx)⟩
section
variable {σ:List (Option V)}
theorem a4C (I:Inv X pz σ H s):∀ {xs:List V} {ds:T0l} {us:T0m},RepAll X.K H xs ds->noDcs ds=true->bB xs us->Rows s.heap us ds
 | _,_,_,.nil,_,.nil=>.nil
 | _,_,_,.cons r rr,hc,.cons t tt=>by
  rw [noDcs,qJ] at hc;obtain ⟨as,ra⟩:=r.reads I hc.1 t;exact .cons ra (a4C I rr hc.2 tt)
theorem RepAll.at {K:qC} {G:Hp}:∀ {vs:List V} {ds:T0l},RepAll K G vs ds->∀ i,i<vs.length->Rep K G (vs.getD i .non) (ds.getD i .none)
 | _,_,.nil,i,h=>by simp at h
 | _,_,.cons r rr,0,_=>r
 | _,_,.cons r rr,i+1,h=>RepAll.at rr i (by simpa using h)
theorem RepAll.len {K:qC} {G:Hp}:∀ {vs:List V} {ds:T0l},RepAll K G vs ds->vs.length=ds.length
 | _,_,.nil=>rfl
 | _,_,.cons _ rr=>by simp [RepAll.len rr]
theorem RepAll.pick {K:qC} {G:Hp} {vs:List V} {ds:T0l} (r:RepAll K G vs ds):∀ p:List Nat,(∀ i∈p,i<vs.length)->RepAll K G (p.map λi=>vs.getD i .non) (p.map λi=>ds.getD i .none)
 | [],_=>.nil
 | i::p,h=>.cons (r.at i (h i (by simp))) (RepAll.pick r p λj hj=>h j (qF _ hj))
theorem bB.at':∀ {vs:List V} {us:T0m},bB vs us->∀ i,i<vs.length->RelV (vs.getD i .non) (us.getD i .none)
 | _,_,.nil,i,h=>by simp at h
 | _,_,.cons r rr,0,_=>r
 | _,_,.cons r rr,i+1,h=>bB.at' rr i (by simpa using h)
theorem bB.pick {vs:List V} {us:T0m} (r:bB vs us):∀ p:List Nat,(∀ i∈p,i<vs.length)->bB (p.map λi=>vs.getD i .non) (p.map λi=>us.getD i .none)
 | [],_=>.nil
 | i::p,h=>.cons (bB.at' r i (h i (by simp))) (bB.pick r p λj hj=>h j (qF _ hj))
def a3p (I:Inv X pz σ H s) {p:Addr} {vs:List V} (h:SqL X.K H p vs\/SqT X.K H p vs):∃ (its:T0m) (T:String) (o:Obj) (n:Nat),(T = "list" \/ T = "tuple")/\s.heap.get? p=some o/\o.cls=.type T/\o.data=.seq its.toArray n/\bB vs its:=by
 rcases h with h | h
 ·obtain ⟨its,rv,pl,hz⟩:=I.list h
  obtain ⟨o,ho,hc,n,hd⟩:=pl.isList;exact ⟨its, "list", o,n,.inl rfl,ho,hc,hd,rv⟩
 ·obtain ⟨its,rv,⟨o,ho,hc,n,hd⟩,hz⟩:=I.tuple h
  exact ⟨its, "tuple", o,n,.inr rfl,ho,hc,hd,rv⟩
end
end L2.L3
namespace L2.L3
open PySem PySem.Spec PySem.Calls PyProof.Rows
abbrev c0R (qual:Str) (params:Arguments) (body:Expr) (scope:Scope) (pm:Value) (c:Addr) (ct:Value):Obj:=zq "<lambda>" qual params body scope [] pm c ct
variable {c:Addr} {body:Expr}
section
variable {K:qC}
def b2T {x:Str} {outer:List Env} 
  (hr:Room (k+1) A) (e0:Env0 P w K mg base A outer s H) (ho:s.heap.get? f=some (c0R qual params body scope pm c ct)) (hcd:s.heap.CodeRec (.ref c) qual) (S:FnScope [x] [x] scope)
  (hb:ug (vF "<lambda>" qual params body scope [] pm (.ref c) ct) ⟨[u],[]⟩=pure [(x,u)])
  (hbody:DE (fcx P w K mg base [x] qual scope f (.ref c) A outer s H E0) body fe)
  (sm:bG G H/\nO K G H) (rep:Rep K G v d) (rel:RelV v u) (hf:fe [.val d]=some (.ok kd)):
  yo (model P w) A (.call (.ref f) ⟨[u],[]⟩) (CR CX0 outer P w H s (λv' H'=>∃ G',Grow G H G' H'/\Rep K G' v' kd) E0) s:=by
 have lim:s.heap.NoLimit:=e0.mod.nolimit.keeps λb o e=>(e0.bs b o e).1;refine PySem.W.kla_callFunE hr.depth ho rfl S.co S.gen rfl hcd ?_;rw [hb];have hkind:∀ y∈[(x,u)],scope.names.lookup y.1=some .local\/(scope.names.lookup y.1=some .cell/\((k8 (s.heap.objs.size+1) scope.names []).lookup y.1).isSome=true):=λy hy=>by
  obtain rfl:=qL.mp hy;rcases S.par x (by simp) with q | q
  ·exact .inl q
  ·exact .inr ⟨q,vZ _ _ _ (.inl q)⟩
 refine j3 (wpAny_newFunctionEnv_cells S.kind hkind λenv he s1 xx=>?_);subst he;refine ⟨lim.keeps xx.toInCall.keep,PySem.W.kla_codeExpr ?_⟩;have I:Inv (fcx P w K mg base [x] qual scope f (.ref c) A outer s H E0) [] (start [x] [v]) H s1:=(a3U (CX:=CX0) (E:=E0) (us:=[u]) S hr.hd e0 rfl (.cons rel .nil) xx).wish _;have R:RepS K H G G H (start [x] [v]) [.val d]:=gB (N:=[x]) (ds:=[d]) sm (.cons rep .nil);refine wz (hbody.run [] s1 _ H (λv' H'=>∃ G',Grow G H G' H'/\Rep K G' v' kd) I ⟨_,_,H,G,G,hf,R,λv' G' H' g rv=>⟨G',g,rv⟩⟩) (λu' s' hs=>?_) λe s' hs=>hs.elim;obtain ⟨v',H',J,rv,q⟩:=hs;exact ⟨v',H',J.os,J.bare,J.base,J.hok,rv,q⟩
end
structure BM (mg:T0d) (base:Heap):Prop where
 ex:∃ bm ob,mg "__builtins__" = some (.ref bm)/\bm≠uu/\bm≠j6/\base.get? bm=some ob/\ob.cls=.type "module" /\ ob.dict=some uu/\ob.data=.plain
def a1w (i j:Int) (t u:Tok) (v:Value):∀ (n:Nat) (l:T0m),l.length<=n->u8 l->u8 (l++[.int i t,.int j u,v]):=by
 intro n
 induction n with
 | zero=>
  intro l hl _;cases l with
  | nil=>trivial
  | cons a l=>cases hl
 | succ n ih=>
  intro l hl h;unfold u8 at h;split at h
  ·trivial
  ·rename_i rest
   have hr:rest.length<=n:=by simp only [qV] at hl;omega
   exact ih rest hr h
  ·cases h
def a4s (l:T0m) (i j:Int) (t u:Tok) (v:Value) (h:u8 l):u8 (l++[.int i t,.int j u,v]):=a1w i j t u v l.length l (qN _) h
theorem a2N {p:Pos} {c cv:Value} (i j:Int) (t u:Tok):∀ (l:T0m),u8 l->QK p (l++[.int i t,.int j u,c])=some cv->QK p l=some cv\/cv=c
 | [],_,h=>by
  have h:(if (i==(p.line:Int)&&j==(p.col:Int))=true then some c else none)=some cv:=h;split at h
  ·exact .inr (qB h).symm
  ·cases h
 | .int a _::.int b _::d::r,ht,h=>by
  have h:(if (a==(p.line:Int)&&b==(p.col:Int))=true then some d else QK p (r++[.int i t,.int j u,c]))=some cv:=h;show (if (a==(p.line:Int)&&b==(p.col:Int))=true then some d else QK p r)=some cv\/_;split at h
  ·rename_i hc;rw [if_pos hc];exact .inl h
  ·rename_i hc;rw [if_neg hc];exact a2N i j t u r ht h
def a6k {x:Str} {cl:T0f} {P:Addr} (hx:x∈fH) (ht:jb X.K x=some (c,P)) (hc:X.env.code=.ref c)
  (hq:X.env.qual ++ "<lambda>" = lamQ x) (C:kK X.K c P=true) (M:BM X.mg X.base) (hdef:defaultsOf params X.env=([],[])) (hcl:closureFor scope X.env=pure cl) (I:Inv X pz σ H s) (R:RepS X.K H0 Gz G H σ ρ)
  (h:∀ f c' ct pm H' s',Inv X pz σ H' s'->Grow G H G H'->s'.heap.get? f=some (zq "<lambda>" (lamQ x) params body scope cl pm c' ct)->H' f=none->s.heap.objs.size<=f->H' c'=some (cdO c' (lamQ x))->Q (.ref f) s'):
  wpAny (model X.prog X.w) X.A (eval (.Lambda params body scope pos) X.env) Q E s:=by
 refine PySem.W.kla_eval hdef ?_;rw [hq];have hTab:=R.tab.1 x hx c P ht;generalize lamQ x=q at hTab h ⊢;obtain ⟨ps,hP,hT,hA⟩:=hTab;have hPo:s.heap.get? P=some (vp ps):=I.hok P _ hP;have C0:PySem.W.CodeHd s.heap c P:=PySem.W.codeHd_of_K I.kIn C;have hg:s.heap.Ns j6 X.mg:=I.mod.glob.keeps I.bk;have hgP:j6≠P:=λz=>by
  obtain ⟨o,es,ep,e,hd,_⟩:=hg;rw [z,hPo] at e;cases e;cases hd
 have hB:s.heap.BuiltinsAt X.mg P:=by
  obtain ⟨bm,ob,b1,b2,b3,b4,b5,b6,b7⟩:=M.ex;refine ⟨bm,ob,b1,b2,b3,λz=>?_,I.bk _ _ b4,b5,b6,b7⟩;have e:=I.bk _ _ b4;rw [z,hPo] at e;cases e;cases b5
 cases hm:QK pos ps.toList with
 | some cv=>
  obtain ⟨c',rfl,hc'⟩:=hA pos cv hm;refine PySem.W.kla_makeFunctionHit hcl I.ok.glob hg hc C0 hPo hT hm hB λct h' tk kp sz=>?_;exact h _ c' ct _ H _ (I.kept λb o e=>qD _ (kp b o e)) (.refl R.sub) (qH _ rfl) (I.hok.fresh sz) sz hc'
 | none=>
  refine PySem.W.kla_makeFunction hcl I.ok.glob hg hc C0 hPo hT hm hgP hB λc' ct h' tk ex ge lt rc tb=>?_;have hf:H c'=none:=I.hok.fresh ge;have cP:c'≠P:=λz=>by rw [z,hP] at hf;cases hf
  have lP:P≠X.env.locals:=λz=>by have:=I.free;rw [<-z,hP] at this;cases this
  -- the heap beside the table
  have kp:∀ b o,b≠P->s.heap.get? b=some o->(h'.push (zq "<lambda>" q params body scope cl ((X.mg "__name__").getD .none) c' ct)).get? b=some o:=λb o n e=>qD _ (ex b o n e);have hsz:s.heap.objs.size<=h'.objs.size:=qi ge (jF lt);have H1:∀ b,b≠P->b≠c'->upd (upd H P (.tbl (q,ps++#[v7 pos.line,v7 pos.col,.ref c']))) c' (cdO c' (q)) b=H b:=λb n1 n2=>by rw [aE n2,aE n1]
  have HP:upd (upd H P (.tbl (q,ps++#[v7 pos.line,v7 pos.col,.ref c']))) c' (cdO c' (q)) P=some (.tbl (q,ps++#[v7 pos.line,v7 pos.col,.ref c'])):=by rw [aE (jJ cP),aG]
  have nb:∀ b o,s.heap.get? b=some o->b≠c':=λb o e=>qW (qX (qM e) ge);have nH:∀ b o,H b=some o->b≠c':=λb o e z=>by rw [z,hf] at e;cases e
  have nP:∀ b,H b=none->b≠P:=λb e z=>by rw [z,hP] at e;cases e
  have hsm:Sm H (upd (upd H P (.tbl (q,ps++#[v7 pos.line,v7 pos.col,.ref c']))) c' (cdO c' (q))):=by
   refine ⟨λb o e n=>?_,λb p e=>?_,λP' q' t=>?_⟩
   ·rw [H1 b (λz=>by rw [z,hP] at e;cases e;exact n _ rfl) (nH b o e)];exact e
   ·by_cases z:b=P
    ·rw [z];exact ⟨_,HP⟩
    ·exact ⟨p,by rw [H1 b z (nH b _ e)];exact e⟩
   ·obtain ⟨ps',g1,g2,g3⟩:=t
    have old:∀ d o,H d=some (cdO d o)->upd (upd H P (.tbl (q,ps++#[v7 pos.line,v7 pos.col,.ref c']))) c' (cdO c' (q)) d=some (cdO d o):=λd o e=>by
     rw [H1 d (λz=>by rw [z,hP] at e;unfold cdO at e;cases e) (nH d _ e)];exact e
    by_cases z:P'=P
    ·subst z
     rw [hP] at g1;cases g1;refine ⟨_,HP,?_,λp cv e=>?_⟩
     ·rw [Array.toList_append];exact a4s _ _ _ _ _ _ g2
     ·rw [Array.toList_append] at e
      rcases a2N _ _ _ _ _ g2 e with e | rfl
      ·obtain ⟨d,e1,e2⟩:=g3 p cv e
       exact ⟨d,e1,old d _ e2⟩
      ·exact ⟨c',rfl,aG⟩
    ·refine ⟨ps',by rw [H1 P' z (nH P' _ g1)];exact g1,g2,λp cv e=>?_⟩
     obtain ⟨d,e1,e2⟩:=g3 p cv e;exact ⟨d,e1,old d _ e2⟩
  have gw:Grow G H G (upd (upd H P (.tbl (q,ps++#[v7 pos.line,v7 pos.col,.ref c']))) c' (cdO c' (q))):=by
   refine ⟨.refl _,hsm,λb o e=>?_,λ_ e _=>e,id⟩;rw [H1 b (λz=>by have:=R.sub b o e;rw [z,hP] at this;cases this;exact R.tab.2 _ _ e) (nH b o (R.sub b o e))];exact R.sub b o e
  refine h h'.objs.size c' ct _ _ _ (I.step (ch:=[]) (g':=s.gens) (d':=s.drawn) (t':=tk) (h':=h'.push (zq "<lambda>" q params body scope cl ((X.mg "__name__").getD .none) c' ct)) (λ_ z=>nomatch z) (λb o _ _ _ e n=>kp b o (nP b n) e) (λb o _ _ _ e n=>⟨o.slots,kp b o (nP b n) e⟩)
   (λb o _ e n=>by rw [H1 b (nP b n) (nb b o e)];exact n) (λb o _ e=>?_) (λb xs e=>by rw [H1 b (cM e hP (by nofun)) (nH b _ e)];exact e) (λb o u e=>by rw [H1 b (cM e hP (by nofun)) (nH b _ e)];exact e) (λb p e=>?_) (λm hn=>(hn.extBut ex (jJ lP)).push _) (λb u e=>?_) I.bare) gw (qH _ rfl) ?_ hsz aG
  ·by_cases z:b=P
   ·rw [z];exact ⟨_,qD _ tb⟩
   ·exact ⟨o,kp b o z e⟩
  ·by_cases z:b=P
   ·subst z
    rw [hP] at e;cases e;exact ⟨#[v7 pos.line,v7 pos.col,.ref c'],HP⟩
   ·exact ⟨#[],by rw [H1 b z (nH b _ e),e];simp⟩
  ·by_cases z:b=c'
   ·subst z
    rw [aG] at e;cases e;obtain ⟨c2,o2,vs,t,e1,e2,e3,e4⟩:=rc;cases e1;exact ⟨⟨_,o2,vs,t,rfl,qD _ e2,e3,e4⟩,⟨o2,qD _ e2⟩,λh1 h2 ⟨c3,o3,vs3,t3,g1,g2,g3,g4⟩ k=>by cases g1;exact ⟨_,o3,vs3,t3,rfl,k _ g2,g3,g4⟩⟩
   ·by_cases z2:b=P
    ·subst z2
     rw [HP] at e;cases e;exact qD _ tb
    ·rw [H1 b z2 z] at e
     refine (I.hok b u e).stay (λb' u' hb' e'=>kp b' u' (λy=>?_) e') (λb' e'=>by rw [H1 b' (cM e' hP (by nofun)) (nH b' _ e')];exact e') λb' xs e'=>by rw [H1 b' (cM e' hP (by nofun)) (nH b' _ e')];exact e'
     rcases hb' with y' | y'
     ·exact z2 (y'.symm.trans y)
     ·rw [y,hP] at y';cases y'
  ·have:=jW lt
   rw [H1 _ (λz=>absurd (qM hPo) (by rw [<-z];exact zi hsz)) this];exact I.hok.fresh hsz
end L2.L3
namespace L2.L3
open PySem PySem.W PyProof.Rows PySem.Calls
variable {kds:List j0} {k:Bool}
theorem a6o {kS a:Addr} {oa:Obj} {vs:T0m} {J:List Value->Shared->Prop} {body:Value->PUnit->Sem (ForInStep PUnit)} (h64:vs.length<64)
  (hb:∀ x ks e (s:Shared),ks.length<64->vs[ks.length]?=some x->s.heap.get? kS=some (ya "list" (zZ ks) e)->s.heap.get? a=some oa->J ks s ->
   wpAny (model prog w) A (body x ⟨⟩) (λr s'=>r=.yield ⟨⟩/\∃ k c,s'.heap.get? kS=some (ya "list" (zZ (ks++[k])) c)/\s'.heap.get? a=some oa/\J (ks++[k]) s') E s) :
  ∀ (r ks:T0m) (e:Nat) (s:Shared),vs=(vs.take ks.length)++r->ks.length+r.length=vs.length->s.heap.get? kS=some (ya "list" (zZ ks) e)->s.heap.get? a=some oa->J ks s ->
   wpAny (model prog w) A (forIn r PUnit.unit body) (λ_ s'=>∃ ks e,s'.heap.get? kS=some (ya "list" (zZ ks) e)/\s'.heap.get? a=some oa/\ks.length=vs.length/\J ks s') E s
 | [],ks,e,s,hv,hl,hk,ha,hJ=>by
  rw [List.forIn_nil];exact j3 ⟨ks,e,hk,ha,by simpa using hl,hJ⟩
 | x::r,ks,e,s,hv,hl,hk,ha,hJ=>by
  rw [qV] at hl;rw [zx];have hx:vs[ks.length]?=some x:=by
   rw [hv,jU (by rw [jQ];omega),jQ];rw [show ks.length - min ks.length vs.length=0 by omega];rfl
  refine q8 (wz (hb x ks e s (by omega) hx hk ha hJ) (λq s' hq=>?_) λ_ _ x=>x);obtain ⟨rfl,k,c,hk',ha',h2⟩:=hq;show wpAny (model prog w) A (forIn r PUnit.unit body) _ E s';refine a6o h64 hb r (ks++[k]) c s' ?_ (by rw [qf,jg];omega) hk' ha' h2;rw [qf,jg];have e1:vs.take (ks.length+1)=vs.take ks.length++[x]:=by rw [vG,hx];rfl
  rw [e1,jh];exact hv
structure KeyS (prog:Program) (w:World) (A:Around) (s:Shared) (ks:T0m) (kds:T0l):Prop where
 kind:0<ks.length->∀ (E:T0a) (Q:SortKind->Shared->Prop),Q (tuples' true) s->wpAny (model prog w) A (keyKind' ks.toArray) Q E s
 lt:∀ (i j:Nat) (E:T0a) (Q:Bool->Shared->Prop),i<ks.length->j<ks.length->Q (ltT (kds.getD i .none) (kds.getD j .none)) s->wpAny (model prog w) A (keyLt' (tuples' true) (ks.getD i .none) (ks.getD j .none)) Q E s
theorem KeyS.of {ks:T0m} {k:Bool} (rd:Rows s.heap ks kds) (hs:∀ d∈kds,cB (k::g) d=true):KeyS prog w A s ks kds:=by
 have ln:=rd.len;refine ⟨λhn E Q q=>a9X rd hs hn q,λi j E Q hi hj q=>?_⟩;obtain ⟨as,ri⟩:=rd.at i hi;obtain ⟨bs,rj⟩:=rd.at j hj;have mi:kds.getD i .none∈kds:=by rw [qk,qK (by omega)];exact jy (by omega)
 have mj:kds.getD j .none∈kds:=by rw [qk,qK (by omega)];exact jy (by omega)
 exact b7T ri rj (hs _ mi) (hs _ mj) q
def a6n {kS:Addr} {f:Value} {e1:Nat} {k:Bool} {J:List Value->Shared->Prop} {P:PySem.Fin->Shared->Prop} (hka:kS≠a) (hk:s.heap.get? kS=some (ya "list" #[] 0)) (ha:s.heap.get? a=some (ya "list" #[] e1)) (h64:vs.length<64)
  (hs:∀ d∈kds,cB (k::g) d=true) (hlen:kds.length=vs.length) (hJ:J [] s)
  (mono:∀ ks s h',J ks s->(∀ b,b≠kS->h'.get? b=s.heap.get? b)->h'.objs.size=s.heap.objs.size->(∃ o,h'.get? kS=some o)->J ks { s with heap:=h' })
  (step:∀ ks s x,vs[ks.length]?=some x->J ks s->wpAny (model prog w) A (call f [x]) (λk s'=>J (ks++[k]) s'/\s'.heap.get? a=s.heap.get? a/\s'.heap.get? kS=s.heap.get? kS) (λ_ _=>False) s)
  (fin:∀ ks s,ks.length=vs.length->J ks s->KeyS prog w A s ks kds)
  (h:∀ (p:Array Nat) ks s' h',ST.Pm kds.length p->(p.toList.map λi=>kds.getD i .none)=a1F kds->J ks s'->(∀ b,b≠kS->b≠a->h'.get? b=s'.heap.get? b)->h'.objs.size=s'.heap.objs.size ->
   (∃ c,h'.get? a=some (ya "list" (p.toList.map λi=>vs.getD i .none).toArray c))->P (.done (.ret .none)) { s' with heap:=h' }):
  wpAny (model prog w) A (ksk_rest a f false vs.toArray e1 (.ref kS)) P E s:=by
 unfold ksk_rest;refine q8 (wp ?_)
 first
  | rw [List.forIn_toArray]
  | (rw [<-vE];simp only [zt])
  | rw [<-vE]
 refine q8 (wz (a6o (J:=J) (oa:=ya "list" #[] e1) (a:=a) (kS:=kS) h64 (λx ks e s' hz hx hk' ha' hj=>?_) vs [] 0 s (by simp) (by simp) hk ha hJ) (λ_ s' hd=>?_) λ_ _ x=>x)
 ·refine q8 (yg (wz (step ks s' x hx hj) (λkv s'' hq=>?_) λ_ _ hF=>hF.elim))
  obtain ⟨j2,a2,k2⟩:=hq;rw [hk'] at k2;rw [ha'] at a2;have s1:=jv s''.heap kS (kC (·.push kv));have ea:(zZ ks).push kv=zZ (ks++[kv]):=by simp
  obtain ⟨c2,hc2⟩:∃ c2,(s''.heap.update kS (kC (·.push kv))).get? kS=some (ya "list" (zZ (ks++[kv])) c2):=⟨_,by rw [<-ea];exact get?_update_seq k2 (·.push kv)⟩
  try dsimp only
  refine q8 (ux k2 rfl ?_ (by rw [qR,w5];omega) (qi (Nat.le_of_eq (Array.size_push ..)) (by rw [qR,w5];omega)));exact j3 ⟨rfl,kv,c2,hc2,(s1.2 a hka.symm).trans a2,mono _ _ _ j2 (λb hb=>s1.2 b hb) s1.1 ⟨_,hc2⟩⟩
 ·obtain ⟨ks,e,hk',ha',hl,hj⟩:=hd
  try dsimp only
  refine q8 (QS hk' rfl ?_);have rd:=fin ks s' hl hj
  -- the end: the keys' list is emptied,the list is filled
  have tail:∀ (st:SortSt) (p:Array Nat),(arrOf st).map (·.2)=(p.toList.map λi=>vs.getD i .none).toArray->failedOf st=none->ST.Pm kds.length p->(p.toList.map λi=>kds.getD i .none)=a1F kds ->
    wpAny (model prog w) A (ksk_tail a false e1 (.ref kS) st) P E s':=by
   intro st p hout hf hP hS;have s1:=jv s'.heap kS (kC λ_=>(#[]:Array Value));have na:(s'.heap.update kS (kC λ_=>(#[]:Array Value))).get? a=some (ya "list" #[] e1):=(s1.2 a hka.symm).trans ha';have s2:=jv (s'.heap.update kS (kC λ_=>(#[]:Array Value))) a (kC λ_=>(p.toList.map λi=>vs.getD i jR).toArray);unfold ksk_tail
   try dsimp only
   rw [hout];refine q8 (ux hk' rfl ?_ (by rw [qR,w5];omega) (jB _));refine q8 (ua ?_);refine q8 (seqEpoch_at na rfl ?_);refine q8 (ux na rfl ?_ (jB _) (by rw [if_neg (by decide),qR,qE,qP,hP.size,w5];omega));rw [hf];simp only [bne_self_eq_false,qt,if_false];refine j3 (h p ks s' _ hP hS hj (λb h1 h2=>(s2.2 b h2).trans (s1.2 b h1)) (s2.1.trans s1.1) ⟨_,get?_update_seq na λ_=>(p.toList.map λi=>vs.getD i jR).toArray⟩)
  unfold ksk_end
  try dsimp only
  simp only [qt,if_false];by_cases h2:vs.toArray.size<2
  ·rw [if_pos h2,if_pos h2]
   refine q8 (j3 ?_);rw [StateT.run_pure];refine q8 (j3 ?_);have hsz:vs.toArray.size=vs.length:=by simp
   have hpm:ST.Pm kds.length (qm vs.length).toArray:=by rw [hlen];exact ⟨by simp,Array.Perm.refl _⟩
   refine tail _ (qm vs.length).toArray ?_ rfl hpm (a1S hs hpm (λi j hij hj=>by rw [show i=j by omega];exact kG _));show (ks.toArray.zip vs.toArray).map (·.2)=_;apply Array.toList_inj.mp;have e:(qm vs.length).map (λi=>vs.getD i jR)=vs:=by
    refine List.ext_getElem (by simp) λi h1 h2=>?_;simp [qk,h2]
   simp only [zt,e,Array.toList_map,Array.toList_zip];rw [List.map_snd_zip (by omega)]
  ·rw [if_neg h2,if_neg h2]
   have hsz:vs.toArray.size=vs.length:=by simp
   refine q8 (rd.kind (by omega) _ _ ?_);have hq:=ST.h_sort (r:=rk kds) (n:=vs.length) (by omega)
   refine q8 (wz (kat_run (κ:=tuples' true) (ks:=ks) (vs:=vs) (s:=s') (G:=λp s2=>s2=s'/\ST.Pm vs.length p/\ST.Up (rk kds) p vs.length)
    (Q:=λst' s2=>∃ p:Array Nat,arrOf st'=p.map (kas_item (ks.toArray.zip vs.toArray))/\failedOf st'=none/\s2=s'/\ST.Pm vs.length p/\ST.Up (rk kds) p vs.length)
    hl (by omega) h64 (λp' st' s2 a1 a2 a3 a4=>⟨p',a2,a3,a4⟩)
    (ST.wp_run (n:=vs.length) (lt:=ST.ltr (rk kds)) (λi j C hi hj hC=>?_) _ hq.1 ⟨rfl,hq.2⟩)) ?_ λ_ _ e=>e)
   ·refine rd.lt i j _ _ (by omega) (by omega) ?_
    rw [b7g hs (by omega) (by omega)];exact hC
   ·rintro ⟨⟨⟩,st'⟩ s2 ⟨p,har,hf,rfl,hP,hU⟩
    dsimp only;rw [<-hlen] at hP hU;exact tail st' p (kat_snds hl har) hf hP (a1S hs hP hU)
def a1G {q:Addr} {o:Obj} (hT:T = "list" \/ T = "tuple") (ho:s.heap.get? l=some o) (hc:o.cls=.type T) (hd:o.data=.seq vs.toArray n) (h64:vs.length<64)
  (h:∀ (a kS:Addr) (e1:Nat) (h':Heap) (P:PySem.Fin->Shared->Prop) (E':T0a),(∀ s',Q (.ref a) s'->P (.done (.ret .none)) s')->s.heap.objs.size<=a->a<kS->(∀ b o,s.heap.get? b=some o->h'.get? b=some o) ->
   h'.get? kS=some (ya "list" #[] 0)->h'.get? a=some (ya "list" #[] e1)->wpAny (model prog w) A.in1.in1 (ksk_rest a (.ref q) false vs.toArray e1 (.ref kS)) P E' { s with heap:=h' }):
  wpAny (model prog w) A (call (.builtin "sorted") [.ref l] [(qx "key", .ref q)]) Q E s:=by
 refine call_function_entry_kw kind_sorted plain_sorted entry_sorted (ksk_s1 _ _) ?_;unfold Builtin.«sorted»;refine q8 (m:=checkCount "sorted" 1 1 _) (j3 ?_);refine q8 (a3g hT ho hc hd (by rw [w5];omega) λh1 kp up=>?_);refine q8 (wpAny_newList ?_ (by rw [w5];omega));have hoL:(h1.push (ya "list" vs.toArray 0)).get? h1.objs.size=some (ya "list" vs.toArray 0):=qH _ rfl;have keep:∀ b o,s.heap.get? b=some o->b≠h1.objs.size/\(h1.push (ya "list" vs.toArray 0)).get? b=some o:=λb o q=>⟨qW (qM (kp _ _ q)),qD _ (kp _ _ q)⟩;show wpAny _ _ _ _ _ { s with heap:=h1.push (ya "list" vs.toArray 0) };refine q8 (v8 (wpAny_call_entry_kw slot_list_sort ⟨_,hoL,rfl⟩ entry_list_sort ?body (ksk_l1 _ _)))
 case body=>
  show wpAny (model prog w) A.in1.in1 (Builtin.«list.sort» ⟨[.ref h1.objs.size],[(qx "key", .ref q)]⟩) _ _ _;rw [ksk_t1];unfold ksk_tree;obtain ⟨e1,ho1⟩:∃ e1,((h1.push (ya "list" vs.toArray 0)).update h1.objs.size (kC λ_=>(#[]:Array Value))).get? h1.objs.size=some (ya "list" #[] e1):=⟨_,get?_update_seq hoL λ_=>#[]⟩;refine q8 (QS hoL rfl ?_);refine q8 (ux hoL rfl ?_ (by rw [qR,w5];omega) (jB _));refine q8 (seqEpoch_at ho1 rfl ?_);refine q8 (wpAny_newTuple ?_ (by show vs.length<=_;rw [w5];omega));refine q8 (wpAny_newList ?_ (jB _));refine v8 ?_;refine h h1.objs.size (((h1.push (ya "list" vs.toArray 0)).update h1.objs.size (kC λ_=>(#[]:Array Value))).push (ya "tuple" vs.toArray 0)).objs.size e1 ((((h1.push (ya "list" vs.toArray 0)).update h1.objs.size (kC λ_=>(#[]:Array Value))).push (ya "tuple" vs.toArray 0)).push (ya "list" #[] 0)) _ _ (λs' hq=>⟨_,rfl,j3 ⟨_,rfl,hq⟩⟩) up ?_ (λb o e=>?_) (qH _ rfl) (qD _ (qD _ ho1))
  ·rw [size_push',Heap.size_update,size_push'];exact jm (kn _)
  ·obtain ⟨hb,hq⟩:=keep b o e
   refine qD _ (qD _ ?_);rw [Heap.get?_update_ne _ _ _ _ hb];exact hq
end L2.L3
namespace L2.L3
open PySem PySem.Spec PySem.Calls PyProof.Rows
def nZ (fe:EF):List j0->Option (List j0)
 | []=>some []
 | d::r=>match fe [.val d] with
  | some (.ok k)=>(nZ fe r).map (k::·)
  | _=>none
def keyOk (ks:T0l):Bool:=match ks with
 | []=>true
 | x::xs=>(match b4P x with
  | some (k::g)=>(x::xs).all (cB (k::g))
  | _=>false)
def ixK (k:j0) (ks:T0l):Nat:=ks.findIdx λk'=>!ltT k k'&&!ltT k' k
def a7m (ds ks:T0l):Option (List j0):=
 if (qm ks.length).all (λi=>ixK (ks.getD i .none) ks==i) then some ((a1F ks).map λk=>ds.getD (ixK k ks) .none) else none
def a1I (fe:EF) (ds:T0l):Option j0:=match nZ fe ds with
 | some ks=>if keyOk ks&&decide (ks.length<64) then (a7m ds ks).map .list else none
 | none=>none
def a4x (fa fe:EF):EF:=λρ=>match fa ρ with
 | some (.ok x)=>lft ((a1a x).bind (a1I fe))
 | _=>none
theorem a0c {fe:EF}:∀ {ds ks:T0l},nZ fe ds=some ks->ks.length=ds.length
 | [],ks,h=>by cases h;rfl
 | d::r,ks,h=>by
  unfold nZ at h;split at h
  ·obtain ⟨l,e1,rfl⟩:=qO.mp h
   simp [a0c e1]
  ·cases h
theorem a2j {fe:EF}:∀ {ds ks:T0l} {i:Nat} {d:j0},nZ fe ds=some ks->ds[i]?=some d->∃ k,ks[i]?=some k/\fe [.val d]=some (.ok k)
 | [],ks,i,d,h,e=>by simp at e
 | d'::r,ks,i,d,h,e=>by
  unfold nZ at h;split at h
  ·rename_i k ek
   obtain ⟨l,e1,rfl⟩:=qO.mp h;cases i with
   | zero=>simp at e;subst e;exact ⟨k,rfl,ek⟩
   | succ i=>
    have e':r[i]?=some d:=by simpa using e
    exact a2j (ks:=l) e1 e'
  ·cases h
def b0q (h:keyOk ks=true):∃ k g,∀ d∈ks,cB (k::g) d=true:=by
 unfold keyOk at h;split at h
 ·exact ⟨true,[],λd hd=>by cases hd⟩
 ·split at h
  ·rename_i k g _;exact ⟨k,g,λd hd=>qe.mp h d hd⟩
  ·cases h
def a3l {out:T0l} {p:List Nat} (h:a7m ds ks=some out) (hp:∀ i∈p,i<ks.length) (e:(p.map λi=>ks.getD i .none)=a1F ks):out=p.map λi=>ds.getD i .none:=by
 unfold a7m at h;split at h
 ·rename_i hc
  cases (qB h);rw [<-e,qT];refine vz λi hi=>?_;have:=qe.mp hc i (jp.mpr (hp i hi));show ds.getD (ixK (ks.getD i .none) ks) .none=_;rw [beq_iff_eq.mp this]
 ·cases h
variable {s0:Shared} {c:Addr}
structure KJ (X:Cx) (pz:T0b) (σ:St) (G H:Hp) (N:Nat) (f c a kS:Addr) (qual:Str) (params:Arguments) (body:Expr) (scope:Scope) (pm ct:Value) (kds:T0l) (ks:T0m) (s:Shared):Prop where
 ex:∃ G' H' kvs,Inv X pz σ H' s/\Grow G H G' H'/\nO X.K G' H'/\RepAll X.K G' kvs (kds.take ks.length)/\bB kvs ks/\H' f=none/\H' a=none/\H' kS=none
 fo:s.heap.get? f=some (c0R qual params body scope pm c ct)
 oa:∃ o,s.heap.get? a=some o
 okk:∃ o,s.heap.get? kS=some o
def pD {N:Nat} (I0:Inv X pz σ H0 s0) (I:Inv X pz σ H s) (hch:∀ b∈ch,s0.heap.objs.size<=b/\H b=none) (same:∀ b,b∉ch->h'.get? b=s.heap.get? b):
  Inv X pz σ H { s with heap:=h' }:=by
 have nt:∀ b u,H b=some u->b∉ch:=λb u e z=>by rw [(hch b z).2] at e;cases e
 have lt:∀ b∈ch,∀ d,d<s0.heap.objs.size->d≠b:=λb hb d hd z=>absurd (hch b hb).1 (by rw [<-z];exact Nat.not_le_of_lt hd);refine I.step (ch:=ch) (g':=s.gens) (d':=s.drawn) (t':=s.toks) (h':=h') (λb hb=>⟨.inr (qi I0.sz (hch b hb).1),λz=>lt b hb _ I0.lt z.symm,λx c e=>lt b hb c (by obtain ⟨v,q⟩:=I0.cell x c e;exact q.lt),λp hp=>lt b hb p.1 (qM (I0.pin p hp).1)⟩)
  (λb o _ _ hc e n=>(same b hc).trans e) (λb o _ _ hc e n=>⟨o.slots,(same b hc).trans e⟩) (λb o _ _ n=>n) (λb o hc e=>⟨o,(same b hc).trans e⟩) (λ_ _ e=>e) (λ_ _ _ e=>e) (λb ps e=>⟨#[],by rw [e];simp⟩) (λm ⟨o,es,ep,e,r⟩=>⟨o,es,ep,(same _ λz=>lt _ z _ I0.lt rfl).trans e,r⟩)
  (λb u e=>(I.hok b u e).stay (λb' u' hb' e'=>(same b' ?_).trans e') (λ_ z=>z) λ_ _ z=>z) I.bare
 rcases hb' with rfl | z
 ·exact nt _ _ e
 ·exact nt _ _ z
def a3T (I0:Inv X pz σ H0 s0) (I:Inv X pz σ H s) (ha:s0.heap.objs.size<=a) (hn:H a=none) (new:bZ X.prog X.w (upd H a o) s.heap a o):Inv X pz σ (upd H a o) s:=by
 have lt:∀ d,d<s0.heap.objs.size->d≠a:=λd hd z=>absurd ha (by rw [<-z];exact Nat.not_le_of_lt hd);have nt:∀ b u,H b=some u->b≠a:=λb u e z=>by rw [z,hn] at e;cases e
 refine I.step (ch:=[a]) (g':=s.gens) (d':=s.drawn) (t':=s.toks) (h':=s.heap) (λb hb=>?_) (λb o _ _ hc e n=>e) (λb o _ _ hc e n=>⟨o.slots,e⟩) (λb o hc e n=>by rw [aE (by simpa using hc)];exact n) (λb o hc e=>⟨o,e⟩)
  (λb xs e=>by rw [aE (nt b _ e)];exact e) (λb o u e=>by rw [aE (nt b _ e)];exact e) (λb ps e=>⟨#[],by rw [aE (nt b _ e),e];simp⟩) (λm h=>h) (λb u e=>?_) I.bare
 ·obtain rfl:=qL.mp hb
  exact ⟨.inr (qi I0.sz ha),λz=>lt _ I0.lt z.symm,λx c e=>lt c (by obtain ⟨v,q⟩:=I0.cell x c e;exact q.lt),λp hp=>lt p.1 (qM (I0.pin p hp).1)⟩
 ·by_cases z:b=a
  ·subst z;rw [aG] at e;cases e;exact new
  ·rw [aE z] at e
   exact (I.hok b u e).stay (λ_ _ _ e'=>e') (λb' e'=>by rw [aE (nt b' _ e')];exact e') λb' xs e'=>by rw [aE (nt b' _ e')];exact e'
def tF (I:Inv X pz σ H s) {b:Addr} (h:s.heap.objs.size<=b):b∉frs X.stack:=λz=>by
 rcases qG.mp (I.stkSub b z) with e | e
 ·exact absurd I.lt (by rw [<-e];exact zi h)
 ·exact I.nofs h e
def b4a {x y:Str} {c P:Addr} {body a:Expr} {lp:Pos} {fa:EF} (hx:x∈fH) (ht:jb X.K x=some (c,P)) (hcode:X.env.code=.ref c)
  (hq:X.env.qual ++ "<lambda>" = lamQ x) (C:kK X.K c P=true) (M:BM X.mg X.base) (hr:Room (k+3) X.A) (hm:X.mg "sorted" = none) (ha:DE X a fa) (S:FnScope [y] [y] scope)
  (hbody:∀ (f c:Addr) (A:Around) (outer:List Env) (s:Shared) (H:Hp),Room k (A.deeper (uf (lamQ x) scope s.heap.objs.size f (.ref c)))->DE (fcx X.prog X.w X.K X.mg X.base [y] (lamQ x) scope f (.ref c) A outer s H E0) body fe)
  (hbind:∀ (pm ct u:Value) (c:Addr),ug (vF "<lambda>" (lamQ x) params body scope [] pm (.ref c) ct) ⟨[u],[]⟩=pure [(y,u)]:=by intros;rfl)
  (hdef:defaultsOf params X.env=([],[]):=by rfl) (hcl:closureFor scope X.env=pure []:=by rfl)
  (he:j4 [a] X.env=(false,eval a X.env)::j4 [] X.env:=by rfl)
  (he':v0 pos (j4 [a] X.env)=(false,eval a X.env)::v0 pos (j4 [] X.env):=by rfl) (hpl:(v0 pos (j4 [a] X.env)).any (·.1)=false:=by rfl)
  (hk1:(yq pos (wu [⟨some "key", .Lambda params body scope lp,kp⟩] X.env)).filterMap (·.1)=[qx "key"]:=by rfl) (hg:Gl X "sorted":=by rfl):
  DE X (.Call (.Name "sorted" p) [a] [⟨some "key", .Lambda params body scope lp,kp⟩] pos) (a4x fa fe):=⟨λpz s σ H Q I ⟨ρ,r,H0,Gz,G,ef,R,q⟩=>by
 unfold a4x at ef;refine k6 (iG I hg hm (by rfl:wg "sorted" = some (.builtin "sorted")) ?_ (by decide) (by decide));split at ef
 ·rename_i d e1
  obtain ⟨out0,e3,rfl⟩:=bL ef;obtain ⟨ds,e4,e5⟩:=Option.bind_eq_some_iff.mp e3;unfold a1I at e5;split at e5
  ·rename_i kds ek
   split at e5
   ·rename_i hok
    rw [qJ] at hok;obtain ⟨out,e6,rfl⟩:=qO.mp e5;obtain ⟨kk,gg,hs⟩:=b0q hok.1;have k64:=of_decide_eq_true hok.2;have kl:=a0c ek;refine callWith_kw (thn ((gQ (ha.pd e1) mO he).run H0 Gz G pos pz s σ H (λvs H'=>∃ G',Grow G H G' H'/\RepAll X.K G' vs [d]) I R λvs G' H' g r=>⟨G',g,r⟩) λus s1 ⟨vs,H1,I1,r1,G1,g1,w1⟩=>?_) he' hpl;show wpAny _ _ (evalAll ((do let v <-eval (.Lambda params body scope lp) X.env;Qb pos;pure v)::[])) _ _ s1;refine QD (q8 (a6k hx ht hcode hq C M hdef hcl I1 (R.more g1) λf c' ct pm H2 s2 I2 g2 fo Hf sf hc'=>q8 (y0 (j3 (j3 ?_)))));rw [hk1];cases w1 with | cons wa wn=>
    cases wn;obtain ⟨u,rfl,ru⟩:=vals1 r1;obtain ⟨l,ivs,rfl,hsq,ri⟩:=a1m g2.sub e4 wa;cases ru;obtain ⟨its,T,o,n,hT,ho,hc,hd,rv⟩:=a3p I2 hsq;have l1:=ri.len;have l2:=rv.length;have tb2:nO X.K G1 H2:=((R.more g1).more g2).tab;have nf:f∉frs X.stack:=tF I1 sf;refine a1G hT ho hc hd (by omega) λa kS e1' h' Pn E' hP ga gk kp' hk0 ha0=>?_;have gk':s2.heap.objs.size<=kS:=qi ga (jF gk);have na:a∉frs X.stack:=tF I2 ga;have nk:kS∉frs X.stack:=tF I2 gk';refine a6n (J:=KJ X pz σ G1 H2 0 f c' a kS (lamQ x) params body scope pm ct kds) (kds:=kds) (jW gk) hk0 ha0 (by omega) hs (by omega) ?start ?mono ?step ?fin ?done
    case start=>exact ⟨⟨G1,H2,[],I2.kept (t':=s2.toks) kp',.refl g2.sub,tb2,.nil,.nil,Hf,I2.hok.fresh ga,I2.hok.fresh gk'⟩,kp' _ _ fo,⟨_,ha0⟩,⟨_,hk0⟩⟩
    case mono=>
     intro ks s3 h3 ⟨⟨G3,H3,kvs,I3,g3,t3,w3,v3,f3,a3,k3⟩,fo3,oa3,ok3⟩ same sz ok;have fk:f≠kS:=λz=>absurd (qM fo) (by rw [z];exact zi gk');refine ⟨⟨G3,H3,kvs,pD (N:=0) (ch:=[kS]) I2 I3 (λb hb=>?_) (λb hb=>same b (by simpa using hb)),g3,t3,w3,v3,f3,a3,k3⟩,(same f fk).trans fo3,?_,ok⟩
     ·obtain rfl:=qL.mp hb
      exact ⟨gk',k3⟩
     ·obtain ⟨oo,e⟩:=oa3
      exact ⟨oo,(same a (qW gk)).trans e⟩
    case step=>
     intro ks s3 xv hxv ⟨⟨G3,H3,kvs,I3,g3,t3,w3,v3,f3,a3,k3⟩,fo3,oa3,ok3⟩;have hi:ks.length<its.length:=(qS.mp hxv).1;have hdi:ds[ks.length]?=some (ds[ks.length]'(by omega)):=qK (by omega);obtain ⟨kd,ekd,efe⟩:=a2j ek hdi;obtain ⟨iv,eiv,riv⟩:=ri.get hdi;obtain ⟨xv',exv,rxv⟩:=rv.get eiv;rw [hxv] at exv;cases exv;have cr:s3.heap.CodeRec (.ref c') (lamQ x):=(I3.hok c' _ (g3.hh.keep c' _ hc' (by unfold cdO;nofun))).1;have r3:Room (k+1) X.A.in1.in1:=hr.in1.in1;refine uv (wy (b2T r3 I3.env0.in1.in1 fo3 cr S (hbind pm ct xv c') (hbody f c' _ _ _ _ (r3.deeper _)) ⟨g3.sub,t3⟩ (riv.mono g3.gg) rxv efe) λr s4 h4=>?_);cases r with
     | error e=>exact jN h4
     | ok fl=>
      cases fl with
      | next=>exact jN h4
      | brk=>exact jN h4
      | cont=>exact jN h4
      | ret u4=>
       obtain ⟨v4,H4,os4,bare4,un4,hok4,rv4,G4,g4,w4⟩:=h4;obtain ⟨_,_,I4,_,rfl,rfl⟩:=I3.after (Q:=λv H=>v=v4/\H=H4) (u:=u4) (s':=s4) ⟨v4,H4,os4,bare4,un4,hok4,rv4,rfl,rfl⟩;obtain ⟨oo,eoa⟩:=oa3;obtain ⟨ok',eok⟩:=ok3;have keepA:=un4.keep a oo eoa a3 na (by simp);have keepK:=un4.keep kS ok' eok k3 nk (by simp);refine ⟨⟨⟨G4,_,kvs++[_],I4,g3.trans g4,t3.more g4,?_,Paired.snoc v3 rv4,un4.free f _ fo3 f3 (by simp),un4.free a _ eoa a3 (by simp),un4.free kS _ eok k3 (by simp)⟩,un4.keep f _ fo3 f3 nf (by simp),⟨oo,keepA⟩,⟨ok',keepK⟩⟩,keepA.trans eoa.symm,keepK.trans eok.symm⟩;rw [qf,jg,vG,ekd];exact (w3.mono g4.gg).append (.cons w4 .nil)
    case fin=>
     intro ks s3 hl ⟨⟨G3,H3,kvs,I3,g3,t3,w3,v3,f3,a3,k3⟩,fo3,oa3,ok3⟩;rw [jY (by omega)] at w3;exact KeyS.of (a4C I3 (w3.mono g3.sub) (a8C hs) v3) hs
    case done=>
     intro pp ks s3 h3 hPm hS ⟨⟨G3,H3,kvs,I3,g3,t3,w3,v3,f3,a3,k3⟩,fo3,oa3,ok3⟩ same sz ⟨cc,hca⟩;refine hP _ ?_;have pl:∀ i∈pp.toList,i<ivs.length:=λi hi=>by
      have:=(zz.mp hPm.perm).mem_iff.mp hi;simp at this;omega
     have I5:Inv X pz σ H3 { s3 with heap:=h3 }:=pD (N:=0) (ch:=[kS,a]) I2 I3 (λb hb=>by
      rcases qG.mp hb with rfl | hb
      ·exact ⟨gk',k3⟩
      ·obtain rfl:=qL.mp hb
       exact ⟨ga,a3⟩) (λb hb=>same b (λz=>hb (by simp [z])) λz=>hb (by simp [z]))
     refine ⟨.ref a,_,a3T (o:=.lst (pp.toList.map λi=>ivs.getD i .non)) I2 I5 ga a3 ⟨?_,pp.toList.map λi=>its.getD i jR,cc,bB.pick rv _ pl,hca⟩,rfl,?_⟩
     ·rw [qE,qP,hPm.size]
      exact jF (nR (by omega))
     ·refine q (.ref a) _ _ ((g1.trans g2).trans (g3.trans (.put g3.sub a3))) (.list (.of aG) ?_)
      rw [a3l (p:=pp.toList) e6 (λi hi=>by have:=pl i hi;omega) hS];exact (ri.pick _ pl).mono (g3.gg.trans (Grow.put g3.sub a3).gg)
   ·cases e5
  ·cases e5
 ·cases ef⟩
variable {f:SF} {fa T:Addr}
section
variable {K:qC} {x:Str}
def b6l (m n:Nat) (Fu:Fun K x x st fa fd) (S:FnScope N ps (aD st)) (hm:N.length=m) (hn:ps.length=n) (kb:K.In base) (nb:base.Ns j6 mg) (hmg:mg x=some (.ref fa)) (ht:jb K x=some (c,T))
  (body:∀ (A:Around) (outer:List Env) (s:Shared) (H:Hp) (E:XK),Room k (A.deeper (uf x (aD st) s.heap.objs.size fa (.ref c)))->DB (fcx P w K mg base N x (aD st) fa (.ref c) A outer s H E) (bR st) f):
  FnOk P w K mg base CX0 (k+1) fa fd ps (spD K λds d=>bS m n f ds=some (.ok d)):=by
 obtain ⟨oc,od,kV,doc,pm,an,cdv,ct,osl,rfl,lk,hcd⟩:=Fu.ex;have hc:cdv=.ref c:=PySem.W.law_code kb nb ht hmg (kb _ _ lk) rfl;subst hc;refine b7s lk hcd S (λvs H Q E ⟨G,ds,d,s,r,hF,_⟩=>?_) (λA outer s H vs Q E hr ⟨G,ds,d,sm,r,hF,q⟩=>?_)
 ·have hF:bS m n f ds=some (.ok d):=hF
  unfold bS at hF;split at hF
  ·rename_i hl;rw [r.length,hl,hn]
  ·cases hF
 ·have hF:bS m n f ds=some (.ok d):=hF
  unfold bS at hF;split at hF
  ·rw [<-hm,<-sU] at hF
   split at hF
   ·rename_i d' e
    cases (qB hF);exact ⟨_,(body A outer s H E hr).run.nox,gJ N ds,_,H,G,G,e,gB sm r,λv G' H' _ g rv=>q v G' H' g rv⟩
   ·rename_i ρ' e
    cases (qB hF);exact ⟨_,(body A outer s H E hr).run.nox,gJ N ds,_,H,G,G,e,gB sm r,λG' H' σ' _ R'=>q .non G' H' R'.grow .none⟩
   ·cases hF
  ·cases hF
def a0X (m n:Nat) (D:Def K mg x st) (S:FnScope N ps (aD st)) (hm:N.length=m) (hn:ps.length=n) (kb:K.In base) (nb:base.Ns j6 mg) (ht:jb K x=some (c,T))
  (hb:∀ (kV doc pm:Value) (an:T0k) (cdv ct:Value) (us:T0m),us.length=ps.length->ug (jV x x (eK st) (bR st) (aD st) .none kV doc pm an cdv ct) ⟨us,[]⟩=pure (ps.zip us))
  (body:∀ (fa:Addr) (A:Around) (outer:List Env) (s:Shared) (H:Hp) (E:XK),Room k (A.deeper (uf x (aD st) s.heap.objs.size fa (.ref c)))->DB (fcx P w K mg base N x (aD st) fa (.ref c) A outer s H E) (bR st) f):
  bC P w K mg base x (k+1) ps (bS m n f):=by
 obtain ⟨fa,fd,Fu,hmg⟩:=D.ex;exact ⟨fa,fd,hmg,Fu.kp,Fu.binds hb,b6l m n Fu S hm hn kb nb hmg ht λA outer s H E hr=>body fa A outer s H E hr⟩
end
theorem a6g {β:Type}:∀ {l:List (Addr×β)} {a:Addr} {b:β},l.lookup a=some b->(a,b)∈l
 | [],_,_,e=>by cases e
 | (c,y)::r,a,b,e=>by
  rw [kM] at e;cases hb:a==c with
  | true=>rw [hb] at e;cases e;rw [eq_of_beq hb];exact .head _
  | false=>rw [hb] at e;exact .tail _ (a6g e)
variable {ts:List (Addr×Str)}
def b0m {K:qC} {mb:T0d} {x:Str} {F:List j0->Mm j0} {s1z:Shared} 
  (KX:K.In s1z.heap) (hns:s1z.heap.Ns j6 mg) (hb:s1z.heap.Ns uu mb) (hbb:∀ x:Str,x ≠ "__name__" -> mb x=wg x) (hlim:s1z.heap.NoLimit) (hg:s1z.gens=#[])
  (ha:s1z.heap.get? a=some { cls:=.type "list", data:=.seq vs.toArray }) (hi:ud vs ns) (hl:ns.length<=j5) (hr:Room k QW) (hbm:BM mg s1z.heap)
  (htab:∀ T q,ts.lookup T=some q->s1z.heap.get? T=some (vp #[])/\isCodeTable s1z.heap T/\K.lookup T=none) (hts:∀ x∈fH,∀ c T,jb K x=some (c,T)->ts.lookup T=some (lamQ x))
  (Fn:∀ base:Heap,K.In base->base.Ns j6 mg->BM mg base->FnOk P w K mg base CX0 k fa fd [x] (spD K λds d=>F ds=some (.ok d))) (hbind:∀ (s:Shared) (u:Value),BindsTo s fd ⟨[u],[]⟩ [(x,u)]) (hF:F [.list (ns.map .int)]=some (.ok (.bool true))):
  yo (model P w) QW (.call (.ref fa) ⟨[.ref a],[]⟩) (λr s'=>r=.ok (.ret (.bool true))/\OldK s1z.heap s'.heap/\s'.os=s1z.os/\u6 s'.gens) s1z:=by
 have rv:=yK hi;have lenV:=hi.length;have core:∀ S:Hp,c2L S->SqL K S a (ns.map V.int)->HOk P w S s1z.heap->(∀ b,S b≠none->b=a)->(S a≠none->K.lookup a=none) ->
   yo (model P w) QW (.call (.ref fa) ⟨[.ref a],[]⟩) (λr s'=>r=.ok (.ret (.bool true))/\OldK s1z.heap s'.heap/\s'.os=s1z.os/\u6 s'.gens) s1z:=by
  intro S hO hS hok hA hK;generalize hH:(λb=>match ts.lookup b with | some q=>some (HO.tbl (q,#[])) | none=>S b:Hp)=H;have H1:∀ b q,ts.lookup b=some q->H b=some (.tbl (q,#[])):=λb q e=>by rw [<-hH];simp [e]
  have H2:∀ b,ts.lookup b=none->H b=S b:=λb e=>by rw [<-hH];simp [e]
  have ta:∀ b,S b≠none->ts.lookup b=none:=λb e=>by
   cases q:ts.lookup b with
   | none=>rfl
   | some q'=>
    have z:=hA b e;subst z;have:=(htab _ _ q).1;rw [ha] at this;cases this
  have SH:bG S H:=λb o e=>by rw [H2 b (ta b (by rw [e];simp))];exact e
  have hokH:HOk P w H s1z.heap:=λb u e=>by
   cases q:ts.lookup b with
   | some q'=>
    rw [H1 b q' q] at e;cases e;exact (htab _ _ q).1
   | none=>
    rw [H2 b q] at e;exact (hok b u e).stay (λ_ _ _ z=>z) (λb' z=>SH b' _ z) λb' xs z=>SH b' _ z
  have free:∀ {b:Addr} {o:Obj},s1z.heap.get? b=some o->o≠vp #[]->o≠{ cls:=.type "list", data:=.seq vs.toArray }->H b=none:=λ{b o} e n1 n2=>by
   cases q:ts.lookup b with
   | some q'=>exact absurd (qB (e.symm.trans (htab _ _ q).1)) n1
   | none=>
    rw [H2 b q];cases z:S b with
    | none=>rfl
    | some u=>
     have y:=hA b (by rw [z];simp);subst y;exact absurd (qB (e.symm.trans ha)) n2
  have base_of:∀ {b:Addr} {o:Obj},s1z.heap.get? b=some o->H b=none->(a3e s1z.heap H).get? b=some o:=λe n=>b3l e n;have nsK:∀ {b:Addr} {m:T0d},s1z.heap.Ns b m->(a3e s1z.heap H).Ns b m:=λ{b m} ⟨o,es,ep,e,d,r⟩=>⟨o,es,ep,base_of e (free e (λz=>by rw [z] at d;cases d) λz=>by rw [z] at d;cases d),d,r⟩
  have hKb:K.In (a3e s1z.heap H):=λb o e=>base_of (KX b o e) (by
   cases q:ts.lookup b with
   | some q'=>rw [(htab _ _ q).2.2] at e;cases e
   | none=>
    rw [H2 b q];cases z:S b with
    | none=>rfl
    | some u=>
     have y:=hA b (by rw [z];simp);subst y
     rw [hK (by rw [z];simp)] at e;cases e)
  have hM:Mod K mg (a3e s1z.heap H):=⟨hKb,nsK hns,⟨mb,nsK hb,hbb⟩,let ⟨mc,h1,h2⟩:=hlim;⟨mc,nsK h1,h2⟩⟩;have hB:BM mg (a3e s1z.heap H):=by
   obtain ⟨bm,ob,b1,b2,b3,b4,b5,b6,b7⟩:=hbm.ex;exact ⟨bm,ob,b1,b2,b3,base_of b4 (free b4 (λz=>by rw [z] at b5;cases b5) λz=>by rw [z] at b5;injection b5 with b5;exact absurd b5 (by decide)),b5,b6,b7⟩
  have e0:Env0 P w K mg (a3e s1z.heap H) QW [] s1z H:=⟨rfl,hM,λb o e=>b5F e,Nat.le_of_eq (b0x _ _),trivial,λb hb=>absurd (show b∈([]:T0o) from hb) (by simp),hokH,.of_eq hg⟩
  have tabs:nO K S H:=⟨λx hx c T e=>⟨#[],H1 _ _ (hts x hx c T e),trivial,λpos cv e=>by cases e⟩,λb ps e=>by
   rcases hO b with z | ⟨o,xs,z⟩<;>rw [z] at e<;>cases e⟩
  refine wy ((Fn _ hKb (nsK hns) hB).run QW [] s1z H ⟨[.ref a],[]⟩ [.ref a] [.ref a] (λv _=>v=.bl true) E0 hr e0 (hbind s1z (.ref a)) (.cons rfl .nil) ⟨S,[.list (ns.map .int)],.bool true,⟨SH,tabs⟩,.cons (.list hS (oZ ns)) .nil,hF,λv G' H' _ r=>by cases r;rfl⟩) λr s' h=>?_;cases r with
  | error e=>exact jN h
  | ok fl=>
   cases fl with
   | next=>exact jN h
   | brk=>exact jN h
   | cont=>exact jN h
   | ret u=>
    obtain ⟨v,H',os,bare,un,hok',r',q⟩:=h;have q':v=.bl true:=q;subst q';obtain rfl:u=kZ true:=r';refine ⟨rfl,⟨λb o e=>?_,λb o e=>un.there b o e (by simp)⟩,os,bare⟩;cases y:ts.lookup b with
    | some q2=>
     obtain ⟨t1,t2,t3⟩:=htab _ _ y;rw [e] at t1;cases t1;obtain ⟨more,em⟩:=un.tbls b _ (H1 b q2 y);exact .inr (.inl ⟨t2,rfl,#[],more,rfl,hok' b _ em⟩)
    | none=>
     cases q:S b with
     | none=>exact .inl (un.keep b o e (by rw [H2 b y];exact q) (by intro z;exact absurd (show b∈([]:T0o) from z) (by simp)) (by simp))
     | some u=>
      rcases hO b with z | ⟨ob,xs,z⟩
      ·rw [q] at z;cases z
      ·have z2:=un.frzs b ob _ (SH b _ z)
       obtain ⟨e1,_⟩:=hok b _ z;obtain ⟨e2,_⟩:=hok' b _ z2;rw [e] at e1;cases e1;exact .inl e2
 cases hk:K.lookup a with
 | some o=>
  have e:=KX a o hk;rw [ha] at e;cases e;refine core (λ_=>none) (λ_=>.inl rfl) (.inr ⟨_,vs.toArray,_,hk,rfl,rfl,rfl,by rw [qR,lenV];exact hl,by simpa using rv⟩) (λb u z=>by have z':(none:Option HO)=some u:=z;cases z') (λb z=>absurd rfl z) λz=>absurd rfl z
 | none=>
  refine core (λb=>if b=a then some (.frz { cls:=.type "list", data:=.seq vs.toArray } (.lst (ns.map V.int))) else none) (λb=>?_) (.inl (.inr ⟨{ cls:=.type "list", data:=.seq vs.toArray },if_pos rfl⟩)) (λb u z=>?_) (λb z=>?_) λ_=>hk
  ·by_cases hb:b=a
   ·exact .inr ⟨_,_,if_pos hb⟩
   ·exact .inl (if_neg hb)
  ·by_cases hb:b=a
   ·have z':=(if_pos hb).symm.trans z
    cases z';subst hb;exact ⟨ha,by rw [qE];exact hl,vs,_,rv,ha⟩
   ·have z':=(if_neg hb).symm.trans z
    cases z'
  ·by_cases hb:b=a
   ·exact hb
   ·exact absurd (if_neg hb) z
def walkL {l:PySem.W.OpenLaw} {q:Program} {loose:T0q} {XP:(Str->Option Value)->Heap->Prop} {YP:World->Heap->Prop} {d:DefRec} {K:Params->qC} {F:World->List j0->Mm j0} {x:Str} (ts:List (Addr×Str)) (hn:l.most=some 63) (hdf:d.params.defaults=[]) (hr:Room k QW)
  (hY:∀ (w:World) (h:Heap),YP w h->(K w.params).In h) (hT:∀ (w:World) (h:Heap),YP w h->∀ p∈ts.map (·.1),h.get? p=some (vp #[])) (hcd:∀ w:World,∀ p∈ts,(∃ c,kK (K w.params) c p.1=true)/\(K w.params).lookup p.1=none)
  (hts:∀ w:World,∀ x∈fH,∀ c T,jb (K w.params) x=some (c,T)->ts.lookup T=some (lamQ x))
  (Fn:∀ (w:World) (mg:T0d) (fa:Addr) (h:Heap),(K w.params).In h->h.Ns j6 mg->mg d.name=some (.ref fa) ->
   ∃ fd:w8,(∀ (s:Shared) (u:Value),BindsTo s fd ⟨[u],[]⟩ [(x,u)])/\∀ base:Heap,(K w.params).In base->base.Ns j6 mg->BM mg base->FnOk l.prog w (K w.params) mg base CX0 k fa fd [x] (spD (K w.params) λds d=>F w ds=some (.ok d)))
  (hF:∀ (w:World) (ns:T0s),ns.length<=63->F w [.list (ns.map .int)]=some (.ok (.bool true))):
  PySem.W.WalkO q loose XP YP l.row.toRowW d [] (λf vs=>PySem.call f vs):=by
 refine Att.attach_call hn hdf λw s₀ s1z mg mb fa o pm cd doc a vs ns G Y ho hd hcd' hmg hobj hints hlen hg=>?_;have KX:=hY w _ Y;obtain ⟨fd,hb,hFn⟩:=Fn w mg fa _ KX G.T.g hmg;have hbm:BM mg s1z.heap:=by
  obtain ⟨bm,ob,b1,b2,b3,b4,b5,b6⟩:=G.T.bmain;refine ⟨bm,ob,b1,b2,λz=>?_,b3,b4,b5,b6⟩;obtain ⟨o,es,ep,e,hd,_⟩:=G.T.g;rw [z,e] at b3;cases b3;rw [hd] at b6;cases b6
 refine b0m (ts:=ts) KX G.T.g G.T.b G.T.builtins G.T.nolimit hg hobj hints (qi hlen (by decide)) hr hbm (λT q e=>?_) (hts w) hFn hb (hF w ns hlen);have m:=a6g e;have e1:=hT w _ Y T (jo (f:=(·.1)) m);obtain ⟨⟨c,hc⟩,hn'⟩:=hcd w _ m;exact ⟨e1,((PySem.W.codeHd_of_K KX hc).tab e1).isCodeTable,hn'⟩
def b7o (K:qC) (ts:List (Addr×Str)) (x:Str):Bool:=match jb K x with
 | none=>true
 | some (_,T)=>ts.lookup T==some (lamQ x)
def lam_all {K:qC} (h:fH.all (b7o K ts)=true):∀ x∈fH,∀ c T,jb K x=some (c,T)->ts.lookup T=some (lamQ x):=λx hx c T e=>by
 have:=qe.mp h x hx;unfold b7o at this;rw [e] at this;exact eq_of_beq this
def all_cons {α:Type} {p:α->Prop} {a:α} {l:List α} (h:p a) (t:∀ x∈l,p x):∀ x∈a::l,p x:=List.forall_mem_cons.mpr ⟨h,t⟩
abbrev b0n (qual:Str) (scope:Scope) (L f:Addr) (cd:Value) (cl:T0f):Env:=newEnv scope L j6 cl (qual ++ ".<locals>.") (some f) cd none uu
section
variable {K:qC}
noncomputable def cxL (P:Program) (w:World) (K:qC) (mg:T0d) (base:Heap) (N:T0q) (env:Env) (A:Around) (outer:List Env) (s:Shared) (H:Hp) (E:XK):Cx where
 prog:=P
 w:=w
 K:=K
 mg:=mg
 base:=base
 A:=A.deeper env
 N:=N
 s₀:=s
 H₀:=H
 env:=env
 outer:=outer
 stack:=env::outer
 ex:=[]
 calm:=true
 fn:=λ_=>false
 pn:=[]
 xe:=λe s'=>wpAny (model P w) (A.deeper env) (leaving env e) (λ_ s''=>CX1 P w outer H s E e s'') (λe' s''=>CX1 P w outer H s E e' s'') s'
structure Caps (cl:T0f) (scope:Scope) (N:T0q) (σ:St) (H:Hp) (h:Heap):Prop where
 inj:∀ x y c,cl.lookup x=some c->cl.lookup y=some c->x=y
 has:∀ x,scope.names.lookup x=some .free->∃ c,cl.lookup x=some c
 cell:∀ x c,cl.lookup x=some c->H c=none/\∃ v,h.IsCell c v
 val:∀ (i:Nat) (x:Str) (v:V),N[i]?=some x->σ[i]?=some (some v)->scope.names.lookup x=some .free/\∃ u c,RelV v u/\cl.lookup x=some c/\h.IsCell c (some u)
 len:σ.length=N.length
end
section
variable {K:qC} {x:Str} {F:Str->Mm j0}
end
variable {L:List Str}
section
variable {K:qC} {x:Str} {F:Str->Mm j0}
end
def b6Q {cap:T0e} (B:Blk X scope N' cap) (I:Inv X pz σ H s):Caps (xV scope X.env) scope N' (gG cap σ) H s.heap:=by
 have cl:∀ x c,(xV scope X.env).lookup x=some c->X.env.cells.lookup x=some c:=λx c h=>a5k h;refine ⟨λx y c h1 h2=>I.ok.inj x y c (cl x c h1) (cl y c h2),λx h=>?_,λx c h=>⟨I.freeC x c (cl x c h),I.cell x c (cl x c h)⟩,λi x v e1 e2=>?_,by unfold gG;rw [qE];exact B.len⟩
 ·have hm:=qj h
  obtain ⟨c,e⟩:=I.ok.has x (.inl (B.free _ hm rfl));exact ⟨c,xU hm e⟩
 ·unfold gG at e2
  rw [qQ] at e2;cases hc:cap[i]? with
  | none=>rw [hc] at e2;cases e2
  | some o=>
   rw [hc] at e2;cases o with
   | none=>cases e2
   | some j=>
    have e3:(σ[j]?).getD none=some v:=qB e2;have e4:σ[j]?=some (some v):=by
     cases q:σ[j]? with
     | none=>rw [q] at e3;cases e3
     | some w'=>rw [q] at e3;have:w'=some v:=e3;rw [this]
    obtain ⟨y,h1,h2,h3⟩:=B.caps i j hc;rw [e1] at h1;cases h1;have hcell:X.env.kindOf x=some .cell:=B.free _ (qj h3) rfl;obtain ⟨m,_,hl⟩:=I.loc;obtain ⟨u,r,l⟩:=hl j x v h2 e4 (.inr (.inl hcell));rcases l with ⟨k,_⟩ | ⟨_,c,e,z⟩
    ·rw [hcell] at k;cases k
    ·exact ⟨h3,u,c,r,xU (qj h3) e,z⟩
section
variable {K:qC}
end
section
variable {x:Str}
end
end L2.L3
namespace L2.SX
open PySem PyProof.Rows
def sub_dict_set:QZ (.type "dict") (.type "set")=pure false:=by rw [yc];kernel_rfl
def a0Y:QZ (.type "dict") (.type "frozenset")=pure false:=by rw [yc];kernel_rfl
section
variable {K:Type} [DecidableEq K] {knd:KeyKind prog w K}
def b2U (m f mv:Nat) (l p:Bool):j7.laid m f mv l p #[]=some ({ mask:=m,place:=#[],dummies:=#[],finger:=f,led:=l,moves:=mv,plain:=p },#[]):=by
 unfold j7.laid j7.layClean;have e:(qm (m+1)).filterMap (λj=>((Array.replicate (m+1) (none:Option Nat)).getD j none).map (j,·))=[]:=by
  rw [List.filterMap_eq_nil_iff];intro j hj;have:(Array.replicate (m+1) (none:Option Nat)).getD j none=none:=by simp [zp]
  rw [this];rfl
 simp only [Array.foldl_empty,Option.map_some,Option.bind_eq_bind,Option.bind_some,e];rfl
theorem a6X (n:Nat):∀ (f z:Nat),z<=max 8 (2*n)->j7.sizeAbove.go n f z<=max 8 (2*n)
 | 0,z,h=>h
 | f+1,z,h=>by
  unfold j7.sizeAbove.go;split
  ·exact a6X n f (z*2) (by omega)
  ·exact h
def b4y (n:Nat):kR n<=max 8 (2*n):=a6X n 64 8 (by omega)
def b4U {more:Nat} {Q:Unit->Shared->Prop} (g:Good knd s.heap a [] led) (hm:more<=1000)
  (h:∀ h',kB a s.heap h'->Good knd h' a [] led->Q () { s with heap:=h' }):wpAny (model prog w) A (setRoomFor a more) Q E s:=by
 obtain ⟨o,es,ep,t,ho,hex,hd,hel,hmem,hn,hf,hT⟩:=g.ex;have he:es=#[]:=Array.eq_empty_of_size_eq_zero (by rw [hn];rfl);subst he;unfold setRoomFor;refine q8 (yd ho hd hf ?_);cases hr:t.roomFor more with
 | none=>exact j3 (h s.heap (Heap.SameBut.refl a s.heap) g)
 | some wanted=>
  dsimp only;unfold setRelay;refine q8 (yd ho hd hf ?_);dsimp only;have hp:t.place.size=0:=by
   have:=hf;unfold j7.fits at this;rw [qJ,beq_iff_eq] at this;exact this.1
  have hw:wanted<=2000:=by
   unfold j7.roomFor at hr;split at hr
   ·cases hr;rw [hp];omega
   ·cases hr
  have hb:=b4y wanted;have hs:¬kR wanted > j5:=by rw [w5];omega
  rw [if_neg hs];have er:t.relaid (Array.map (λx:Int×Value=>x.fst) #[]) wanted=some ({ mask:=kR wanted - 1,place:=#[],dummies:=#[],finger:=t.finger,led:=t.led,moves:=t.movedTo (kR wanted - 1),plain:=t.plain },#[]):=by
   unfold j7.relaid;rw [Array.map_empty];exact b2U _ _ _ _ _
  rw [er];generalize hT':({ mask:=kR wanted - 1,place:=#[],dummies:=#[],finger:=t.finger,led:=t.led,moves:=t.movedTo (kR wanted - 1),plain:=t.plain }:j7)=T;refine q8 (ub (a:=(#[],T)) rfl ?_);refine QG ho hd ?_ (jB _);have st:=stored (es':=#[]) (t':=T) ho hd;refine h _ ?_ ⟨⟨_,#[],ep+1,T,st,⟨hex.1,hex.2.1,hex.2.2⟩,rfl,λe he=>by simp at he,λk=>by simp,rfl,?_,?_⟩,vt,by show 0<ui;decide⟩
  ·exact jv s.heap a (Obj.putSet #[] T)
  ·rw [<-hT'];simp [j7.fits,j7.fill]
  ·rw [<-hT'];exact ⟨hT.led,λ_=>by simp [sO]⟩
def set_ofD {d:Addr} {kvs:List (K×Value)} {Q:T0a} (hd:s.heap.DictOf knd d kvs) (hS:(d==wo)=false) (hsc:∀ k v,knd.is k v=true->v.scannable=true) (hb:kvs.length<=1000)
  (h:∀ (h':Heap) (tk:Nat),Good knd h' s.heap.objs.size (kvs.map (·.1)) (ledOf w)->(∀ b o,b<s.heap.objs.size->s.heap.get? b=some o->h'.get? b=some o)->Q (.ref s.heap.objs.size) { s with heap:=h',toks:=tk }):
  wpAny (model prog w) A (call (.type "set") [.ref d]) Q E s:=by
 obtain ⟨c,tl,hmro⟩:=jc.mro;have hmade:=jc.made;have hsub:=jc.sub;refine uv (u0 ?_);show wpAny _ _ (callAny (.type "set") ⟨[.ref d],[]⟩) _ _ _;refine j3 ⟨Code.quiet_builtin _ (by decide +kernel),k9 F.entry_type_call ?_⟩;rw [Around.under_plain (ur "set" [.ref d] []) rfl];have n1:=jc.notType;have n2:=jc.canCreate;have n3:=F.typeCall_set_1 (.ref d)
 repeat (any_goals (first | assumption | wp_step))
 refine wy (new_one (.ref d) (E:=E) (Q1:=λob s1=>ob=.ref s.heap.objs.size/\s1={ s with heap:=s.heap.push (cU w) }) ⟨rfl,rfl⟩) λr s1 hr=>?_;cases r with
 | error e=>exact hr
 | ok fl=>
  cases fl with
  | ret ob=>
   obtain ⟨rfl,rfl⟩:=hr;have hS':(s.heap.push (cU w)).get? s.heap.objs.size=some (cU w):=qH _ rfl;have hT:zG { s with heap:=s.heap.push (cU w) } (.ref s.heap.objs.size) "set" := ⟨_,hS',rfl⟩;have k1:=jc.init.lookup;have k2:=jc.init.bind (.ref s.heap.objs.size)
   repeat (any_goals (first | assumption | wp_step))
   refine wy (y6 (R:=wants (λr s2=>r=.none/\∃ h' tk,s2={ s with heap:=h',toks:=tk }/\Good knd h' s.heap.objs.size (kvs.map (·.1)) (ledOf w)/\∀ b o,b<s.heap.objs.size->s.heap.get? b=some o->h'.get? b=some o) E)
    jc.init.plain F.entry_set_init (check_set_init_1 hT ?_)) λr2 s2 hr2=>?_
   ·have hd1:(s.heap.push (cU w)).DictOf knd d kvs:=hd.push _
    have hty:zG { s with heap:=s.heap.push (cU w) } (.ref d) "dict" := Heap.DictOf.typeIs (s:={ s with heap:=s.heap.push (cU w) }) hd1;obtain ⟨od,es,ep,g0,hx,hdd,hk,hp,nd⟩:=hd1;have s1:=sub_dict_set;have s2:=a0Y;unfold Builtin.«set.__init__» noKeywords Builtin.Frozenset.updateFrom;generalize hRF:setRoomFor=RF
    wp_walk
    rw [hdd];refine j3 ?_;have hes:es.size=kvs.length:=by rw [<-qP];exact hp.length
    have lt:d<s.heap.objs.size:=by
     obtain ⟨o',_,_,e',_⟩:=hd;exact qM e'
    have hda:d≠s.heap.objs.size:=qW lt;refine q8 (QF g0 hdd ?_);rw [<-hRF];refine q8 (b4U (knd:=knd) (led:=ledOf w) (a6u s.heap) (by omega) λh1 sb1 g1=>?_);have gd1:h1.get? d=some od:=(sb1.2 d hda).trans g0;refine q8 (QF gd1 hdd ?_);refine q8 ?_;rw [Std.Legacy.Range.forIn_eq_forIn_range'];have sz:Std.Legacy.Range.size [:es.size]=es.size:=by simp [Std.Legacy.Range.size]
    rw [sz];show wpAny _ _ (forIn (List.range' 0 es.size 1) _ _) _ _ _;refine ue _ (λrest _ s'=>∃ i h',i<=es.size/\rest=List.range' i (es.size - i) 1/\s'={ s with heap:=h' }/\kB s.heap.objs.size (s.heap.push (cU w)) h'/\Good knd h' s.heap.objs.size ((kvs.take i).map (·.1)) (ledOf w)) _ ?turn ?fin _ _ ⟨0,h1,jB _,rfl,rfl,sb1,g1⟩
    case turn=>
     rintro x rest _ _ ⟨i,h',hi,er,rfl,sb,g⟩;have hlt:i<es.size:=by
      rcases Nat.lt_or_ge i es.size with z | z
      ·exact z
      ·rw [Nat.sub_eq_zero_of_le z] at er;cases er
     rw [show es.size - i=(es.size - (i+1))+1 by omega,List.range'_succ] at er;obtain ⟨rfl,rfl⟩:=List.cons.inj er;have gd:h'.get? d=some od:=(sb.2 d hda).trans g0;refine q8 (QF gd hdd ?_);rw [jC hlt];dsimp only;have hk':x<kvs.length:=by omega
     have pk:knd.is (kvs[x]).1 (es[x]).key=true:=by
      have:∀ (a:List QJ) (b:List (K×Value)),Pairs knd a b->∀ (j:Nat) (h1:j<a.length) (h2:j<b.length),knd.is (b[j]).1 (a[j]).key=true:=by
       intro a b hab
       induction hab with
       | nil=>intro j h1;cases h1
       | cons p1 p2 p3 ih=>
        intro j h1 h2;cases j with
        | zero=>exact p1
        | succ j=>exact ih j (by simpa using h1) (by simpa using h2)
      have:=this es.toList kvs hp x (by rw [qP];exact hlt) hk';simpa using this
     obtain ⟨k',h1',h2'⟩:=hk es[x] (Array.getElem_mem hlt);have ek:k'=(kvs[x]).1:=knd.inj _ _ _ h1' pk;subst ek;rw [h2']
     refine q8 (v8 (cD pk (hsc _ _ pk) g (by
      rw [qE,jQ];show min x kvs.length+1<4096
      omega) λh2 b sb2 g2=>?_))
     have gd2:h2.get? d=some od:=(sb2.2 d hda).trans gd;refine q8 (wpAny_dictEpoch gd2 hdd ?_);simp only [bne_self_eq_false,qt,if_false];refine j3 ⟨x+1,h2,by omega,rfl,rfl,sb.trans sb2,?_⟩;have et:(kvs.take (x+1)).map (·.1)=addK ((kvs.take x).map (·.1)) (kvs[x]).1:=by
      rw [vG,qK hk',qc];unfold addK;rw [if_neg]
      ·rfl
      ·intro z
       rw [List.map_take] at z;obtain ⟨j,hj,ej⟩:=wB z;rw [jQ,qE] at hj;rw [List.getElem_take,zD] at ej;have:=(wc (i:=j) (j:=x) (h₀:=by rw [qE];omega) (h₁:=by rw [qE];exact hk') nd).mp (by rw [zD,zD];exact ej);omega
     rw [et];exact g2
    case fin=>
     rintro _ _ ⟨i,h',hi,er,rfl,sb,g⟩;have:es.size - i=0:=by
      have:=congrArg zV er;simpa using this.symm
     have e:kvs.take i=kvs:=jY (by omega);rw [e] at g;refine j3 (j3 ⟨rfl,h',_,rfl,g,λb o hb' e'=>?_⟩);exact (sb.2 b (qW hb')).trans (qD _ e')
   ·cases r2 with
    | error e=>exact hr2
    | ok fl2=>
     cases fl2 with
     | ret r=>
      obtain ⟨rfl,h',tk,rfl,g',kp⟩:=hr2
      repeat (any_goals (first | assumption | wp_step))
      exact h _ _ g' kp
     | _=>exact hr2.elim
  | _=>exact hr.elim
end
def b3G:uy table "set.__ne__" = some Builtin.«frozenset.__ne__»:=uk (id' := "frozenset.__ne__") (by kernel_rfl) rfl (by decide +kernel) (by kernel_rfl)
def a1C:QZ (.type "set") (.type "frozenset")=pure false:=by rw [yc];kernel_rfl
variable {b:Addr} {Q:Bool->Shared->Prop} {o:Obj} {es:Array (Int×Value)} {t:j7}
section
variable {K:Type} [DecidableEq K] {knd:KeyKind prog w K}
def b6X (ty:s.TypeIs (.ref b) "set") (h:Q true s):wpAny (model prog w) A (vT (.ref b)) Q E s:=by
 have s1:=sub_set_self;unfold vT
 wp_walk
 exact h
def a1l {Q:Nat->Shared->Prop} (ho:s.heap.get? a=some o) (hd:o.data=.set es ep t) (hf:t.fits es.size=true) (h:Q es.size s):wpAny (model prog w) A (zS a) Q E s:=by
 unfold zS y7;exact q8 (q8 (yd ho hd hf (j3 (j3 h))))
def a2A {Q:Array (Int×Value)->Shared->Prop} (ho:s.heap.get? a=some o) (hd:o.data=.set es ep t) (hf:t.fits es.size=true) (h:Q es s):wpAny (model prog w) A (y7 a) Q E s:=by
 unfold y7;exact q8 (yd ho hd hf (j3 h))
def a6y {Q:Nat->Shared->Prop} (ho:s.heap.get? a=some o) (hd:o.data=.set es ep t) (hf:t.fits es.size=true) (h:Q ep s):wpAny (model prog w) A (setEpoch a) Q E s:=by
 unfold setEpoch;exact q8 (yd ho hd hf (j3 h))
def b1V {x:Value} (hx:x.scannable=true) (h:Q true s):wpAny (model prog w) A (Builtin.Frozenset.quietEq x) Q E s:=by
 unfold Builtin.Frozenset.quietEq;cases x<;>first | exact j3 h | cases hx
def b4B {oa:Obj} {ea eb:Array (Int×Value)} {pa pb:Nat} {ta tb:j7} {Q:List (Int×Value)->Shared->Prop} (hoa:s.heap.get? a=some oa) (hda:oa.data=.set ea pa ta) (hfa:ta.fits ea.size=true) (hob:s.heap.get? b=some ob) (hdb:ob.data=.set eb pb tb) (hfb:tb.fits eb.size=true)
  (h1:∀ e∈ea.toList,e.2.scannable=true) (h2:∀ e∈eb.toList,e.2.scannable=true) (h:Q ea.toList s):wpAny (model prog w) A (Builtin.Frozenset.walkUnseen a b) Q E s:=by
 unfold Builtin.Frozenset.walkUnseen;refine q8 (a2A hoa hda hfa ?_);refine q8 (a2A hob hdb hfb ?_);refine q8 ?_;refine ue _ (λrest r s'=>r.1=none/\s'=s/\∀ e∈rest,e.2.scannable=true) _ ?_ ?_ _ _ ⟨rfl,rfl,λe he=>(jD.mp he).elim (h1 e) (h2 e)⟩
 ·rintro ⟨hh,x⟩ rest r s' ⟨hr,rfl,hall⟩
  refine q8 (b1V (hall _ qY) ?_);simp only [vV,qt,if_false];exact j3 ⟨rfl,rfl,λe he=>hall e (qF _ he)⟩
 ·rintro ⟨r1,r2⟩ s' ⟨hr,rfl,_⟩
  simp only at hr;subst hr;exact j3 h
def a9N {ks qs:List K} {id:String} (ga:Good knd s.heap a ks la) (gb:Good knd s.heap b qs lb) (hsc:∀ k v,knd.is k v=true->v.scannable=true) (hl:ks.length=qs.length)
  (h:Q (ks.all λk=>decide (k∈qs)) s):wpAny (model prog w) A (vS id a b) Q E s:=by
 obtain ⟨oa,ea,pa,ta,hoa,hxa,hda,hela,hmema,hna,hfa,hTa⟩:=ga.ex;obtain ⟨ob,eb,pb,tb,hob,hxb,hdb,helb,hmemb,hnb,hfb,hTb⟩:=gb.ex;have so:s.heap.SetOf knd b (λk=>decide (k∈qs)) eb.size:=⟨ob,eb,pb,tb,hob,hxb,hdb,helb,λk=>by rw [decide_eq_true_eq];exact hmemb k,by rw [hnb];exact gb.few,hfb,rfl⟩;have c1:∀ e∈ea.toList,e.2.scannable=true:=λe he=>by
  exact (hela e he).2
 have c2:∀ e∈eb.toList,e.2.scannable=true:=λe he=>by
  exact (helb e he).2
 unfold vS;refine q8 (a1l hoa hda hfa ?_);refine q8 (a1l hob hdb hfb ?_);rw [if_neg (by rw [hna,hnb,hl];exact jK _)];refine q8 (a6y hoa hda hfa ?_);refine q8 (b4B hoa hda hfa hob hdb hfb c1 c2 ?_);refine q8 ?_;have key:∀ l:List (Int×Value),(∀ e∈l,e∈ea.toList)->((∀ e∈l,∀ k,knd.is k e.2=true->k∈qs)\/∃ e∈l,∃ k,knd.is k e.2=true/\k∉qs):=λl hl=>by
  by_cases c:∀ e∈l,∀ k,knd.is k e.2=true->k∈qs
  ·exact .inl c
  ·refine .inr (vH λz=>c λe he k hk=>vH λz2=>z ⟨e,he,k,hk,z2⟩)
 refine ue _ (λrest r s'=>r.1=none/\s'=s/\(∀ e∈rest,e∈ea.toList)/\((∀ e∈rest,∀ k,knd.is k e.2=true->k∈qs)->(ks.all λk=>decide (k∈qs))=true)) _ ?_ ?_ _ _ ⟨rfl,rfl,λe he=>he,λhall=>?_⟩
 ·rintro ⟨hh,x⟩ rest r s' ⟨hr,rfl,hin,hall⟩
  obtain ⟨k,h1,h2⟩:=(hela _ (hin _ qY)).1;have h2:hh=knd.hash k:=h2;rw [h2];refine q8 (v8 (wpAny_setFind_of h1 (hsc _ _ h1) so λr' hr'=>?_));by_cases c:k∈qs
  ·rw [decide_eq_true c] at hr'
   obtain ⟨j,rfl⟩:=Option.isSome_iff_exists.mp hr';simp only [Option.isNone_some,qt,if_false];unfold Builtin.Frozenset.unchanged;refine q8 (q8 (a6y hoa hda hfa ?_));simp only [bne_self_eq_false,qt,if_false];refine j3 (j3 ⟨rfl,rfl,λe he=>hin e (qF _ he),λhr2=>hall λe he k' hk'=>?_⟩);rcases qG.mp he with rfl | he
   ·rw [knd.inj _ _ _ hk' h1];exact c
   ·exact hr2 e he k' hk'
  ·rw [decide_eq_false c] at hr'
   have:r'=none:=by cases r' with | none=>rfl | some j=>cases hr'
   subst this;simp only [Option.isNone_none,if_true];have hf:(ks.all λk=>decide (k∈qs))=false:=by
    rw [Bool.eq_false_iff];intro z;have:=qe.mp z k ((hmema k).mpr ⟨_,hin _ qY,h1⟩);exact c (of_decide_eq_true this)
   rw [hf] at h;exact j3 (j3 h)
 ·rintro ⟨r1,r2⟩ s' ⟨hr,rfl,_,hall⟩
  simp only at hr;subst hr;have:=hall (λe he=>nomatch he);rw [this] at h;exact j3 h
 ·rw [qe]
  intro k hk;obtain ⟨e,he,h1⟩:=(hmema k).mp hk;exact decide_eq_true (hall e he k h1)
def b5L {ks qs:List K} {P:Fin->Shared->Prop} (ga:Good knd s.heap a ks la) (gb:Good knd s.heap b qs lb) (hsc:∀ k v,knd.is k v=true->v.scannable=true)
  (h:P (.done (.ret (.bool (!(decide (ks.length=qs.length)&&ks.all λk=>decide (k∈qs)))))) s):
  wpAny (model prog w) A (Builtin.«frozenset.__ne__» ⟨[.ref a,.ref b],[]⟩) P E s:=by
 obtain ⟨oa,ea,pa,ta,hoa,hxa,hda,hela,hmema,hna,hfa,hTa⟩:=id ga.ex;obtain ⟨ob,eb,pb,tb,hob,hxb,hdb,helb,hmemb,hnb,hfb,hTb⟩:=id gb.ex;have tya:s.TypeIs (.ref a) "set" := ⟨oa,hoa,hxa.1⟩;have tyb:s.TypeIs (.ref b) "set" := ⟨ob,hob,hxb.1⟩;show wpAny _ _ (vT (.ref b)>>=_) _ _ s;refine q8 (b6X tyb ?_);simp only [vV,qt,if_false];refine q8 (j3 ?_);refine q8 (j3 ?_);refine q8 (a1l hoa hda hfa ?_);refine q8 (a1l hob hdb hfb ?_);refine q8 ?_;by_cases c:ks.length=qs.length
 ·rw [if_neg (by rw [hna,hnb,c];simp)]
  rw [decide_eq_true c,vU] at h;have s2:=a1C;refine q8 ?_;generalize hSS:vS=SS
  wp_walk
  rw [<-hSS];exact a9N ga gb hsc c (j3 h)
 ·rw [if_pos (by rw [hna,hnb];simpa using c)]
  rw [decide_eq_false c] at h;exact j3 (j3 h)
def sets_ne {ks qs:List K} {Q:T0a} (ga:Good knd s.heap a ks la) (gb:Good knd s.heap b qs lb) (hsc:∀ k v,knd.is k v=true->v.scannable=true) (hu:A.units<cLine)
  (h:Q (.bool (!(decide (ks.length=qs.length)&&ks.all λk=>decide (k∈qs)))) s):wpAny (model prog w) A (richCompare .NotEq (.ref a) (.ref b)) Q E s:=by
 have tya:s.TypeIs (.ref a) "set":=by obtain ⟨o,_,_,_,ho,hx,_⟩:=ga.ex;exact ⟨o,ho,hx.1⟩
 have tyb:s.TypeIs (.ref b) "set":=by obtain ⟨o,_,_,_,ho,hx,_⟩:=gb.ex;exact ⟨o,ho,hx.1⟩
 exact wpAny_richCompare_same_room (op:=.NotEq) tya tyb F.slot_set_ne (j9 F.slot_set_ne tya b3G (b5L ga gb hsc ⟨_,rfl,(λe=>nomatch e),h⟩) (F.args_set_ne_2 _ _)) hu
end
end L2.SX
namespace L2
open PySem PySem.Spec PyProof.Rows
section
variable (P:Program) (w:World)
end
section
variable {h:Heap} {o:HO}
end
section
variable {h:Heap} {x e:Addr}
end
section
variable {fs fs' ex ex':T0o} {h h2:Heap} {x e:Addr} {o:HO}
end
section
variable {σ:List (Option V)}
end
section
variable {a:Expr}
variable {tA tB':TT} {rest:T0n}
end
section
variable {xs ys:List V}
end
section
variable {rest:List Stmt} {t u:TS}
end
variable {tc:TE}
section
variable {a:Expr}
end
section
variable {a:Expr}
end
section
variable {K:qC} {x:Addr} {mA:T0d} {v:Value}
end
section
variable {h:Heap} {fs fs':List (Str×V)}
end
section
variable {fs:List (Str×V)} {f:Str}
end
variable {o:Expr}
section
variable {f:Str}
end
section
variable {c:Value} {b:Bool}
end
variable {t:TA}
section
variable {dvs:List V} {ds:T0m} {E:XK} {x m:Str}
end
section
variable {ks:T0q} {E:XK} {x m:Str} {kpos:Pos} {kws:List Keyword} {tk:TA} {nm:Option Str}
variable {g:List Value->List Value->List Value} {gV:List V->List V->List V}
end
section
variable {x:Str} {id:String} {r:List V->Hp->VK->Prop}
end
section
variable {κ:Type} [DecidableEq κ]
def a7f (kvs:List (κ×V)) (k:κ):Option V:=(kvs.find? λkv=>decide (kv.1=k)).map (·.2)
def putK (kvs:List (κ×V)) (k:κ) (v:V):List (κ×V):=
 if (kvs.any λkv=>decide (kv.1=k))=true then kvs.map (λkv=>if kv.1=k then (kv.1,v) else kv) else kvs++[(k,v)]
def a5x {p:κ×V} {r:List (κ×V)} {k:κ} (e:p.1=k):a7f (p::r) k=some p.2:=by simp [a7f,zy,e]
def a5y {p:κ×V} {r:List (κ×V)} {k:κ} (e:¬p.1=k):a7f (p::r) k=a7f r k:=by simp [a7f,zy,e]
theorem a5z (k:κ):∀ kvs:List (κ×V),(kvs.any λkv=>decide (kv.1=k))=(a7f kvs k).isSome
 | []=>rfl
 | p::r=>by
  rw [kY];by_cases e:p.1=k
  ·simp only [a5x e,decide_eq_true e,Bool.true_or,Option.isSome_some]
  ·rw [a5y e,decide_eq_false e,Bool.false_or];exact a5z k r
def sF (kvs:List (κ×V)) (k:κ) (v:V):(putK kvs k v).length<=kvs.length+1:=by
 unfold putK;split
 ·rw [qE];omega
 ·rw [qf,qV,zu];omega
def a0y.isSome_eq {o:Option V} {u:Option Value} (r:a0y o u):o.isSome=u.isSome:=by
 cases o with
 | none=>cases u with
  | none=>rfl
  | some _=>exact (show False from r).elim
 | some _=>cases u with
  | none=>exact (show False from r).elim
  | some _=>rfl
theorem KV.any {kvs:List (κ×V)} {vs:List (κ×Value)} (r:KV kvs vs) (k:κ):(kvs.any λkv=>decide (kv.1=k))=vs.any λkv=>decide (kv.1=k):=by
 unfold KV at r
 induction r with
 | nil=>rfl
 | cons h t ih=>rw [kY,kY,ih,h.1]
def KV.repl {kvs:List (κ×V)} {vs:List (κ×Value)} (r:KV kvs vs) (k:κ) (ry:RelV y u):
  KV (kvs.map λkv=>if kv.1=k then (kv.1,y) else kv) (vs.map λkv=>if kv.1=k then (kv.1,u) else kv):=by
 unfold KV at r ⊢
 induction r with
 | nil=>exact .nil
 | @cons p q ps qs h t ih=>
  rw [qI,qI];refine .cons ?_ ih;obtain ⟨h1,h2⟩:=h;by_cases e:p.1=k
  ·rw [if_pos e,if_pos (h1.symm.trans e)];exact ⟨h1,ry⟩
  ·rw [if_neg e,if_neg (λz=>e (h1.trans z))];exact ⟨h1,h2⟩
theorem KV.put {kvs:List (κ×V)} {vs:List (κ×Value)} (r:KV kvs vs) (k:κ) (ry:RelV y u):KV (putK kvs k y) (stored vs k u):=by
 unfold putK stored;rw [r.any k];by_cases e:(vs.any λkv=>decide (kv.1=k))=true
 ·rw [if_pos e,if_pos e];exact r.repl k ry
 ·rw [if_neg e,if_neg e];exact Paired.snoc r ⟨rfl,ry⟩
theorem KV.length {kvs:List (κ×V)} {vs:List (κ×Value)} (r:KV kvs vs):kvs.length=vs.length:=vm r
end
def b3a {k:Key} (r:RelV (kV k) u):(aW P w).is k u=true:=by
 cases k with
 | inl i=>obtain ⟨t,e⟩:=(show ∃ t,u=vd i t from r);subst e;exact a0J P w i t
 | inr x=>obtain ⟨t,e⟩:=(show ∃ t,u=Value.str x t from r);subst e;exact mP P w x t
theorem a3S {P:Program} {w:World}:∀ {ks:List Key} {us:T0m},bB (ks.map kV) us->ItemsAre (aW P w) ks us
 | [],_,r=>by rw [vA] at r;cases r;exact .nil
 | k::ks,_,r=>by
  rw [qI] at r;cases r with
  | cons h t=>exact .cons (b3a h) (a3S t)
abbrev KT (H:Hp):List (List Key×V)->List (List Key×Addr×Value)->Prop:=Paired λp q=>p.1=q.1/\H q.2.1=some (.tup (p.1.map kV))/\RelV p.2 q.2.2
variable {kvs:List (List Key×V)} {xs:List (List Key×Addr×Value)}
theorem KT.val (r:KT H kvs xs) (k:List Key):a0y (a7f kvs k) ((atKey xs k).map (·.2)):=by
 induction r with
 | nil=>exact kJ
 | @cons p q ps qs h t ih=>
  obtain ⟨h1,_,h2⟩:=h;by_cases e:p.1=k
  ·have e':q.1=k:=h1.symm.trans e
   have b:atKey (q::qs) k=some q.2:=by simp [atKey,zy,e']
   rw [a5x e,b];exact h2
  ·have e':¬q.1=k:=λz=>e (h1.trans z)
   have b:atKey (q::qs) k=atKey qs k:=by simp [atKey,zy,e']
   rw [a5y e,b];exact ih
def KT.repl (r:KT H kvs xs) (k:List Key) (ry:RelV y u):
  KT H (kvs.map λkv=>if kv.1=k then (kv.1,y) else kv) (xs.map (putAt k u)):=by
 induction r with
 | nil=>exact .nil
 | @cons p q ps qs h t ih=>
  rw [qI,qI];refine .cons ?_ ih;obtain ⟨h1,h2,h3⟩:=h;unfold putAt;by_cases e:p.1=k
  ·rw [if_pos e,if_pos (h1.symm.trans e)];exact ⟨h1,h2,ry⟩
  ·rw [if_neg e,if_neg (λz=>e (h1.trans z))];exact ⟨h1,h2,h3⟩
theorem KT.put (r:KT H kvs xs) (k:List Key) {b:Addr} (hb:H b=some (.tup (k.map kV))) (ry:RelV y u):
  KT H (putK kvs k y) (storedH xs k b u):=by
 have e:(kvs.any λkv=>decide (kv.1=k))=(atKey xs k).isSome:=by
  rw [a5z,(r.val k).isSome_eq,Option.isSome_map]
 unfold putK storedH;rw [e];by_cases q:(atKey xs k).isSome=true
 ·rw [if_pos q,if_pos q];exact r.repl k ry
 ·rw [if_neg q,if_neg q];exact Paired.snoc r ⟨rfl,hb,ry⟩
def KT.keeps (r:KT H kvs xs) (ht:∀ b ys,H b=some (.tup ys)->H' b=some (.tup ys)):KT H' kvs xs:=
 Paired.mapP r λ_ _ z=>⟨z.1,ht _ _ z.2.1,z.2.2⟩
section
variable {h:Heap}
def b7h {u:HO} (ok:HOk P w H h) (e:Rd H a u):bZ P w H h a u:=e.ok ok
def a9q {kvs:List (Key×V)} (ok:HOk P w H h) (e:Rd H a (.dK kvs)):kvs.length<=j5/\(a==wo)=false/\∃ vs,KV kvs vs/\h.DictOf (aW P w) a vs:=
 show bZ P w H h a (.dK kvs) from b7h ok e
def a6F {kvs:List (Key×V)} (ok:HOk P w H h) (e:H a=some (.dK kvs)):kvs.length<=j5/\(a==wo)=false/\∃ vs,KV kvs vs/\h.DictOf (aW P w) a vs:=a9q ok (.inl e)
def b2X {ks:List Key} (ok:HOk P w H h) (e:H a=some (.tup (ks.map kV))):(Qc (aW P w)).is h ks a:=by
 obtain ⟨_,its,r,o,h1,h2,n,h3⟩:=(show bZ P w H h a (.tup (ks.map kV)) from ok a _ e);exact ⟨o,its.toArray,n,h1,h2,h3,by simpa using a3S r⟩
def b7w (ok:HOk P w H h) (e:Rd H a (.dT kvs)):kvs.length<=j5/\(a==wo)=false /\
  ∃ xs,KT H kvs xs/\h.DictOfH (Qc (aW P w)) a xs:=by
 obtain ⟨z,y,xs,r,o,es,ep,h1,h2,h3,h4,h5⟩:=(show bZ P w H h a (.dT kvs) from b7h ok e);refine ⟨z,y,xs,r,o,es,ep,h1,h2,h3,h4,λx hx=>?_,h5⟩;have all:∀ {l:List (List Key×V)} {m:List (List Key×Addr×Value)},KT H l m->∀ x∈m,(Qc (aW P w)).is h x.1 x.2.1:=by
  intro l m q
  induction q with
  | nil=>intro x hx;exact nomatch hx
  | @cons p q ps qs hq t ih=>
   intro x hx;rcases qG.mp hx with e | hx
   ·subst e
    exact b2X ok (by rw [<-hq.1];exact hq.2.1)
   ·exact ih x hx
 exact all r x hx
def c1f (ok:HOk P w H h) (e:H a=some (.dT kvs)):kvs.length<=j5/\(a==wo)=false /\
  ∃ xs,KT H kvs xs/\h.DictOfH (Qc (aW P w)) a xs:=b7w ok (.inl e)
end
def c1q (H:Hp) (a:Addr) (y v:V) (H':Hp):Prop:=
 (∃ kvs k,H a=some (.dK kvs)/\y=kV k/\kvs.length<j5/\H'=upd H a (.dK (putK kvs k v))) \/
 ∃ kvs k b,H a=some (.dT kvs)/\y=.ref b/\H b=some (.tup (k.map kV))/\kvs.length<j5/\H'=upd H a (.dT (putK kvs k v))
variable {r:Value}
section
variable {o:Option V}
theorem Inv.big (I:Inv X pz σ H s):wo<s.heap.objs.size:=by
 have h:j6<s.heap.objs.size:=(I.mod.glob.keeps I.bk).lt;exact vf (by decide) h
def xR {ob:HO} (I:Inv X pz σ H s) (mu:Mut (H a)) (hs:kB a s.heap h') (he:∃ q,h'.get? a=some q) (new:bZ X.prog X.w (upd H a ob) h' a ob):
  Inv X pz σ (upd H a ob) { s with heap:=h',toks:=t' }:=
 I.write (x:=a) (e:=a) mu (.inl rfl) (λb q hb z=>(hs.2 b hb).trans z) he new
def a8e {kvs:List (Key×V)} {vs:List (Key×Value)} (z:kvs.length<=j5) (hd:(a==wo)=false) (rel:KV kvs vs) (dd:h'.DictOf (aW P w) a vs):
  bZ P w H' h' a (.dK kvs):=⟨z,hd,vs,rel,dd⟩
def b0J {Q:Unit->Shared->Prop} (hu:A.units+1<cLine) (I:Inv X pz σ H s) (g:c1q H a y v H') (ry:RelV y u) (rv:RelV v r) (h:∀ s',Inv X pz σ H' s'->Q () s'):
  wpAny (model X.prog X.w) A (setItem (.ref a) u r) Q E s:=by
 rcases g with ⟨kvs,k,e,ey,l,eH⟩ | ⟨kvs,k,b,e,ey,eb,l,eH⟩
 ·subst ey eH
  obtain ⟨z,hd,vs,rel,dd⟩:=a6F I.hok e;have hz:vs.length<=j5:=by rw [<-rel.length];exact z
  have hl:(putK kvs k v).length<=j5:=by have:=sF kvs k v;omega
  refine wpAny_setItem_pairs (hsz:=hz) (b3a ry) dd λh' dd' hs=>h _ ?_;have he:∃ q,h'.get? a=some q:=let ⟨q,_,_,hq,_⟩:=dd';⟨q,hq⟩
  exact xR I (by rw [e];exact kJ) hs he (a8e hl hd (rel.put k rv) dd')
 ·subst ey eH
  cases (show u=qw b from ry);obtain ⟨z,hd,xs,rel,dd⟩:=c1f I.hok e;have hz:xs.length<=j5:=by rw [<-vm rel];exact z
  have hl:(putK kvs k v).length<=j5:=by have:=sF kvs k v;omega
  refine wpAny_setItem_heap (hsz:=hz) (tupleKind_room_in1 hu) (b2X I.hok eb) dd λh' dd' hs=>h _ ?_;obtain ⟨q,es,ep,hq,h2,h3,h4,_,h5⟩:=dd';refine xR I (by rw [e];exact kJ) hs ⟨q,hq⟩ ⟨hl,hd,_,(rel.put k eb rv).keeps λc ys ec=>?_,q,es,ep,hq,h2,h3,h4,h5⟩;rw [aE (cM ec e (λz=>nomatch z))];exact ec
end
section
variable {kvs:List (Key×V)} {k:Key}
end
def c0i (td ty tv:TE):TS:=λD σ H=>tv σ H λv H1=>td σ H1 λx H2=>ty σ H2 λy H3=>∃ a H4,x=.ref a/\c1q H3 a y v H4/\D.nx σ H4
variable {ty:TE}
section
variable {i:Expr}
def b5c (hu:X.A.units+1<cLine) (ho:PE X o td) (hi:PE X i ty) (hv:PE X value tv) (hs:wm value (some (.Subscript o i pos')) pos.line X.env=pure false):
  PS X (.Assign [.Subscript o i pos'] value pos) (c0i td ty tv):=by
 intro pz s σ H D I h;refine wpAny_Assign_Subscript (thn (hv pz s σ H _ I h) λr s1 ⟨v,H1,I1,rv,q1⟩=>thn (ho pz s1 σ H1 _ I1 q1) λu s2 ⟨x,H2,I2,rx,q2⟩=>thn (hi pz s2 σ H2 _ I2 q2) λiv s3 ⟨y,H3,I3,ry,a,H4,ex,g,q3⟩=>?_) hs;subst ex;obtain rfl:u=qw a:=rx;exact b0J hu I3 g ry rv λs4 I4=>⟨σ,H4,I4,q3⟩
end
def a6G (h:Heap) (hb:wo<h.objs.size):bZ P w H (h.push { cls:=.type "dict", data:=.dict #[] }) h.objs.size (.dK []):=
 ⟨jB _,beq_eq_false_iff_ne.mpr (jJ (qW hb)),[],.nil,Heap.DictOf.new h⟩
def b7N:TE:=λ_ H Q=>∀ p,H p=none->Q (.ref p) (upd H p (.dK []))
def b2s:PE X (.Dict [] [] pos) b7N:=λpz s σ H Q I h=>
 wpAny_Dict_empty ⟨.ref s.heap.objs.size,_,I.laid (a:=s.heap.objs.size) (o:=.dK []) (t':=s.toks) (λ_ _ q=>qD _ q) (qN _) (a6G s.heap I.big),rfl,h _ (I.hok.fresh (qN _))⟩
def a4u:List (TE×TE)->St->Hp->(List (V×V)->Hp->Prop)->Prop
 | [],_,H,Q=>Q [] H
 | (tk,tv)::r,σ,H,Q=>tk σ H λx H1=>tv σ H1 λy H2=>a4u r σ H2 λps H3=>Q ((x,y)::ps) H3
abbrev VV:List (V×V)->List (Value×Value)->Prop:=Paired λp q=>RelV p.1 q.1/\RelV p.2 q.2
def PPs (X:Cx) (pos:Pos) (keys:List (Option Expr)) (values:T0n) (trs:List (TE×TE)):Prop:=
 ∀ (pz:T0b) (s:Shared) (σ:St) (H:Hp) (Q:List (V×V)->Hp->Prop),Inv X pz σ H s->a4u trs σ H Q ->
  wpAny (model X.prog X.w) X.A (evalPairs (pairTrees keys values X.env pos)) (λvs s'=>∃ ps H',Inv X pz σ H' s'/\VV ps vs/\Q ps H') X.xe s
def b5d:PPs X pos [] [] []:=λpz s σ H Q I h=>pairTrees_nil_walk ⟨[],H,I,.nil,h⟩
variable {trs:List (TE×TE)}
def b2h {k v:Expr} {ks:List (Option Expr)} {vs:T0n} {tk:TE} (hk:PE X k tk) (hv:PE X v tv) (hr:PPs X pos ks vs trs):
  PPs X pos (some k::ks) (v::vs) ((tk,tv)::trs):=λpz s σ H Q I h=>
 pairTrees_cons_walk (thn (hk pz s σ H _ I h) λu s1 ⟨x,H1,I1,rx,q1⟩=>thn (hv pz s1 σ H1 _ I1 q1) λw2 s2 ⟨y,H2,I2,ry,q2⟩=>
  thn (hr pz s2 σ H2 _ I2 q2) λws s3 ⟨ps,H3,I3,rel,q3⟩=>⟨(x,y)::ps,H3,I3,.cons ⟨rx,ry⟩ rel,q3⟩)
def lQ (kvs more:List (Key×V)):List (Key×V):=more.foldl (λacc kv=>putK acc kv.1 kv.2) kvs
def KV.merge:∀ {more:List (Key×V)} {rs:List (Key×Value)} {kvs:List (Key×V)} {vs:List (Key×Value)},KV more rs->KV kvs vs->KV (lQ kvs more) (merged vs rs):=by
 intro more rs kvs vs r;unfold KV at r
 induction r generalizing kvs vs with
 | nil=>intro q;exact q
 | @cons p q ps qs h t ih=>
  intro r0;have e:KV (putK kvs p.1 p.2) (stored vs q.1 q.2):=by
   have:=r0.put p.1 h.2;rw [<-h.1];exact this
  exact ih e
theorem nA:∀ (more kvs:List (Key×V)),(lQ kvs more).length<=kvs.length+more.length
 | [],kvs=>by show kvs.length<=kvs.length+0;omega
 | p::r,kvs=>by
  have h1:=nA r (putK kvs p.1 p.2);have h2:=sF kvs p.1 p.2;show (lQ (putK kvs p.1 p.2) r).length<=_;rw [qV];omega
theorem a2H {P:Program} {w:World}:∀ {kvs:List (Key×V)} {ws:List (Value×Value)},VV (kvs.map λkv=>(kV kv.1,kv.2)) ws->∃ rs,Carries (aW P w) ws rs/\KV kvs rs
 | [],_,r=>by rw [vA] at r;cases r;exact ⟨[],kJ,.nil⟩
 | p::kvs,_,r=>by
  rw [qI] at r;cases r with
  | @cons a b as bs h t=>
   obtain ⟨rs,c,q⟩:=a2H (P:=P) (w:=w) t;obtain ⟨b1,b2⟩:=b;exact ⟨(p.1,b2)::rs,⟨b3a h.1,rfl,c⟩,.cons ⟨rfl,h.2⟩ q⟩
def c0c (trs:List (TE×TE)):TE:=λσ H Q=>∀ p,H p=none->a4u trs σ (upd H p (.dK [])) λps H2=>H2 p=some (.dK [])/\∃ kvs:List (Key×V),ps=kvs.map (λkv=>(kV kv.1,kv.2))/\kvs.length<=15/\Q (.ref p) (upd H2 p (.dK (lQ [] kvs)))
def b5o {keys:List (Option Expr)} {values:T0n} (h:PPs X pos keys values trs) (hall:keys.all (·.isSome)=true) (hl:keys.length=values.length) (h0:keys≠[])
  (h15:keys.length<=15):PE X (.Dict keys values pos) (c0c trs):=by
 intro pz s σ H Q I q;have hn:=I.hok.fresh (qN s.heap.objs.size);have I1:=I.laid (a:=s.heap.objs.size) (o:=.dK []) (h':=s.heap.push { cls:=.type "dict", data:=.dict #[] }) (t':=s.toks) (λ_ _ q=>qD _ q) (qN _) (a6G s.heap I.big);refine wpAny_Dict_walk (knd:=aW X.prog X.w) hall hl h0 h15 (thn (h pz _ σ _ _ I1 (q _ hn)) λws s2 ⟨ps,H2,I2,rel,e,kvs,ep,lk,q2⟩=>?_);subst ep;obtain ⟨rs,c,rk⟩:=a2H (P:=X.prog) (w:=X.w) rel;obtain ⟨z,hd,vs0,r0,dd⟩:=a6F I2.hok e;cases r0;refine ⟨rs,c,dd,λh' dd' hs=>⟨.ref s.heap.objs.size,_,?_,rfl,q2⟩⟩;have hz:(lQ [] kvs).length<=j5:=by
  have h1:=nA kvs [];rw [zu] at h1;rw [w5];omega
 have he:∃ q,h'.get? s.heap.objs.size=some q:=let ⟨q,_,_,hq,_⟩:=dd';⟨q,hq⟩
 exact xR I2 (by rw [e];exact kJ) hs he (a8e hz hd (rk.merge .nil) dd')
def IsD (H:Hp) (a:Addr):Prop:=(∃ kvs,Rd H a (.dK kvs))\/∃ kvs,Rd H a (.dT kvs)
def b3h (I:Inv X pz σ H s) (d:IsD H a):
  s.TypeIs (.ref a) "dict" /\ (∀ b,qw a=.ref b->∃ ob,s.heap.get? b=some ob/\ob.dict=none)/\(a==wo)=false:=by
 rcases d with ⟨kvs,e⟩ | ⟨kvs,e⟩
 ·obtain ⟨_,hd,vs,_,dd⟩:=a9q I.hok e
  refine ⟨dd.typeIs,λb q=>?_,hd⟩;cases q;obtain ⟨ob,_,_,h1,h2,_⟩:=dd;exact ⟨ob,h1,h2.2.1⟩
 ·obtain ⟨_,hd,xs,_,dd⟩:=b7w I.hok e
  refine ⟨dd.typeIs,λb q=>?_,hd⟩;cases q;obtain ⟨ob,_,_,h1,h2,_⟩:=dd;exact ⟨ob,h1,h2.2.1⟩
section
variable {d:V} {o:Option V}
end
section
variable {f:Expr} {tx:TE}
end
section
variable {kvs:List (Key×V)}
end
end L2
namespace Att
open PySem PySem.W PySem.Calls PyProof.Rows
section
variable {K:Frag}
end
end Att
namespace L2
open PySem PySem.Spec PyProof.Rows
section
variable {K:qC}
end
section
variable {κ:Type} [DecidableEq κ]
end
end L2
namespace L2.L3
open PySem PySem.Spec PyProof.Rows
section
variable {K:qC} {x:Str}
end
section
variable {a:Expr}
end
end L2.L3
namespace L2.SX
open PySem PyProof.Rows
section
variable {K:Type} [DecidableEq K] {knd:KeyKind prog w K}
def a0R:uy table "dict.update.loop" = some Builtin.«dict.update.loop»:=entryFor_of_tree (by kernel_rfl)
def mN:plainId "dict.update.loop" = true:=by decide +kernel
def a4V:typeLookup (.type "list") "keys" = pure none:=am_miss_of_fast (by kernel_rfl)
def b0o {xs:Array Value} {Q:Option Value->Shared->Prop} (hx:s.heap.get? a=some { cls:=.type "list", dict:=none,data:=.seq xs n,slots:=sl }) (hA:A.handled=none)
  (h:∀ h' tk,(∀ b ob,s.heap.get? b=some ob->h'.get? b=some ob)->Q none { s with heap:=h',toks:=tk }):wpAny (model prog w) A (getAttr? (.ref a) "keys") Q E s:=by
 obtain ⟨hp,g,d,tk,os⟩:=s;have hT:∀ tk',(⟨hp,g,d,tk',os⟩:Shared).TypeIs (.ref a) "list" := λ_=>⟨_,hx,rfl⟩;have f1:=sub_AttributeError;have f3:=vh.lookup;have f4:=vh.bind (.ref a);have f5:=am_list_getattr_none;have hmiss:=a4V;have hname:(["__module__", "__name__", "__qualname__", "__doc__", "__annotations__"]:T0q).contains "keys" = false:=by decide +kernel
 have hsz:("keys" : Str).length+100<=j5:=by size_fits
 generalize ("keys" : Str)=name at hmiss hname hsz ⊢;unfold getAttr? getAttrBy? getAttrBy
 repeat (any_goals (first | assumption | exact hT _ | ((with_reducible show wpAny _ _ (call (Value.builtin "list.__getattribute__") _ _) _ _ _);refine call_meets vh (hT _) am_entry_list_getattribute (F.args_list_getattribute_2 _ _) (meets_getattribute_miss_list a xs n sl name _ hmiss hname hsz) ⟨hx,hA,λh' tk' e hx'=>?_⟩) | wp_step))
 obtain ⟨t',u',he⟩:=hx'.there;show wpAny _ _ (getattributeRaised _ _ _ _ _ _ _) _ _ _;unfold getattributeRaised
 repeat (any_goals (first | assumption | wp_step))
 exact h _ _ hx'.keeps
end
section
variable {K:Type} [DecidableEq K] {knd:KeyKind prog w K} {R:Result->Shared->Prop} {wr:T0o} {G:Array QT->Array QT->Prop} {P:Nat->Value->Prop} {St:Nat->Shared->Prop}
def b3V (W:WalksS prog w A.in1 I fp wr G n P St) (D:Addr) (hDf:D∉fp) {h₀:Heap} (hwr:∀ b∈wr,h₀.get? b=none) (hD:h₀.get? D=none) (prs:List (K×Value)) (hn:prs.length=n)
  (hval:∀ i v,P i v->∃ t o x kv,v=.ref t/\h₀.get? t=some o/\o.cls=.type "tuple" /\ (∃ m,o.data=.seq #[x,kv.2] m)/\knd.is kv.1 x=true/\prs[i]?=some kv) (hsz:n<=j5):
  ∀ (m i:Nat) (s:Shared),n - i=m->i<=n->St i s->(∀ b o,h₀.get? b=some o->s.heap.get? b=some o)->s.heap.DictOf knd D (merged [] (prs.take i)) ->
   (∀ s',Moved (D::wr) G s s'->(∀ b o,h₀.get? b=some o->s'.heap.get? b=some o)->s'.heap.DictOf knd D (merged [] prs)->R (.ok (.ret .none)) s') ->
   yo (model prog w) A (.builtin "dict.update.loop" ⟨[.ref D,.ref I,v7 (i:Int),.none],[]⟩) R s:=by
 have nw:D∉wr:=λz=>hDf (W.sub _ z);have up:∀ b∈wr,b∈D::wr:=λb hb=>qF _ hb;have keep:∀ {s s':Shared},Moved wr G s s'->(∀ b o,h₀.get? b=some o->s.heap.get? b=some o)->∀ b o,h₀.get? b=some o->s'.heap.get? b=some o:=λmv k b o e=>mv.heap b o (λz=>by rw [hwr b z] at e;cases e) (k b o e);intro m
 induction m with
 | zero=>
  intro i s hm hi st kp g hR;obtain rfl:i=n:=by omega
  refine k9 a0R ?_;rw [qy mN _];show wpAny _ A.in1 (yf (.ref I)>>=_) _ _ s;refine q8 (W.done s _ _ st λs' mv=>?_);show wpAny _ _ (Builtin.Dict.addKeywords D []>>=_) _ _ _;refine q8 (j3 (j3 (hR s' (mv.mono up) (keep mv kp) ?_)));rw [<-hn,List.take_length] at g;obtain ⟨o',es,ep,h1,h2⟩:=g;exact ⟨o',es,ep,mv.heap D o' nw h1,h2⟩
 | succ m ih=>
  intro i s hm hi st kp g hR;have lt:i<n:=by omega
  refine k9 a0R ?_;rw [qy mN _];show wpAny _ A.in1 (yf (.ref I)>>=_) _ _ s;refine q8 (W.item i s _ _ lt st λv s' pv st' mv=>?_);obtain ⟨t,o,x,kv,rfl,ho,hc,⟨mm,hd⟩,hk,hp⟩:=hval i v pv;have kp':=keep mv kp;have g':s'.heap.DictOf knd D (merged [] (prs.take i)):=by
   obtain ⟨o',es,ep,h1,h2⟩:=g;exact ⟨o',es,ep,mv.heap D o' nw h1,h2⟩
  have hT:s'.TypeIs (.ref t) "tuple" := ⟨o,kp' t o ho,hc⟩;refine q8 (v8 (q8 (uq ?_)));unfold Builtin.Dict.pairItems;refine q8 (yv hT ?_);rw [if_pos (by decide)];refine q8 (v6 (kp' t o ho) hd (j3 ?_));show wpAny _ _ (holding [x,kv.2] (dictSet D x kv.2)) _ _ _;have hlen:(merged [] (prs.take i)).length<=j5:=by
   have:=merged_length_le ([]:List (K×Value)) (prs.take i);rw [jQ] at this;simp at this;omega
  refine v8 (wpAny_dictSet_pairs hk g' (λh' g2 sb=>?_) hlen);rw [<-merged_take_succ _ _ _ _ hp] at g2;refine j3 ⟨wx mN _,ih (i+1) _ (by omega) lt (W.frame _ s' _ _ st' (jx _) λc hc' o' e=>?_) (λb o' e=>?_) g2 λs'' mv'' kp'' g''=>?_⟩
  ·show h'.get? c=_
   rw [sb.2 c (λz:c=D=>hDf (z▸hc'))];exact e
  ·show h'.get? b=_
   rw [sb.2 b (λz:b=D=>by rw [z,hD] at e;cases e)];exact kp' b o' e
  ·refine hR s'' (Moved.trans W.gtrans ((mv.mono up).then_heap (jx _) λc o' hc' e=>?_) mv'') kp'' g''
   show h'.get? c=_;rw [sb.2 c (λz:c=D=>hc' (by rw [z];exact qY))];exact e
end
section
variable {K:Type} [DecidableEq K] {knd:KeyKind prog w K}
def dict_of {prs:List (K×Value)} (hh:A.handled=none) (hl:s.heap.get? l=some { cls:=.type "list", dict:=none,data:=.seq items n,slots:=sl })
  (hn:prs.length=items.size) (hval:∀ (i:Nat) (v:Value),items[i]?=some v->∃ (t:Addr) (o:Obj) (x:Value) (kv:K×Value),v=.ref t/\s.heap.get? t=some o/\o.cls=.type "tuple" /\ (∃ m,o.data=.seq #[x,kv.2] m)/\knd.is kv.1 x=true/\prs[i]?=some kv) (hsz:prs.length<=j5)
  (h:∀ (h':Heap) (tk:Nat),h'.DictOf knd s.heap.objs.size (merged [] prs)->(∀ b o,s.heap.get? b=some o->h'.get? b=some o)->Q (.ref s.heap.objs.size) { s with heap:=h',toks:=tk }):
  wpAny (model prog w) A (call (.type "dict") [.ref l]) Q E s:=by
 refine callType_codes (Q₁:=λobj s1z=>obj=.ref s.heap.objs.size/\s1z={ s with heap:=s.heap.push { cls:=.type "dict", data:=.dict #[] } }) F.kt_called_dict (F.kt_typeCall_dict_1 _) F.entry_dict_init (kt_code_dict_new _ ⟨rfl,rfl⟩) ?_;rintro obj s1z ⟨rfl,rfl⟩;have hnew:(s.heap.push { cls:=.type "dict", data:=.dict #[] }).DictOf knd s.heap.objs.size []:=Heap.DictOf.new s.heap;have hl1:(s.heap.push { cls:=.type "dict", data:=.dict #[] }).get? l=some { cls:=.type "list", dict:=none,data:=.seq items n,slots:=sl }:=qD _ hl;have hT:zG { s with heap:=s.heap.push { cls:=.type "dict", data:=.dict #[] } } (.ref l) "list" := ⟨_,hl1,rfl⟩;have lt:l<s.heap.objs.size:=qM hl;refine ⟨hnew.typeIs,F.args_dict_init_2 _ _,?_⟩;unfold Builtin.«dict.__init__»;refine q8 ?_;unfold Builtin.Dict.selfAndRest;refine q8 (wpAny_notOrdered_dict hnew.typeIs ?_);show wpAny _ _ (pure (s.heap.objs.size,[qw l])) _ _ _;refine j3 ?_;show wpAny _ _ (Builtin.Dict.updateFrom "dict.__init__" s.heap.objs.size (.ref l) [] .none) _ _ _;unfold Builtin.Dict.updateFrom;refine q8 (yv hT ?_);rw [if_pos (by decide)];refine q8 (b0o (A:=A.in1.in1) hl1 hh λh1 tk1 k1=>?_);rw [if_pos (by rfl)];refine q8 (wp ?_);have L1:h1.IsList l items:=⟨_,k1 _ _ hl1,rfl,n,rfl⟩;refine q8 (ym L1 ?_);have ltD:s.heap.objs.size<h1.objs.size:=qM (k1 _ _ (qH _ rfl));have nI:l≠h1.objs.size:=qW (vf lt ltD);have kp0:∀ b o,s.heap.get? b=some o->(h1.push { cls:=.type "list_iterator", data:=.fields #[.ref l,.int 0 0] }).get? b=some o:=λb o e=>qD _ (k1 b o (qD _ e));refine j3 ⟨wx mN _,?_⟩;refine b3V (knd:=knd) (A:=A.in1) ((Walks.list (A:=A.in1.in1) hh h1.objs.size l nI items).toS) s.heap.objs.size ?_ (h₀:=s.heap) ?_ (vC (qN _)) prs hn hval (by omega) (items.size - 0) 0 _ (by omega) (jB _) ⟨⟨_,qH _ rfl,rfl,rfl⟩,L1.push _⟩ kp0 ?_ ?_
 ·intro z
  rcases qG.mp z with z | z
  ·exact absurd z (qW ltD)
  ·rw [qL] at z
   exact absurd z (jW lt)
 ·intro b hb
  rw [qL] at hb;subst hb;exact vC (jF ltD)
 ·obtain ⟨o',es,ep,h2,h3⟩:=hnew
  exact ⟨o',es,ep,qD _ (k1 _ _ h2),h3⟩
 ·intro s' mv kp g'
  obtain ⟨h',gs',dr',tk',os'⟩:=s';obtain rfl:gs'=s.gens:=mv.gens;obtain rfl:dr'=s.drawn:=mv.drawn;obtain rfl:os'=s.os:=mv.os;exact ⟨rfl,h h' tk' g' kp⟩
end
end L2.SX
namespace L2.L3
open PySem PySem.Spec PyProof.Rows
def oG:j0->Option Key
 | .int i=>some (.inl i)
 | .str x=>some (.inr x)
 | _=>none
def oF (k:Key):oG (eC k)=some k:=by cases k<;>rfl
variable {k:Key}
def a1s (h:oG d=some k):d=eC k:=by
 unfold oG at h;split at h
 ·cases h;rfl
 ·cases h;rfl
 ·cases h
def a3y:j0->Option (Key×j0)
 | .tuple [k,v]=>(oG k).map (·,v)
 | _=>none
def b2v {p:Key×j0} (h:a3y d=some p):d=.tuple [eC p.1,p.2]:=by
 unfold a3y at h;split at h
 ·obtain ⟨k,hk,rfl⟩:=qO.mp h
  rw [a1s hk]
 ·cases h
def fV (kvs:List (Key×j0)):j0:=.dict (kvs.map λp=>(eC p.1,p.2))
noncomputable def uA (ds:T0l):Option j0:=match ds with
 | [.list xs]=>match fK a3y xs with
  | some kvs=>if decide (kvs.map (·.1)).Nodup&&decide (kvs.length<=1000) then some (fV kvs) else none
  | none=>none
 | _=>none
def a6h (k:Key):List (j0×j0)->Option j0
 | []=>none
 | p::r=>if oG p.1=some k then some p.2 else a6h k r
def b2O {x:j0} (h:a6h k [(.none,x)]=some d):False:=by cases k<;>cases h
def mH (x k:j0):Option j0:=match x,oG k with
 | .dict D,some k=>a6h k D
 | _,_=>none
def a3L (k:Key):List (Key×V)->Option V
 | []=>none
 | p::r=>if p.1=k then some p.2 else a3L k r
section
variable {K:qC}
theorem a3M {k:Key} {d:j0}:∀ {kvs:List (Key×V)} {D:List (j0×j0)},D.map (·.1)=kvs.map (λp=>eC p.1)->RepAll K G (kvs.map (·.2)) (D.map (·.2))->a6h k D=some d->∃ v,a3L k kvs=some v/\Rep K G v d
 | [],[],_,_,h=>by cases h
 | [],_::_,e,_,_=>by simp at e
 | _::_,[],e,_,_=>by simp at e
 | q::kvs,p::D,e,.cons r t,h=>by
  rw [qI,qI,kU] at e;unfold a6h at h;unfold a3L;rw [e.1,oF] at h;by_cases c:q.1=k
  ·rw [if_pos (by rw [c])] at h
   rw [if_pos c];cases (qB h);exact ⟨_,rfl,r⟩
  ·rw [if_neg (λz=>c (qB z))] at h
   rw [if_neg c];exact a3M e.2 t h
theorem a3K {k:Key} {v:V}:∀ {kvs:List (Key×V)} {vs:List (Key×Value)},KV kvs vs->a3L k kvs=some v->∃ u,valueAt vs k=some u/\RelV v u
 | _,_,.nil,h=>by cases h
 | q::kvs,p::vs,.cons r t,h=>by
  unfold a3L at h;have e:valueAt (p::vs) k=if p.1=k then some p.2 else valueAt vs k:=by
   unfold valueAt;rw [zy];by_cases c:p.1=k
   ·rw [if_pos c];simp [c]
   ·rw [if_neg c];simp [c]
  rw [e];by_cases c:q.1=k
  ·rw [if_pos c] at h
   rw [if_pos (r.1▸c)];cases (qB h);exact ⟨_,rfl,r.2⟩
  ·rw [if_neg c] at h
   rw [if_neg (λz=>c (r.1.trans z))];exact a3K t h
def a4D (r:Rep K G v (eC k)):v=kV k:=by
 cases k<;>(cases r;rfl)
end
variable {a:Expr}
def b6f (I:Inv X pz σ H s):wo<s.heap.objs.size:=by
 have h:j6<s.heap.objs.size:=(I.mod.glob.keeps I.bk).lt;exact vf (by decide) h
def a9a (r:RelV (kV k) u):(aW P w).is k u=true:=by
 cases k with
 | inl i=>obtain ⟨t,rfl⟩:=r;exact a0J P w i t
 | inr x=>obtain ⟨t,rfl⟩:=r;exact mP P w x t
def c2f:R2:=λx y H Q=>∃ p kvs k v,x=.ref p/\y=kV k/\Rd H p (.dK kvs)/\a3L k kvs=some v/\Q v H
def b6a:IxR X c2f:=by
 intro value slice pz s σ H x y v u Q I rx ry h hs;obtain ⟨p,kvs,k,z,rfl,rfl,hq,he,q⟩:=h;cases rx;obtain ⟨hz,hS,vs,kv,dd⟩:=(show bZ X.prog X.w H s.heap p (.dK kvs) from hq.ok I.hok);obtain ⟨w,ew,rw'⟩:=a3K kv he;exact um (x:=w) dd.typeIs slot_dict_getitem.lookup
  (wpAny_getItem_of (Q:=λr s'=>r=w/\EP X pz σ Q r s') (a9a ry) dd.mapOf ew ⟨rfl,z,H,I.tok _,rw',q⟩) hs
def sK (ha:DE X a fa) (hb:DE X b fb) (hs:a1t b:=by exact λ_ _=>rfl):DE X (.Subscript a b pos) (op2 mH fa fb):=
 ⟨λpz s σ H Q I ⟨ρ,r,H0,Gz,G,e,R,q⟩=>b2p b6a ha.run hb.run hs pz s σ H Q I (bE R e q.x λx v G1 H1 g1 R1 rv e1=>bE R1 e1 (q.more g1).x λy u G2 H2 g2 R2 ru e2=>by
  obtain ⟨d,ed,rfl⟩:=bL e2;unfold mH at ed;split at ed
  ·rename_i D k hk
   rw [a1s hk] at ru;cases a4D ru;cases (rv.mono g2.gg) with
   | dict h e0 rr=>
    obtain ⟨w,ew,rw'⟩:=a3M e0 rr ed;exact ⟨_,_,k,w,rfl,rfl,mM g2.sub h,ew,q w _ _ (g1.trans g2) rw'⟩
   | fil _ _=>exact (b2O ed).elim
  ·cases ed)⟩
theorem b2f {pz:T0b} {σ:St} {H:Hp} {s:Shared} (I:Inv X pz σ H s):∀ {ts:List V} {kvs:List (Key×V)} {its:T0m},Paired (λt (kv:Key×V)=>∃ a,t=V.ref a/\SqT X.K H a [kV kv.1,kv.2]) ts kvs->bB ts its ->
  ∃ prs:List (Key×Value),KV kvs prs/\∀ (i:Nat) (v:Value),its[i]?=some v->∃ (t:Addr) (o:Obj) (x:Value) (kv:Key×Value),v=.ref t/\s.heap.get? t=some o/\o.cls=.type "tuple" /\ (∃ m,o.data=.seq #[x,kv.2] m)/\(aW X.prog X.w).is kv.1 x=true/\prs[i]?=some kv
 | _,_,_,.nil,.nil=>⟨[],.nil,λi v e=>by simp at e⟩
 | _,_,_,.cons ⟨a,e,hq⟩ t,.cons r rs=>by
  obtain ⟨prs,h1,h2⟩:=b2f I t rs;subst e;cases r;obtain ⟨its,rv,⟨o,ho,hc,n,hd⟩,hz⟩:=I.tuple hq;obtain ⟨u,w,rfl,r1,r2⟩:=vals2 rv;rename_i kv _ _ _;refine ⟨(kv.1,w)::prs,.cons ⟨rfl,r2⟩ h1,λi v e=>?_⟩;cases i with
  | zero=>
   simp at e;exact ⟨a,o,u,(kv.1,w),e.symm,ho,hc,⟨n,hd⟩,a9a r1,rfl⟩
  | succ i=>exact h2 i v (by simpa using e)
def b8N {kvs:List (Key×V)} {vs:List (Key×Value)} (h:KV kvs vs):kvs.length=vs.length:=by
 have:=congrArg zV (a2h h).1;simpa using this
theorem a1R {α β:Type} {F:α->β->Prop}:∀ {l:List α} {m:List β},Paired F l m->l.length=m.length
 | _,_,.nil=>rfl
 | _,_,.cons _ t=>by simp [a1R t]
def b0R (hc:X.calm=true):iP X (.type "dict") (λxs H Q=>∃ (p:Addr) (ts:List V) (kvs:List (Key×V)),xs=[.ref p]/\SqL X.K H p ts/\Paired (λt (kv:Key×V)=>∃ a,t=V.ref a/\SqT X.K H a [kV kv.1,kv.2]) ts kvs/\(kvs.map (·.1)).Nodup/\kvs.length<=1000 /\
  ∀ l,H l=none->Q (.ref l) (upd H l (.dK kvs))):=by
 intro pz s σ H xs us Q I r ⟨p,ts,kvs,e,hq,hp,nd,hz,q⟩;subst e;obtain ⟨u,rfl,rx⟩:=vals1 r;cases rx;obtain ⟨its,rv,⟨o,n,ho,hcl,hdc,hda⟩,_⟩:=I.list hq;obtain ⟨prs,kv,hv⟩:=b2f I hp rv;obtain ⟨oc,od,odt,osl⟩:=o;dsimp only at hcl hdc hda;subst hcl hdc hda;have hd:=I.ok.hd hc;have l1:=b8N kv;have l2:=a1R hp;have l3:=rv.length;have hline:kvs.length<=j5:=jF (nR (by omega));refine SX.dict_of (knd:=aW X.prog X.w) (prs:=prs) hd ho (by rw [qR];omega) (λi v e=>hv i v (by simpa using e)) (by omega) λh' tk dd kp=>?_;have nd':(prs.map (·.1)).Nodup:=by rw [<-(a2h kv).1];exact nd
 rw [merged_nil_of_nodup prs nd'] at dd;have big:=b6f I;have ne:(s.heap.objs.size==wo)=false:=beq_eq_false_iff_ne.mpr (jW big);exact ⟨.ref s.heap.objs.size,_,I.laid (t':=tk) (a:=s.heap.objs.size) (o:=.dK kvs) kp (qN _) ⟨hline,ne,prs,kv,dd⟩,rfl,q _ I.fresh⟩
theorem a3x {K:qC} {G:Hp}:∀ {ts:List V} {xs:T0l} {ks:List (Key×j0)},RepAll K G ts xs->fK a3y xs=some ks->∃ kvs:List (Key×V),Paired (λt (kv:Key×V)=>∃ a,t=V.ref a/\SqT K G a [kV kv.1,kv.2]) ts kvs/\kvs.map (·.1)=ks.map (·.1)/\RepAll K G (kvs.map (·.2)) (ks.map (·.2))
 | _,_,_,.nil,h=>by cases (qB h);exact ⟨[],.nil,rfl,.nil⟩
 | _,d::ds,ks,.cons r t,h=>by
  unfold fK at h;split at h
  ·cases h
  ·rename_i q hq
   obtain ⟨ks',h1,rfl⟩:=qO.mp h;obtain ⟨kvs,p1,p2,p3⟩:=a3x t h1;rw [b2v hq] at r;cases r with
   | tuple hs rr=>
    cases rr with | cons ra rr=>
    cases rr with | cons rb rr=>
    cases rr;cases a4D ra;exact ⟨(q.1,_)::kvs,.cons ⟨_,rfl,hs⟩ p1,by rw [qI,qI,p2],.cons rb p3⟩
def boot_dict:wg "dict" = some (.type "dict"):=by kernel_rfl
def a3o (i:Nat) (f:EF):SF:=λρ=>match f (frzAll ρ) with
 | some (.ok (.list ds))=>if ds.all rX then some (.nx (ρ.set i (.val (.list ds)))) else none
 | _=>none
theorem RepAll.plain {K:qC} {G G':Hp}:∀ {vs:List V} {ds:T0l},ds.all rX=true->RepAll K G vs ds->RepAll K G' vs ds
 | _,_,_,.nil=>.nil
 | _,_,h,.cons r t=>by
  rw [qz,qJ] at h;exact .cons (r.plain h.1) (RepAll.plain h.2 t)
variable {t:Tg}
section
variable {cap:T0e}
def b3N (i:Nat) {x:Str} (hN:X.N.Nodup) (hc:X.calm=true) (B:Blk X scope N' cap) (hi:DI X tg iter fi) (hf:a1x cap t=true) (hg:∀ C s3z H3z fp,DG (bV X scope N' C s3z H3z fp) tg t) (ht:∀ C s3z H3z fp,DTs (bV X scope N' C s3z H3z fp) ifs ft)
  (he:∀ C s3z H3z fp,DE (bV X scope N' C s3z H3z fp) elt fe)
  (hxi:X.N[i]?=some x:=by rfl) (hx:X.env.scope.names.lookup x=some .local:=by rfl)
  (hsw:wm (.ListComp elt [⟨tg,iter,ifs,0⟩] scope pos) (some (.Name x p)) spos.line X.env=pure true:=by rfl)
  (hs:∀ x,wj iter X.env x=pure x:=by intro _;rfl):DS X (.Assign [.Name x p] (.ListComp elt [⟨tg,iter,ifs,0⟩] scope pos) spos) (a3o i (eT t cap fi ft fe)):=⟨λpz s σ H D I ⟨ρ,o,H0,Gz,G,e,R,q⟩=>by
 unfold a3o at e;split at e
 ·rename_i ds0 e1
  split at e
  ·rename_i hpl
   cases (qB e);obtain ⟨G',s',R'⟩:=R.frzAll;rcases eV e1 with ⟨ds,e3,e4⟩ | ⟨c,_,e4⟩
   ·split at e4
    ·rename_i hz
     obtain ⟨d',ed,z⟩:=bL e4;cases z;obtain ⟨es,e5,z2⟩:=qO.mp ed;cases z2;obtain ⟨k1,rfl⟩:=nY e5;refine a4F (g:=gU X.K ds (λd=>d) (bY cap (frzAll ρ)) (cX t (bY cap (frzAll ρ)))) (tc:=tU X.K ds (cX t (bY cap (frzAll ρ))) (cT t (bY cap (frzAll ρ)) ft)) (te:=eU X.K ds (cX t (bY cap (frzAll ρ))) (cT t (bY cap (frzAll ρ)) ft) (cV t (bY cap (frzAll ρ)) fe)) hN hxi hx hc B (hi.pid e3).run
      (λC s3z H3z fp pz s σ H v u Q I r ⟨x,hx,q⟩=>((hg C s3z H3z fp).run _ _ _ (k1 x hx).1).run pz s σ H v u Q I r q)
      (λC s3z H3z fp pz s σ H Q I ⟨x,hx,q⟩=>((ht C s3z H3z fp).run _ _ (k1 x hx).2.1).run pz s σ H Q I q)
      (λC s3z H3z fp pz s σ H Q I ⟨x,hx,hcx,H0,Gz,G,R,q⟩=>((he C s3z H3z fp).pd ((k1 x hx).2.2 hcx)).run H0 Gz G pz s σ H Q I R q) hsw hs pz s σ H D I ?_
     refine ⟨H0,Gz,G',R',λJ G1 H1 g wk=>yM (φ:=λd=>d) (R'.more g) (by simpa using wk) (.refl _) (λx hx=>a1i hf (k1 x hx).1) (iV hz) λDd ys G2 H2 g2 hD hn ra=>?_⟩;have gt:=g.trans g2;have hH:H Dd=none:=by
      cases hq:H Dd with
      | none=>rfl
      | some o=>obtain ⟨o',e'⟩:=g.hh.ne hq;rw [e'] at hn;cases hn
     have hG:G Dd=none:=by
      cases hq:G Dd with
      | none=>rfl
      | some o=>rw [R.sub _ _ hq] at hH;cases hH
     have gr:Grow G H (upd G Dd (.lst ys)) H2:=⟨bF hG,gt.hh,λb o q=>by
      by_cases hb:b=Dd
      ·subst hb;rw [aG] at q;cases q;exact gt.sub _ _ hD
      ·rw [aE hb] at q;exact gt.sub _ _ (gt.gg _ _ (s' _ _ q)),λb e n=>by
      rw [aE (λz=>n (by rw [z];exact hH))];exact e,λn=>n.upd (by nofun)⟩
     exact q _ H2 _ gr.gg ((R.more gr).set (.list (.of aG) (RepAll.plain hpl ra)))
    ·cases e4
   ·cases e4
  ·cases e
 ·cases e⟩
end
def noD (i:Nat) (ρ:List Ent):Bool:=(qm ρ.length).all λj=>j==i || (match ρ[j]? with | some (.dct _)=>false | _=>true)
def b8C (h:noD i ρ=true):∀ (j:Nat) (ks:List (Key×j0)),ρ[j]?=some (.dct ks)->j=i:=λj ks hj=>by
 have:=qe.mp h j (jp.mpr (qS.mp hj).1);rw [hj] at this;simpa using this
def b5J (i:Nat):SF:=λρ=>if noD i ρ then some (.nx (ρ.set i (.dct []))) else none
def a0H (kvs:List (Key×j0)) (k:Key) (d:j0):List (Key×j0):=
 if (kvs.any λkv=>decide (kv.1=k))=true then kvs.map (λkv=>if kv.1=k then (kv.1,d) else kv) else kvs++[(k,d)]
def a3v (i:Nat) (fk fv:EF):SF:=λρ=>match ρ[i]? with
 | some (.dct kvs)=>bns (fv ρ) ρ λd=>bns (fk ρ) ρ λk=>(match oG k with
  | some k=>if eF kvs.length then some (.nx (ρ.set i (.dct (a0H kvs k d)))) else none
  | none=>none)
 | _=>none
theorem a6T {β γ:Type} {k:Key}:∀ {vs:List (Key×β)} {kvs:List (Key×γ)},vs.map (·.1)=kvs.map (·.1)->(vs.any λkv=>decide (kv.1=k))=kvs.any λkv=>decide (kv.1=k)
 | [],[],_=>rfl
 | [],_::_,h=>by simp at h
 | _::_,[],h=>by simp at h
 | a::vs,b::kvs,h=>by
  rw [qI,qI,kU] at h;rw [kY,kY,a6T h.2,h.1]
theorem eW.repl {K:qC} {G:Hp} {k:Key} {v:V} {d:j0} (r:Rep K G v d):∀ {vs:List (Key×V)} {kvs:List (Key×j0)},eW K G vs kvs->eW K G (vs.map λkv=>if kv.1=k then (kv.1,v) else kv) (kvs.map λkv=>if kv.1=k then (kv.1,d) else kv)
 | [],[],h=>h
 | [],_::_,h=>by have:=h.1;simp at this
 | _::_,[],h=>by have:=h.1;simp at this
 | a::vs,b::kvs,⟨h1,h2⟩=>by
  rw [qI,qI,kU] at h1;rw [qI,qI] at h2;cases h2 with
  | cons ra rr=>
   obtain ⟨i1,i2⟩:=eW.repl (k:=k) r (vs:=vs) (kvs:=kvs) ⟨h1.2,rr⟩;by_cases c:b.1=k
   ·have c':a.1=k:=h1.1.trans c
    refine ⟨?_,?_⟩
    ·simp only [qI,if_pos c,if_pos c',i1,h1.1]
    ·simp only [qI,if_pos c,if_pos c']
     exact .cons r i2
   ·have c':¬a.1=k:=λz=>c (h1.1.symm.trans z)
    refine ⟨?_,?_⟩
    ·simp only [qI,if_neg c,if_neg c',i1,h1.1]
    ·simp only [qI,if_neg c,if_neg c']
     exact .cons ra i2
variable {vs:List (Key×V)} {kvs:List (Key×j0)}
theorem eW.put {K:qC} (h:eW K G vs kvs) (r:Rep K G v d):eW K G (putK vs k v) (a0H kvs k d):=by
 unfold putK a0H;rw [a6T h.1];split
 ·exact eW.repl r h
 ·refine ⟨by rw [qc,qc,h.1];rfl,?_⟩
  rw [qc,qc];exact h.2.append (.cons r .nil)
theorem eW.len {K:qC} (h:eW K G vs kvs):vs.length=kvs.length:=by
 have:=congrArg zV h.1;simpa using this
variable {o f:Expr} {fd:EF}
def a9o (i:Nat) {x:Str} (hN:X.N.Nodup) (hi:X.N[i]?=some x:=by rfl) (hx:Loc X.env.scope x:=by first | exact jw rfl | exact jP rfl)
  (hs:wm (.Dict [] [] p2) (some (.Name x p)) pos.line X.env=pure false:=by rfl) (hf:X.fn x=true\/X.env.scope.names.lookup x=some .local:=by first | exact .inl rfl | exact .inr rfl):
  DS X (.Assign [.Name x p] (.Dict [] [] p2) pos) (b5J i):=⟨λpz s σ H D I ⟨ρ,o,H0,Gz,G,e,R,q⟩=>yU hN hi hx b2s hs hf pz s σ H D I (by
 unfold b5J at e;split at e
 ·rename_i hz
  cases (qB e);exact λa ha=>q G _ _ (.refl _) (R.freshD ha (b8C hz) ⟨rfl,.nil⟩)
 ·cases e)⟩
def b6B (i:Nat) {x:Str} (hu:X.A.units+64<cLine) (hv:DE X e fv) (hk:DE X kx fk) (hN:X.N[i]?=some x:=by rfl)
  (hvi:Vis X.env.scope x:=by first | exact jw rfl | exact jP (jw rfl) | exact jP (jP rfl)) (hd:(x==("__debug__" : Str))=false:=by decide) (hcd:(x==("__classdict__" : Str))=false:=by decide)
  (hs:wm e (some (.Subscript (.Name x xp) kx kp)) pos.line X.env=pure false:=by rfl):
  DS X (.Assign [.Subscript (.Name x xp) kx kp] e pos) (a3v i fk fv):=⟨λpz s σ H D I ⟨ρ,o,H0,Gz,G,ef,R,q⟩=>
 b5c (by omega) (dR hN hvi hd hcd) hk.run hv.run hs pz s σ H D I (by
  unfold a3v at ef;split at ef
  ·rename_i kvs hi
   obtain ⟨a,vs,e1,_⟩:=R.ownD hi;refine sE R ef q λd v G1 H1 g1 R1 rv e2 q1=>⟨.ref a,e1,sE R1 e2 q1 λk u G2 H2 g2 R2 ru e3 q2=>?_⟩;split at e3
   ·rename_i key hk'
    split at e3
    ·rename_i hz
     cases (qB e3);obtain ⟨a',vs',e1',h1,h2,h3,r⟩:=R2.ownD hi;rw [e1] at e1';cases e1';rw [a1s hk'] at ru;cases a4D ru;exact ⟨a,_,rfl,.inl ⟨vs',key,h1,rfl,by rw [r.len];exact a8v hz,rfl⟩,q2 G2 _ σ (.refl _) (R2.wroteD hi e1 (r.put (rv.mono g2.gg)))⟩
    ·cases e3
   ·cases e3
  ·cases ef)⟩
def b9B {α β:Type} {m:Mm α} {a:α} {k:α->Mm β} (h:m=some (.ok a)):bnd m k=k a:=by rw [h];rfl
def bP {α:Type} {m:Mm α} {a:α} {k:α->Option So} (h:m=some (.ok a)):bns m ρ k=k a:=by rw [h];rfl
theorem a3J {α:Type} {t:Tg} {ρb:List Ent} {ft:TF} {fe:EF} (φ:α->j0) (ρx:α->List Ent) (c:α->Bool) (v:α->j0):∀ (xs:List α),(∀ x∈xs,tgD t ρb (φ x)=some (ρx x))->(∀ x∈xs,ft (ρx x)=some (.ok (c x)))->(∀ x∈xs,c x=true->fe (ρx x)=some (.ok (v x))) ->
  tS t ρb ft fe (xs.map φ)=some ((xs.filter c).map v)
 | [],_,_,_=>rfl
 | x::xs,h1,h2,h3=>by
  have ih:=a3J φ ρx c v xs (λy hy=>h1 y (qF _ hy)) (λy hy=>h2 y (qF _ hy)) (λy hy=>h3 y (qF _ hy));have e1:=h1 x qY;have e2:=h2 x qY;rw [qI,tS,e1];dsimp only;rw [e2];cases hc:c x with
  | true=>
   have e3:=h3 x qY hc;dsimp only;rw [e3];dsimp only;rw [ih,qZ hc];rfl
  | false=>
   dsimp only;rw [ih,qd (by rw [hc];decide)]
def fC {α:Type} {cap:T0e} (φ:α->j0) (ρx:α->List Ent) (c:α->Bool) (v:α->j0) (xs:List α) (hi:fi ρ=some (.ok (xs.map φ))) (hz:xs.length<=100000)
  (h1:∀ x∈xs,tgD t (bY cap ρ) (φ x)=some (ρx x)) (h2:∀ x∈xs,ft (ρx x)=some (.ok (c x))) (h3:∀ x∈xs,c x=true->fe (ρx x)=some (.ok (v x))):
  eT t cap fi ft fe ρ=some (.ok (.list ((xs.filter c).map v))):=by
 unfold eT;rw [b9B hi,qE,if_pos (by unfold eF;exact decide_eq_true hz),a3J φ ρx c v xs h1 h2 h3];rfl
def filter_all {α:Type} {c:α->Bool} {xs:List α} (h:∀ x∈xs,c x=true):xs.filter c=xs:=List.filter_eq_self.mpr h
def dX {α:Type} {cap:T0e} (φ:α->j0) (ρx:α->List Ent) (v:α->j0) (xs:List α) (hi:fi ρ=some (.ok (xs.map φ))) (hz:xs.length<=100000)
  (h1:∀ x∈xs,tgD t (bY cap ρ) (φ x)=some (ρx x)) (h3:∀ x∈xs,fe (ρx x)=some (.ok (v x))):
  eT t cap fi ttT fe ρ=some (.ok (.list (xs.map v))):=by
 rw [fC φ ρx (λ_=>true) v xs hi hz h1 (λ_ _=>rfl) (λx hx _=>h3 x hx),filter_all (λ_ _=>rfl)]
variable {g:SF}
section
variable {α β:Type} {e:j0} {i j k:Int}
@[simp] theorem iX (a:α) (k:α->Mm β):bnd (some (.ok a)) k=k a:=rfl
@[simp] theorem c3f (c:Str) (k:α->Mm β):bnd (some (.ex c)) k=some (.ex c):=rfl
@[simp] theorem a4i (a:α) (k:α->Option So):bns (some (.ok a)) ρ k=k a:=rfl
@[simp] theorem c3e (c:Str) (k:α->Option So):bns (some (.ex c)) ρ k=some (.xc c ρ):=rfl
@[simp] theorem b7m (a:α):lft (some a)=some (.ok a):=rfl
@[simp] theorem c1h:cst d ρ=some (.ok d):=rfl
@[simp] theorem b9P (d:j0) (r:List Ent):var 0 (.val d::r)=some (.ok d):=rfl
@[simp] theorem b9O (n:Nat) (x:Ent) (r:List Ent):var (n+1) (x::r)=var n r:=rfl
@[simp] theorem b2z (g:j0->j0->Option j0):op2 g fa fb ρ=bnd (fa ρ) λx=>bnd (fb ρ) λy=>lft (g x y):=rfl
@[simp] theorem c0H (g:j0->Option j0):op1 g fa ρ=bnd (fa ρ) λx=>lft (g x):=rfl
@[simp] theorem b9I:aI ρ=some (.ok []):=rfl
@[simp] theorem dH:aC fa aa ρ=bnd (fa ρ) λx=>bnd (aa ρ) λxs=>some (.ok (x::xs)):=rfl
@[simp] theorem rN:dP aa ρ=bnd (aa ρ) λxs=>lft (a0I xs):=rfl
@[simp] theorem b8M:yZ aa ρ=bnd (aa ρ) λxs=>lft (a3D xs):=rfl
@[simp] theorem c1T (n:Nat):eF n=decide (n<=100000):=rfl
@[simp] theorem c1r (ds:T0l):a0I ds=if ds.length<=100000 then some (.tuple ds) else none:=by unfold a0I eF;by_cases h:ds.length<=100000<;>simp [h]
@[simp] theorem c1s (ds:T0l):a3D ds=if ds.length<=100000 then some (.list ds) else none:=by unfold a3D eF;by_cases h:ds.length<=100000<;>simp [h]
@[simp] theorem b4k (g:j0->j0->Option Bool):a8h g fa fb ρ=bnd (fa ρ) λx=>bnd (fb ρ) λy=>lft ((g x y).map .bool):=rfl
@[simp] theorem b9A (g:j0->j0->Option Bool):iC g fa fb ρ=bnd (fa ρ) λx=>bnd (fb ρ) λy=>lft (g x y):=rfl
theorem xM (t u:Bool):(if t=true then (some (Re.ok u):Mm Bool) else some (.ok false))=some (.ok (t&&u)):=by cases t<;>rfl
@[simp] theorem c2D (g g':j0->j0->Option Bool):c2E g g' fa fb fc ρ=bnd (fa ρ) λx=>bnd (fb ρ) λy=>bnd (lft (g x y)) λt=>if t then bnd (fc ρ) λz=>lft ((g' y z).map .bool) else some (.ok (.bool false)):=rfl
@[simp] theorem c2C (g g':j0->j0->Option Bool):b4m g g' fa fb fc ρ=bnd (fa ρ) λx=>bnd (fb ρ) λy=>bnd (lft (g x y)) λt=>if t then bnd (fc ρ) λz=>lft (g' y z) else some (.ok false):=rfl
@[simp] theorem yL:tO fa ρ=bnd (fa ρ) λx=>lft (a2X x):=rfl
@[simp] theorem c1A (b:Bool):a2X (.bool b)=some b:=rfl
@[simp] theorem c1y (ds:T0l):a2X (.list ds)=some (!ds.isEmpty):=rfl
@[simp] theorem c1w (ds:T0l):a2X (.tuple ds)=some (!ds.isEmpty):=rfl
@[simp] theorem c1z (i:Int):a2X (.int i)=some (i != 0):=rfl
@[simp] theorem c1x:a2X .none=some false:=rfl
@[simp] theorem b8y:b5G ft ρ=bnd (ft ρ) λt=>some (.ok (!t)):=rfl
@[simp] theorem b8z:b5H fa ρ=bnd (fa ρ) λx=>lft ((oH x).map λt=>.bool (!t)):=rfl
@[simp] theorem c1v (b:Bool):oH (.bool b)=some b:=rfl
@[simp] theorem c2u (i:Int):intD (.int i)=some i:=rfl
@[simp] theorem c1W (i:Str):a2Z (.str i)=some i:=rfl
@[simp] theorem a5v:a6U ft fu ρ=bnd (ft ρ) λt=>if t then fu ρ else some (.ok false):=rfl
@[simp] theorem c0C:orT ft fu ρ=bnd (ft ρ) λt=>if t then some (.ok true) else fu ρ:=rfl
@[simp] theorem c2I:b9F fa fb ρ=bnd (fa ρ) λx=>bnd (lft (oH x)) λt=>if t then fb ρ else some (.ok (.bool false)):=rfl
@[simp] theorem c2Q:orE fa fb ρ=bnd (fa ρ) λx=>bnd (lft (oH x)) λt=>if t then some (.ok (.bool true)) else fb ρ:=rfl
@[simp] theorem c0V:ifE ft fa fb ρ=bnd (ft ρ) λt=>if t then fa ρ else fb ρ:=rfl
@[simp] theorem b4u (g:List j0->Option j0):dG g aa ρ=bnd (aa ρ) λxs=>lft (g xs):=rfl
@[simp] theorem b6R (F:List j0->Mm j0):aQ F aa ρ=bnd (aa ρ) λds=>(match F ds with | some (.ok d)=>some (.ok d) | _=>none):=rfl
@[simp] theorem uU:fF (.int i) (.int j)=some (.int (i+j)):=rfl
@[simp] theorem c1U:c1V (.int i) (.int j)=some (.int (i - j)):=rfl
@[simp] theorem c0I:b5K (.int i)=some (.int (-i)):=rfl
@[simp] theorem b4x (a b:T0l):fF (.tuple a) (.tuple b)=if a.length+b.length<=100000 then some (.tuple (a++b)) else none:=by
 show (if eF (a.length+b.length)=true then _ else _)=_;by_cases h:a.length+b.length<=100000<;>simp [h]
@[simp] theorem b9H (a b:T0l):fF (.list a) (.list b)=if a.length+b.length<=100000 then some (.list (a++b)) else none:=by
 show (if eF (a.length+b.length)=true then _ else _)=_;by_cases h:a.length+b.length<=100000<;>simp [h]
@[simp] theorem c2T:ltD (.int i) (.int j)=some (decide (i<j)):=rfl
@[simp] theorem c0P:leD (.int i) (.int j)=some (decide (i<=j)):=rfl
@[simp] theorem c3a:gtD (.int i) (.int j)=some (decide (j<i)):=rfl
@[simp] theorem c3b:geD (.int i) (.int j)=some (decide (j<=i)):=rfl
@[simp] theorem b7t:eqD (.int i) (.int j)=some (decide (i=j)):=rfl
@[simp] theorem c2R:neD (.int i) (.int j)=some (!decide (i=j)):=rfl
@[simp] theorem c3c (a b:Str):eqD (.str a) (.str b)=some (decide (a=b)):=rfl
@[simp] theorem c0J (a b:Str):neD (.str a) (.str b)=some (!decide (a=b)):=rfl
@[simp] theorem c3d (a b:Bool):eqD (.bool a) (.bool b)=some (decide (a=b)):=rfl
@[simp] theorem c2S (a b:Bool):neD (.bool a) (.bool b)=some (!decide (a=b)):=rfl
@[simp] theorem b8I:a7C (.int i) (.int j)=if 0<j then some (.int (i % j)) else none:=rfl
@[simp] theorem c2A:b6r (.int i) (.int j)=if 0<j/\j<1073741824 then some (.int (i / j)) else none:=rfl
theorem a4N (h1:-(2 ^ 64)<j) (h2:j<2 ^ 64):yY (.int i) (.int j)=some (.int (i*j)):=by
 show (if (mV i || mV j)=true then _ else _)=_;rw [if_pos];simp [mV];right;omega
def a8P (h1:-(2 ^ 64)<i) (h2:i<2 ^ 64):yY (.int i) (.int j)=some (.int (i*j)):=by
 show (if (mV i || mV j)=true then _ else _)=_;rw [if_pos];simp [mV];left;omega
@[simp] theorem b7n (xs:T0l):iQ [.list xs]=some (.int xs.length):=rfl
@[simp] theorem b2R (xs:T0l):iQ [.tuple xs]=some (.int xs.length):=rfl
@[simp] theorem b8J:b0k [.int i,.int j]=some (.int (max i j)):=rfl
@[simp] theorem c2i:a7F [.int i,.int j]=some (.int (min i j)):=rfl
@[simp] theorem b9T (xs:T0l):a7i [.list xs]=some (.tuple xs):=rfl
@[simp] theorem c2P (xs:T0l):a7i [.tuple xs]=some (.tuple xs):=rfl
@[simp] theorem c2V (xs:T0l):c0O [.list xs]=some (.list xs):=rfl
@[simp] theorem c2U (xs:T0l):c0O [.tuple xs]=some (.list xs):=rfl
@[simp] theorem c2Z (b:Bool):c2v [.bool b]=some (.int (if b then 1 else 0)):=rfl
@[simp] theorem b1P:fU fa ρ=bnd (fa ρ) λx=>lft (a1a x):=rfl
@[simp] theorem c1Z (ds:T0l):a1a (.list ds)=some ds:=rfl
@[simp] theorem c1Y (ds:T0l):a1a (.tuple ds)=some ds:=rfl
@[simp] theorem c2W (ds:T0l):ixD (.tuple ds) (.int i)=atI ds i:=rfl
@[simp] theorem c2X (ds:T0l):ixD (.list ds) (.int i)=atI ds i:=rfl
theorem b9E {xs:List α} (n:Nat):atI xs (n:Int)=xs[n]?:=by
 unfold atI ixN;rw [if_pos (by omega)];by_cases h:n<xs.length
 ·rw [if_pos (by omega)];simp
 ·rw [if_neg (by omega)];rw [qb (by omega)];rfl
@[simp] theorem c2H (a:α) (r:List α):atI (a::r) 0=some a:=by
 unfold atI ixN;rw [if_pos (by decide),if_pos (by simp<;>omega)];rfl
@[simp] theorem c3k (a b:α) (r:List α):atI (a::b::r) 1=some b:=by
 unfold atI ixN;rw [if_pos (by decide),if_pos (by simp<;>omega)];rfl
@[simp] theorem c3j (a b c:α) (r:List α):atI (a::b::c::r) 2=some c:=by
 unfold atI ixN;rw [if_pos (by decide),if_pos (by simp<;>omega)];rfl
@[simp] theorem c3i (a b c d:α) (r:List α):atI (a::b::c::d::r) 3=some d:=by
 unfold atI ixN;rw [if_pos (by decide),if_pos (by simp<;>omega)];rfl
@[simp] theorem c2h:iB ρ=some (.nx ρ):=rfl
@[simp] theorem cF:retS fa ρ=bns (fa ρ) ρ λd=>some (.rt d):=rfl
@[simp] theorem c1t:c1b fa ρ=bns (fa ρ) ρ λ_=>some (.nx ρ):=rfl
@[simp] theorem eI (i:Nat):fT i fa ρ=bns (fa ρ) ρ λd=>some (.nx (ρ.set i (.val d))):=rfl
@[simp] theorem b1p (t:Tg):b1q t fa ρ=bns (fa ρ) ρ λd=>(tgD t ρ d).map So.nx:=rfl
@[simp] theorem mS (f g:SF):ifS ft f g ρ=bns (ft ρ) ρ λt=>if t then f ρ else g ρ:=rfl
@[simp] theorem pG (t:Tg) (fb:SF):tP t aa fb ρ=bns (aa ρ) ρ λds=>bX t fb ds ρ:=rfl
@[simp] theorem b8F (i:Nat):a5X i aa ρ=bns (aa ρ) ρ λds=>if ds.length<=100000 then some (.nx (ρ.set i (.lst ds))) else none:=by
 unfold a5X eF;cases aa ρ with
 | none=>rfl
 | some r=>cases r with
  | ok ds=>by_cases h:ds.length<=100000<;>simp [bns,h]
  | ex c=>rfl
def aM {f:SF} (h:f ρ=some (.nx ρ')):aZ f g ρ=g ρ':=by unfold aZ;rw [h]
def gK {f:SF} (h:f ρ=some (.rt d)):aZ f g ρ=some (.rt d):=by unfold aZ;rw [h]
@[simp] theorem b9U (i:Nat):tgD (.nm i) ρ d=some (ρ.set i (.val d)):=rfl
@[simp] theorem c1E (i j:Nat) (a b:j0):tgD (.tp [i,j]) ρ (.tuple [a,b])=some ((ρ.set i (.val a)).set j (.val b)):=rfl
@[simp] theorem c1D (i j k:Nat) (a b c:j0):tgD (.tp [i,j,k]) ρ (.tuple [a,b,c])=some (((ρ.set i (.val a)).set j (.val b)).set k (.val c)):=rfl
@[simp] theorem c1C (i j k l:Nat) (a b c d:j0):tgD (.tp [i,j,k,l]) ρ (.tuple [a,b,c,d])=some ((((ρ.set i (.val a)).set j (.val b)).set k (.val c)).set l (.val d)):=rfl
end
def yD (h:ρ[i]?=some (.lst ds)) (ha:fa ρ=some (.ok d)) (hz:ds.length<=100000):a0w i fa ρ=some (.nx (ρ.set i (.lst (ds++[d])))):=by
 unfold a0w;rw [h];dsimp only;rw [bP ha,if_pos (by unfold eF;exact decide_eq_true hz)]
end L2.L3
namespace L2.L3
open PySem PySem.W PyProof.Rows
section
variable {x:Str}
def dfE (g:j0->j0->Option j0) (fa fb:EF):EF:=λρ=>match fa ρ,fb ρ with
 | some (.ok x),some (.ok y)=>lft (g x y)
 | _,_=>none
def b4g {a:Expr} (hc:X.calm=true) (hm:X.mg "max" = none) (ha:DE X a fa) (hb:DE X b fb) (he:j4 [a] X.env=(false,eval a X.env)::j4 [] X.env:=by rfl)
  (he':v0 pos (j4 [a] X.env)=(false,eval a X.env)::v0 pos (j4 [] X.env):=by rfl) (hpl:(v0 pos (j4 [a] X.env)).any (·.1)=false:=by rfl)
  (hk1:(yq pos (wu [⟨some "default", b,kp⟩] X.env)).filterMap (·.1)=[qx "default"]:=by rfl) (hg:Gl X "max":=by rfl):
  DE X (.Call (.Name "max" p) [a] [⟨some "default", b,kp⟩] pos) (dfE a6a fa fb):=a4e λρ r e=>by
 unfold dfE at e;split at e
 ·rename_i x y ea eb
  obtain ⟨d,ed,rfl⟩:=bL e;refine ⟨d,rfl,?_⟩;unfold a6a at ed;split at ed
  ·rename_i xs
   split at ed
   ·rename_i ei
    have hx:=fE (g:=jX) (λd a q=>tJ q) ei;subst hx;have key:=a8K (p:=p) (ns:=[]) hc hm (ha.pd ea) (hb.pd eb) he he' hpl hk1 hg;cases (qB ed);exact key
   ·rename_i n ns ei
    have hx:=fE (g:=jX) (λd a q=>tJ q) ei;subst hx;have key:=a8K (p:=p) (ns:=n::ns) hc hm (ha.pd ea) (hb.pd eb) he he' hpl hk1 hg;cases (qB ed);rw [if_neg (by simp)] at key;exact key
   ·cases ed
  ·cases ed
 ·cases e
end
def b7x {g:j0->j0->Option j0} {x y:j0} (ha:fa ρ=some (.ok x)) (hb:fb ρ=some (.ok y)) (h:g x y=some d):dfE g fa fb ρ=some (.ok d):=by
 unfold dfE;rw [ha,hb];dsimp only;rw [h];rfl
end L2.L3
namespace L2.L3
open PySem PySem.Spec PyProof.Rows
variable {o:Expr}
section
variable {fo:EF}
end
section
variable {a f:Expr} {fd:EF}
end
end L2.L3
namespace L2.L3
open PySem PySem.Spec PyProof.Rows PySem.Calls
def yO (x y:j0):Option Bool:=match x,y with
 | .dict D,.list ys=>(match fK a2Z (D.map (·.1)),fK a2Z ys with
  | some ks,some ns=>if ks.length<64/\ns.length<64 then some (!(decide (ks.length=(uT ns).length)&&ks.all λk=>decide (k∈uT ns))) else none
  | _,_=>none)
 | _,_=>none
def dfT (g:j0->j0->Option Bool) (fa fb:EF):TF:=λρ=>match fa ρ,fb ρ with
 | some (.ok x),some (.ok y)=>lft (g x y)
 | _,_=>none
def a5Z (k:Key) (v:Value) (h:(aW P w).is k v=true):v.scannable=true:=by
 rw [a7D] at h;rcases cA h with ⟨i,t,rfl,rfl⟩ | ⟨x,t,rfl,rfl⟩<;>rfl
theorem a6x:∀ (ns acc:T0q),(ns.map (jZ:Str->Key)).foldl SX.addK (acc.map jZ)=(ns.foldl (λa n=>if n∈a then a else a++[n]) acc).map jZ
 | [],acc=>rfl
 | n::ns,acc=>by
  rw [qI,jt,jt];have e:SX.addK (acc.map (jZ:Str->Key)) (jZ n)=(if n∈acc then acc else acc++[n]).map jZ:=by
   unfold SX.addK;have:(jZ n:Key)∈acc.map jZ↔n∈acc:=⟨λh=>by obtain ⟨m,hm,e⟩:=qU.mp h;rw [<-vL e];exact hm,λh=>qU.mpr ⟨n,h,rfl⟩⟩;by_cases c:n∈acc
   ·rw [if_pos (this.mpr c),if_pos c]
   ·rw [if_neg (λz=>c (this.mp z)),if_neg c,qc];rfl
  rw [e];exact a6x ns _
def b5R (ns:T0q):SX.metK (λi=>(jZ (ns.getD i ""):Key)) ns.length=(uT ns).map jZ:=by
 unfold SX.metK;have:(qm ns.length).map (λi=>(jZ (ns.getD i ""):Key))=ns.map jZ:=by
  refine jT λi=>?_;rw [qQ,qQ];by_cases h:i<ns.length
  ·rw [zH h,qK h];simp [h]
  ·rw [qb (by simp;omega),qb (by omega)];rfl
 rw [this];exact a6x ns []
theorem a6m:∀ {kvs:List (Key×V)} {ks:T0q},(kvs.map λp=>eC p.1)=ks.map .str->kvs.map (·.1)=ks.map (jZ:Str->Key)
 | [],[],_=>rfl
 | [],_::_,h=>by simp at h
 | _::_,[],h=>by simp at h
 | p::kvs,k::ks,h=>by
  rw [qI,qI,kU] at h;rw [qI,qI,a6m h.2];congr 1;cases e:p.1 with
  | inl i=>rw [e] at h;cases h.1
  | inr x=>rw [e] at h;cases h.1;rfl
theorem a8Y:∀ {kvs:List (Key×V)} {vs:List (Key×Value)},KV kvs vs->vs.map (·.1)=kvs.map (·.1)
 | [],_,r=>by cases r;rfl
 | p::kvs,_,r=>by
  cases r with
  | cons h t=>rw [qI,qI,a8Y t,h.1]
def b6Y {K:Type} [DecidableEq K] (f:Str->K) (inj:∀ a b,f a=f b->a=b) (ks ns:T0q):(decide ((ks.map f).length=(ns.map f).length)&&(ks.map f).all λk=>decide (k∈ns.map f))=(decide (ks.length=ns.length)&&ks.all λk=>decide (k∈ns)):=by
 rw [qE,qE,List.all_map];congr 2
 funext k
 have:f k∈ns.map f↔k∈ns:=⟨λh=>by obtain ⟨m,hm,e⟩:=qU.mp h;rw [<-inj _ _ e];exact hm,λh=>qU.mpr ⟨k,h,rfl⟩⟩;by_cases c:k∈ns
 ·rw [decide_eq_true c];exact decide_eq_true (this.mpr c)
 ·rw [decide_eq_false c];exact decide_eq_false λz=>c (this.mp z)
section
variable {e1 e2:Expr} {p1 q1 q2:Pos}
def b3M (hc:X.calm=true) (hu:X.A.units+64<cLine) (m:X.mg "set" = none) (ha:DE X e1 fa) (hb:DE X e2 fb) (hg:Gl X "set":=by rfl)
  (he1:j4 [e1] X.env=(false,eval e1 X.env)::j4 [] X.env:=by rfl) (he2:j4 [e2] X.env=(false,eval e2 X.env)::j4 [] X.env:=by rfl) (hpl:∀ q,(v0 q (j4 [] X.env)).any (·.1)=false:=by exact λ_=>rfl) (hm:ww .NotEq (.Call (.Name "set" p2) [e2] [] q2)=false:=by rfl):
  DT X (.Compare (.Call (.Name "set" p1) [e1] [] q1) [.NotEq] [.Call (.Name "set" p2) [e2] [] q2] pos) (dfT yO fa fb):=⟨λpz s σ H Q I ⟨ρ,r,H0,Gz,G,ef,R,q⟩=>by
 unfold dfT at ef;split at ef
 ·rename_i x y ea eb
  obtain ⟨t,et,rfl⟩:=bL ef;unfold yO at et;split at et
  ·rename_i D ys
   split at et
   ·rename_i ks ns hks hns
    split at et
    ·rename_i hz
     cases (qB et);have ey:=fE (g:=kj) (λd a q=>a1k q) hns;have ex:=fE (g:=kj) (λd a q=>a1k q) hks;subst ey;refine ut (k6 (iG I hg m boot_set ?_)) hm;refine callWith_type1 (thn ((gQ (ha.pd ea) mO he1).run H0 Gz G q1 pz s σ H (λvs H1=>∃ G1,Grow G H G1 H1/\RepAll X.K G1 vs [.dict D]) I R (λvs G1 H1 g1 rv=>⟨G1,g1,rv⟩)) λus s1 ⟨vs,H1,I1,r1,G1,g1,rv⟩=>?_) he1 (hpl _);cases rv with
     | cons rv rr=>
     cases rr;cases rv with
     | fil _ _=>cases hks
     | dict hq e0 rd=>
      rename_i a kvs;obtain ⟨u,rfl,rx⟩:=vals1 r1;cases rx;obtain ⟨z,lo,vs',rel,dd⟩:=a9q I1.hok (mM g1.sub hq);have ek:kvs.map (·.1)=ks.map (jZ:Str->Key):=a6m (by rw [<-ex,<-e0]);have ek':vs'.map (·.1)=ks.map (jZ:Str->Key):=(a8Y rel).trans ek;have lk:vs'.length=ks.length:=by have:=congrArg zV ek';simpa using this
      refine SX.set_ofD (knd:=aW X.prog X.w) dd lo a5Z (by omega) λh' tk g kp=>?_;rw [ek'] at g;have I2:Inv X pz σ H1 { s1 with heap:=h',toks:=tk }:=I1.kept λb o z=>kp b o (qM z) z;obtain ⟨o1,es1,ep1,t1,ho1,hx1,hd1,_⟩:=id g.ex
      have I3:Inv X (pz++uJ [s1.heap.objs.size] h') σ H1 { s1 with heap:=h',toks:=tk }:=I2.pinned (λb hb=>by
       rw [qL.mp hb];exact I1.fpOk (qN _) (I1.hok.fresh (qN _))) (λb hb=>by
       rw [qL.mp hb]
       exact ⟨o1,ho1,λv z=>by rw [hd1] at z;cases z⟩)
      refine k6 (iG I3 hg m boot_set ?_);refine callWith_type1 (thn ((gQ (hb.pd eb) mO he2).run H0 Gz G1 q2 (pz++uJ [s1.heap.objs.size] h') _ σ H1 (λvs H2=>∃ G2,Grow G1 H1 G2 H2/\RepAll X.K G2 vs [.list (ns.map .str)]) I3 (R.more g1) (λvs G2 H2 g2 rv=>⟨G2,g2,rv⟩)) λus s3 ⟨vs,H2,I4,r2,G2,g2,rv2⟩=>?_) he2 (hpl _);cases rv2 with
      | cons rv2 rr2=>
      cases rr2;cases rv2 with
      | list hq2 ra2=>
       have e5:=ra2.strs;subst e5;obtain ⟨u,rfl,rx⟩:=vals1 r2;cases rx;obtain ⟨its,rvl,pl,hzl⟩:=I4.list (g2.sub.seq hq2);have hi:=a1D rvl;have hl:its.length=ns.length:=a0E hi;have hsz:its.toArray.size=ns.length:=by rw [qR,hl]
       refine SX.set_of (knd:=aW X.prog X.w) (val:=λi=>jZ (ns.getD i "")) (I4.ok.hd hc) pl.isList (λi v e=>?_) (λi v A' E' s' Q' e q'=>?_) ?_ λh2 tk2 gb kp2=>?_
       ·obtain ⟨t,rfl⟩:=a8w hi i v (by simpa using e)
        exact ⟨mP _ _ _ _,rfl⟩
       ·obtain ⟨t,rfl⟩:=a8w hi i v (by simpa using e)
        exact (aW X.prog X.w).pyHash (k:=jZ (ns.getD i "")) (mP _ _ _ _) q'
       ·rw [hsz];exact zM (Nat.succ_le_of_lt hz.2) (by decide)
       ·rw [hsz,b5R] at gb
        have pin1:s3.heap.get? s1.heap.objs.size=some o1:=(I4.pin _ (qo _ (qo _ (lR qY ho1)))).1;have ga:SX.Good (aW X.prog X.w) h2 s1.heap.objs.size (ks.map jZ) (SX.ledOf X.w):=g.keeps λo eo=>by
         rw [ho1] at eo;cases eo;exact kp2 _ _ (qM pin1) pin1
        have I5:Inv X pz σ H2 { s3 with heap:=h2,toks:=tk2 }:=(I4.unpinned).kept λb o z=>kp2 b o (qM z) z;show wpAny _ _ (richCompare .NotEq (.ref s1.heap.objs.size) (.ref s3.heap.objs.size)) _ _ _;refine SX.sets_ne ga gb a5Z (by omega) ?_;refine v9 ⟨H2,I5,?_⟩;rw [b6Y (jZ:Str->Key) (λa b h=>vL h)];exact q G2 H2 (g1.trans g2)
    ·cases et
   ·cases et
  ·cases et
 ·cases ef⟩
end
end L2.L3
namespace L2.L3
open PySem PySem.Spec PyProof.Rows
def a2u:j0->Bool
 | .none=>true
 | .bool _=>true
 | .int _=>true
 | .str _=>true
 | _=>false
def a3c (d:j0):Bool:=(oG d).isSome
def sI (Db:List (j0×j0)):List (j0×j0)->Bool
 | []=>true
 | p::r=>match Spec.lookup p.1 Db with
  | none=>false
  | some u=>p.2.eqv u&&sI Db r
def b3E (x y:j0):Option Bool:=match x,y with
 | .dict Da,.dict Db=>if (Da.all λp=>a3c p.1&&a2u p.2)&&(Db.all λp=>a3c p.1&&a2u p.2) then some (decide (Da.length=Db.length)&&sI Db Da) else none
 | _,_=>none
def b0f (x y:j0):Option Bool:=(b3E x y).map (!·)
theorem a0n (Db:List (j0×j0)):∀ Da,PySem.W.KeqRows Db Da (sI Db Da)
 | []=>.nil
 | (k,v)::r=>by
  unfold sI;cases h:Spec.lookup k Db with
  | none=>exact .miss h
  | some u=>exact .hit h (a0n Db r)
def b6n {K:qC} (hf:a2u d=true) (r:Rep K G v d) (ru:RelV v u):PyProof.V.Flat u d:=by
 cases r with
 | none=>cases ru;exact λh=>.none
 | bool b=>cases ru;exact λh=>.bool b
 | int i=>obtain ⟨t,rfl⟩:=ru;exact λh=>.int i t
 | str x=>obtain ⟨t,rfl⟩:=ru;exact λh=>.str x t
 | list _ _=>cases hf
 | tuple _ _=>cases hf
 | dict _ _ _=>cases hf
 | fil _ _=>cases hf
variable {vs:List (Key×Value)}
def a7V {K:qC} (p:KV kvs vs):∀ {D:List (j0×j0)},D.map (·.1)=kvs.map (λp=>eC p.1)->RepAll K G (kvs.map (·.2)) (D.map (·.2))->(D.all λp=>a3c p.1&&a2u p.2)=true->PyProof.V.FlatPairs eC vs D:=by
 unfold KV at p
 induction p with
 | nil=>
  intro D h _ _;cases D with
  | nil=>exact .nil
  | cons _ _=>cases h
 | @cons a b _ _ h1 t ih=>
  intro D h r f;cases D with
  | nil=>cases h
  | cons d D=>
   rw [qI,qI,kU] at h;rw [qz,qJ,qJ] at f;rw [qI,qI] at r;cases r with
   | cons r1 rr=>
    obtain ⟨k,v⟩:=a;obtain ⟨k',u⟩:=b;obtain ⟨d1,d2⟩:=d;have e1:d1=eC k:=h.1;have e2:k=k':=h1.1;subst e1 e2;exact .cons (b6n f.1.2 r1 h1.2) (ih h.2 rr f.2)
def a3r (a b:Key):Spec.same (eC a) (eC b)=decide (a=b):=by
 cases a<;>cases b<;>simp [eC,Spec.same]<;>(rw [kX];simp)
def c0m (K:qC) (neg:Bool) (Da Db:List (j0×j0)):R2:=λx y H Q=>∃ a b ka kb,x=.ref a/\y=.ref b/\Rd H a (.dK ka)/\Rd H b (.dK kb)/\(Da.map (·.1)=ka.map (λp=>eC p.1)/\RepAll K H (ka.map (·.2)) (Da.map (·.2))/\(Da.all λp=>a3c p.1&&a2u p.2)=true) /\
 (Db.map (·.1)=kb.map (λp=>eC p.1)/\RepAll K H (kb.map (·.2)) (Db.map (·.2))/\(Db.all λp=>a3c p.1&&a2u p.2)=true)/\Q (.bl (if neg then !(decide (Da.length=Db.length)&&sI Db Da) else decide (Da.length=Db.length)&&sI Db Da)) H
def a4t {ka:List (Key×V)} {D:List (j0×j0)} (I:Inv X pz σ H s) (h:Rd H a (.dK ka)) (e:D.map (·.1)=ka.map (λp=>eC p.1)) (r:RepAll X.K H (ka.map (·.2)) (D.map (·.2))) (f:(D.all λp=>a3c p.1&&a2u p.2)=true):TabAt (aW X.prog X.w) eC s.heap a D:=by
 obtain ⟨hz,hS,vs,kv,dd⟩:=(show bZ X.prog X.w H s.heap a (.dK ka) from h.ok I.hok);exact ⟨hS,vs,dd,a7V kv e r f⟩
def b8u (hu:X.A.units+64<cLine) (Da Db:List (j0×j0)):OpR X (wf .Eq) (c0m X.K false Da Db):=by
 intro pz s σ H x y v u Q I rx ry ⟨a,b,ka,kb,ex,ey,ha,hb,⟨a1,a2,a3⟩,⟨b1,b2,b3⟩,q⟩;subst ex ey;cases rx;cases ry;have ta:=a4t I ha a1 a2 a3;have tb:=a4t I hb b1 b2 b3;by_cases c:Da.length=Db.length
 ·exact PySem.W.keq_tabs a3r ta tb c (by omega) (a0n Db Da) ⟨.bl (sI Db Da),H,I,rfl,by rw [decide_eq_true c,vU] at q;exact q⟩
 ·exact PySem.W.keq_tabs_len ta tb (by simpa using c) (by omega) ⟨.bl false,H,I,rfl,by rw [decide_eq_false c,vv] at q;exact q⟩
def b8o (hu:X.A.units+64<cLine) (Da Db:List (j0×j0)):OpR X (wf .NotEq) (c0m X.K true Da Db):=by
 intro pz s σ H x y v u Q I rx ry ⟨a,b,ka,kb,ex,ey,ha,hb,⟨a1,a2,a3⟩,⟨b1,b2,b3⟩,q⟩;subst ex ey;cases rx;cases ry;have ta:=a4t I ha a1 a2 a3;have tb:=a4t I hb b1 b2 b3;by_cases c:Da.length=Db.length
 ·exact PySem.W.kne_tabs a3r ta tb c (by omega) (a0n Db Da) ⟨.bl (!sI Db Da),H,I,rfl,by rw [decide_eq_true c,vU] at q;exact q⟩
 ·exact PySem.W.kne_tabs_len ta tb (by simpa using c) (by omega) ⟨.bl true,H,I,rfl,by rw [decide_eq_false c,vv] at q;exact q⟩
def b9g (hu:X.A.units+64<cLine) (x y:j0) (t:Bool) (h:b3E x y=some t):CmpD X .Eq x y t:=by
 unfold b3E at h;split at h
 ·rename_i Da Db
  split at h
  ·rename_i hz
   rw [qJ] at hz;cases (qB h)
   exact ⟨_,b8u hu Da Db,λx y G H Q s rx ry q=>by
    cases rx with
    | dict h1 e1 r1=>
     cases ry with
     | dict h2 e2 r2=>exact ⟨_,_,_,_,rfl,rfl,mM s h1,mM s h2,⟨e1,r1.mono s,hz.1⟩,⟨e2,r2.mono s,hz.2⟩,q⟩
     | fil _ _=>exact absurd hz.2 (by simp [a3c,oG])
    | fil _ _=>exact absurd hz.1 (by simp [a3c,oG])⟩
  ·cases h
 ·cases h
def a4K (hu:X.A.units+64<cLine) (x y:j0) (t:Bool) (h:b0f x y=some t):CmpD X .NotEq x y t:=by
 unfold b0f at h;obtain ⟨t',h',et⟩:=qO.mp h
 clear h
 subst et;unfold b3E at h';split at h'
 ·rename_i Da Db
  split at h'
  ·rename_i hz
   rw [qJ] at hz;cases (qB h')
   exact ⟨_,b8o hu Da Db,λx y G H Q s rx ry q=>by
    cases rx with
    | dict h1 e1 r1=>
     cases ry with
     | dict h2 e2 r2=>exact ⟨_,_,_,_,rfl,rfl,mM s h1,mM s h2,⟨e1,r1.mono s,hz.1⟩,⟨e2,r2.mono s,hz.2⟩,q⟩
     | fil _ _=>exact absurd hz.2 (by simp [a3c,oG])
    | fil _ _=>exact absurd hz.1 (by simp [a3c,oG])⟩
  ·cases h'
 ·cases h'
variable {t:Tg}
section
variable {cap:T0e}
end
def a2i:List (j0×j0)->Option (List (Key×j0))
 | []=>some []
 | p::r=>match oG p.1,a2i r with
  | some k,some l=>some ((k,p.2)::l)
  | _,_=>none
theorem Inv.as (I:Inv X pz σ H s) (e:H a=some o) (h1:∀ xs,o≠.tup xs) (h2:∀ ob u,X.H₀ a≠some (.frz ob u)) (h3:∀ p,o≠.tbl p) (h4:∀ x,o≠.own x)
  (new:bZ X.prog X.w (upd H a o') s.heap a o'):Inv X pz σ (upd H a o') s:=by
 have ne:∀ b,H b=none->b≠a:=λb hb z=>by rw [z,e] at hb;cases hb
 have nu:∀ b,H b=none->upd H a o' b=none:=λb hb=>by rw [aE (ne b hb)];exact hb
 refine ⟨I.ok,I.os,I.bare,⟨I.base.keep,I.base.slot,λb ob q n hx=>nu b (I.base.free b ob q n hx),I.base.there,λb xs q=>?_,λb ob u q=>?_,λb ps q=>?_⟩,I.loc,I.cell,nu _ I.free,λx c q=>nu _ (I.freeC x c q),λp hp=>?_,λb u q=>?_,I.len⟩
 ·have z:=I.base.tups b xs q
  rw [aE (λy=>by rw [y,e] at z;exact h1 _ (qB z))];exact z
 ·rw [aE (λy=>h2 ob u (by rw [<-y];exact q))];exact I.base.frzs b ob u q
 ·obtain ⟨m,z⟩:=I.base.tbls b ps q
  exact ⟨m,by rw [aE (λy=>by rw [y,e] at z;exact h3 _ (qB z))];exact z⟩
 ·obtain ⟨e1,n,r⟩:=I.pin p hp
  exact ⟨e1,nu _ n,r⟩
 ·by_cases hb:b=a
  ·subst hb;rw [aG] at q;cases q;exact new
  ·rw [aE hb] at q
   refine (I.hok b u q).stay (λ_ _ _ z=>z) (λc z=>?_) λc xs z=>?_
   ·rw [aE (λy=>by rw [y,e] at z;exact h4 _ (qB z))];exact z
   ·rw [aE (λy=>by rw [y,e] at z;exact h1 _ (qB z))];exact z
noncomputable def Itv (a:Addr) (o:Obj) (kvs:List (Key×V)):It where
 go i H:=H a=some (.frz o (.dK kvs))/\i<kvs.length
 yld i H x H':=H'=H/\(kvs[i]?).map (·.2)=some x
 stop i H:=H a=some (.frz o (.dK kvs))/\kvs.length<=i
def c0S (r:KV kvs vs) {p:Key×V} (h:kvs[i]?=some p):∃ u,vs[i]?=some (p.1,u)/\RelV p.2 u:=by
 unfold KV at r
 induction r generalizing i with
 | nil=>simp at h
 | @cons x y _ _ h1 t ih=>
  cases i with
  | zero=>simp at h;subst h;exact ⟨y.2,by simp [h1.1],h1.2⟩
  | succ i=>simpa using ih (by simpa using h)
def a9G {K:qC} {o:Obj} (rel:KV kvs vs)
  (hd:∀ h:Heap,h.get? a=some o->h.DictAt (aW P w) a vs ep):Turn P w K tg (Itv a o kvs) [it] it (λi h=>h.IsValIter it a i vs.length ep) where
 mem:=by simp
 obj:=λi h st b hb=>by
  have e:b=it:=by simpa using hb
  subst e;obtain ⟨o,e,c,d⟩:=st;exact ⟨o,e,λv z=>by rw [d] at z;cases z⟩
 keep:=λi h h' st k=>st.at λo e=>k it (by simp) o e
 item:=by
  intro X hP hw hK hc i pz s σ H E I hf st hg;subst hP hw hK;obtain ⟨ha,hi⟩:=hg;have dat:=hd _ (show s.heap.get? a=some o/\_ from I.hok a _ ha).1;obtain ⟨u,hu,ru⟩:=c0S rel (qK hi);obtain ⟨f0,f1,f2,f3,f4,f5⟩:=hf it (by simp);refine wpAny_pyNext_values_item st dat hu λh' st' sb=>?_;have I1:Inv X pz σ H { s with heap:=h' }:=I.turned (t':=s.toks) (λb o hb e=>(sb.2 b hb).trans e) f0 f1 f3 f4 f5;obtain ⟨o1,e,c,d⟩:=id st';exact ⟨u,rfl,a9i (s:={ s with heap:=h' }) e c d (by decide) ⟨_,H,I1,ru,⟨rfl,by rw [qK hi];rfl⟩,st',λb hb=>(hf b hb).1⟩⟩
 done:=by
  intro X hP hw hK hc i pz s σ H E I hf st hg;subst hP hw hK;obtain ⟨ha,hi⟩:=hg;have dat:=hd _ (show s.heap.get? a=some o/\_ from I.hok a _ ha).1;obtain ⟨f0,f1,f2,f3,f4,f5⟩:=hf it (by simp);have hl:=rel.length;exact wpAny_pyNext_values_end (I.ok.hd hc) st dat (by simp;omega) λh' eb=>⟨rfl,I.turned (t':=s.toks) (λb o hb e=>eb b o hb e) f0 f1 f3 f4 f5⟩
 self:=λ_ _ _ _ _ st h=>wpAny_pyIter_valiter st h
structure M0 (X:Cx) (o:Expr) (m:Str) (apos:Pos) (cpos:Pos):Prop where
 base:wv o m X.env (eval o X.env)=eval o X.env
 few:((v0 cpos (j4 [] X.env)).all (λx=>!x.1)&&(yq cpos (wu [] X.env)).all (λx=>x.1.isSome)
  && decide (([]:T0n).length+([]:List Keyword).length+(if ([]:List Keyword).isEmpty then 0 else 1)<30))=true
 line:(apos.endLine==cpos.line)=true
 trees:v0 cpos (j4 [] X.env)=[]
section
variable {o:Expr}
def c0W (td:TE):TI:=λσ H R=>td σ H λv H1=>∃ a ob kvs,v=.ref a/\H1 a=some (.frz ob (.dK kvs))/\R (Itv a ob kvs) H1
def b5i (ho:PE X o td) (m:M0 X o "values" apos cpos):PI X tg (.Call (.Attribute o "values" apos) [] [] cpos) (c0W td):=by
 intro pz s σ H R I h;refine wpAny_Call_method m.base m.few m.line vM PySem.F.slot_dict_values PySem.F.type_dict_values (thn (ho pz s σ H _ I h) λu s1 ⟨x,H1,I1,rx,a,ob,kvs,ex,ha,q1⟩=>?_);subst ex;obtain rfl:u=qw a:=rx;obtain ⟨t1,t2,_⟩:=b3h I1 (.inl ⟨kvs,.inr ⟨ob,ha⟩⟩);refine ⟨t1,t2,?_⟩;rw [m.trees];refine zn rfl (vw ?_);obtain ⟨hob,z,lo,vs,rel,dd⟩:=(show s1.heap.get? a=some ob/\kvs.length<=j5/\(a==wo)=false/\∃ vs,KV kvs vs/\s1.heap.DictOf (aW X.prog X.w) a vs from I1.hok a _ ha);obtain ⟨ep,dat⟩:=dd.dictAt;have hd:∀ h:Heap,h.get? a=some ob->h.DictAt (aW X.prog X.w) a vs ep:=λh e=>by
  obtain ⟨o1,es,e1,r⟩:=dat
  rw [hob] at e1;cases e1;exact ⟨ob,es,e,r⟩
 refine call_meetsIn PySem.F.slot_dict_values dd.typeIs PySem.F.entry_dict_values (PySem.F.args_dict_values_1 _) (meets_dict_values (aW X.prog X.w) a lo) ⟨⟨vs,dd⟩,?_⟩;have ha2:(s1.heap.push { cls:=.type "dict_values", data:=.fields #[.ref a] }).get? a=some ob:=qD _ hob;refine wpAny_pyIter_values (s:={ s1 with heap:=s1.heap.push { cls:=.type "dict_values", data:=.fields #[.ref a] } }) (d:=a) (kvs:=vs) (ep:=ep) ⟨_,qH _ rfl,rfl,rfl⟩ (hd _ ha2) ?_;have I2:Inv X pz σ H1 { s1 with heap:=s1.heap.push { cls:=.type "dict_values", data:=.fields #[.ref a] } }:=I1.kept (t':=s1.toks) λb o e=>qD _ e;refine ⟨_,[_],_,_,H1,rfl,I2.kept (t':=s1.toks) λb o e=>qD _ e,a9G rel hd,⟨_,qH _ rfl,rfl,rfl⟩,λb hb=>?_,q1⟩;obtain rfl:=qL.mp hb;exact I2.fpOk (qN _) (I2.hok.fresh (qN _))
end
def noE (ρ:List Ent):List Ent:=ρ.map λ_=>.no
def a6L (k:Nat) (t:Tg) (cap:T0e) (ft:TF) (fe:EF):EF:=λρ=>match ρ[k]? with
 | some (.val (.dict D))=>if (D.map (·.2)).all rX&&eF D.length then (match tS t (bY cap (noE ρ)) ft fe (D.map (·.2)) with
  | some es=>if es.all rX then some (.ok (.list es)) else none
  | none=>none) else none
 | _=>none
theorem RepS.bare {K:qC} (R:RepS K H0 Gz G H σ ρ) (s:bG G1 H1) (t:nO K G1 H1):RepS K H1 G1 G1 H1 σ (noE ρ):=by
 refine ⟨.refl s,by simp [noE,R.len],λi o e h1 h2=>?_,Inj.free λi e h=>?_,t⟩
 ·unfold noE at h2;rw [qQ] at h2
  cases q:ρ[i]? with
  | none=>rw [q] at h2;cases h2
  | some _=>rw [q] at h2;cases h2;trivial
 ·unfold noE at h;rw [qQ] at h
  cases q:ρ[i]? with
  | none=>rw [q] at h;cases h
  | some _=>rw [q] at h;cases h;rfl
def a9D {K:qC} {o:Obj} (ha:G a=some (.frz o (.dK kvs))) (r:RepAll K G (kvs.map (·.2)) ds):Walk K (Itv a o kvs) G ds:=by
 intro i G' H' s1 s2;have hl:=r.length;rw [qE] at hl;refine ⟨λd e=>?_,λh=>⟨s2 _ _ (s1 _ _ ha),by omega⟩⟩;have hi:i<kvs.length:=by rw [hl];exact (qS.mp e).1
 obtain ⟨v,ev,rv⟩:=r.get e;refine ⟨⟨s2 _ _ (s1 _ _ ha),hi⟩,λx H2 ⟨e2,y⟩=>?_⟩;subst e2;rw [qQ] at ev;rw [ev] at y;cases y;exact ⟨G',.refl s2,rv.mono s1⟩
section
variable {cap:T0e}
theorem Tab.as {P:Addr} (e:H a=some o) (h3:∀ p,o≠.tbl p) (hcd:∀ n,o≠cdO a n) (h:Tab P q H):Tab P q (upd H a o'):=by
 obtain ⟨ps,g1,g2,g3⟩:=h;refine ⟨ps,by rw [aE (λz=>by rw [z,e] at g1;exact h3 _ (qB g1))];exact g1,g2,λp cv q1=>?_⟩;obtain ⟨d,e1,e2⟩:=g3 p cv q1;exact ⟨d,e1,by rw [aE (λz=>by subst z;rw [e] at e2;exact hcd _ (qB e2))];exact e2⟩
def b9c (I:Inv X pz σ H s) (hs:bG G H) (h:Rd G a (.dK kvs)):
  ∃ ob o0,G a=some o0/\(∀ p,o0≠.tbl p)/\(∀ n,o0≠cdO a n)/\Inv X pz σ (upd H a (.frz ob (.dK kvs))) s/\∀ (s':Shared) (H':Hp),Inv X pz σ H' s'->H' a=some (.frz ob (.dK kvs))->Inv X pz σ (upd H' a o0) s':=by
 rcases h with hGa | ⟨ob,hGf⟩
 ·have hHa:=hs _ _ hGa
  obtain ⟨z,lo,vs,rel,dd⟩:=a6F I.hok hHa;obtain ⟨ob,es0,ep,hob,hr⟩:=id dd;have nfr:∀ ob u,X.H₀ a≠some (.frz ob u):=λob' u y=>by
   have:=I.base.frzs a ob' u y;rw [hHa] at this;cases this
  refine ⟨ob,.dK kvs,hGa,by nofun,by unfold cdO;nofun,Inv.as (o':=.frz ob (.dK kvs)) I hHa (by nofun) nfr (by nofun) (by nofun) ⟨hob,z,lo,vs,rel,dd⟩,λs' H' I' ha'=>?_⟩;obtain ⟨_,z',lo',vs',rel',dd'⟩:=(show s'.heap.get? a=some ob/\kvs.length<=j5/\(a==wo)=false/\∃ vs,KV kvs vs/\s'.heap.DictOf (aW X.prog X.w) a vs from I'.hok a _ ha');exact Inv.as (o':=.dK kvs) I' ha' (by nofun) nfr (by nofun) (by nofun) ⟨z',lo',vs',rel',dd'⟩
 ·have up:∀ (H':Hp),H' a=some (.frz ob (.dK kvs))->upd H' a (.frz ob (.dK kvs))=H':=λH' e=>by
   funext b
   by_cases hb:b=a
   ·rw [hb,aG,e]
   ·rw [aE hb]
  refine ⟨ob,.frz ob (.dK kvs),hGf,by nofun,by unfold cdO;nofun,by rw [up H (hs _ _ hGf)];exact I,λs' H' I' ha'=>by rw [up H' ha'];exact I'⟩
def b4h (k:Nat) {x:Str} (hc:X.calm=true) (B:Blk X scope N' cap) (hf:a1x cap t=true) (hg:∀ C s3z H3z fp,DG (bV X scope N' C s3z H3z fp) tg t) (ht:∀ C s3z H3z fp,DTs (bV X scope N' C s3z H3z fp) ifs ft)
  (he:∀ C s3z H3z fp,DE (bV X scope N' C s3z H3z fp) elt fe) (hk:X.N[k]?=some x:=by rfl)
  (hv:Vis X.env.scope x:=by first | exact jw rfl | exact jP (jw rfl) | exact jP (jP rfl)) (hd:(x==("__debug__" : Str))=false:=by decide) (hcd:(x==("__classdict__" : Str))=false:=by decide)
  (m:M0 X (.Name x xp) "values" apos cpos:=by exact ⟨rfl,rfl,rfl,rfl⟩)
  (hs:∀ y,wj (.Call (.Attribute (.Name x xp) "values" apos) [] [] cpos) X.env y=pure y:=by intro _;rfl):
  DE X (.ListComp elt [⟨tg,.Call (.Attribute (.Name x xp) "values" apos) [] [] cpos,ifs,0⟩] scope pos) (a6L k t cap ft fe):=⟨λpz s σ H Q I ⟨ρ,r,H0,Gz,G,e,R,q⟩=>by
 unfold a6L at e;split at e
 ·rename_i D hD
  split at e
  ·rename_i hpz
   rw [qJ] at hpz;split at e
   ·rename_i es e5
    split at e
    ·rename_i hpl
     cases (qB e);obtain ⟨k1,k2⟩:=nY e5;obtain ⟨v,ev,rv⟩:=R.val hD;cases rv with
     | fil _ _=>exact absurd hpz.1 (by simp [rX])
     | @dict a kvs _ hRd e0 rr=>
     obtain ⟨ob,o0,hGa,nt0,nc0,If,back⟩:=b9c I R.sub hRd;have hHa:=R.sub _ _ hGa
     have tb:nO X.K (upd (λ_=>none) a (.frz ob (.dK kvs))) (upd H a (.frz ob (.dK kvs))):=⟨λy hy c P hc'=>Tab.as hHa nt0 nc0 (R.tab.1 y hy c P hc'),λb ps hb=>by
      by_cases hba:b=a
      ·subst hba;rw [aG] at hb;cases hb
      ·rw [aE hba] at hb;cases hb⟩
     have sb:bG (upd (λ_=>none) a (.frz ob (.dK kvs))) (upd H a (.frz ob (.dK kvs))):=λb o hb=>by
      by_cases hba:b=a
      ·subst hba;rw [aG] at hb ⊢;exact hb
      ·rw [aE hba] at hb;cases hb
     have Rb:=R.bare sb tb;have run:=a4I (pos:=pos) (g:=gU X.K (D.map (·.2)) (λd=>d) (bY cap (noE ρ)) (cX t (bY cap (noE ρ)))) (tc:=tU X.K (D.map (·.2)) (cX t (bY cap (noE ρ))) (cT t (bY cap (noE ρ)) ft)) (te:=eU X.K (D.map (·.2)) (cX t (bY cap (noE ρ))) (cT t (bY cap (noE ρ)) ft) (cV t (bY cap (noE ρ)) fe)) hc B (b5i (tg:=tg) (dR (pos:=xp) hk hv hd hcd) m)
      (λC s3z H3z fp pz s σ H v u Q I r ⟨x,hx,q⟩=>((hg C s3z H3z fp).run _ _ _ (k1 x hx).1).run pz s σ H v u Q I r q)
      (λC s3z H3z fp pz s σ H Q I ⟨x,hx,q⟩=>((ht C s3z H3z fp).run _ _ (k1 x hx).2.1).run pz s σ H Q I q)
      (λC s3z H3z fp pz s σ H Q I ⟨x,hx,hcx,H0,Gz,G,R,q⟩=>((he C s3z H3z fp).pd ((k1 x hx).2.2 hcx)).run H0 Gz G pz s σ H Q I R q) hs pz s σ (upd H a (.frz ob (.dK kvs)))
      (λv H2=>H2 a=some (.frz ob (.dK kvs))/\Q v (upd H2 a o0)) If
      ⟨.ref a,ev,a,ob,kvs,rfl,aG,yM (φ:=λd=>d) Rb (by rw [List.map_id' (D.map (·.2))];exact a9D aG (RepAll.plain hpz.1 rr)) (.refl _) (λx hx=>a1i hf (k1 x hx).1) (by rw [qE];exact iV hpz.2) λDd ys G2 H2 g2 hDd hn ra=>?_⟩
     ·refine wz run (λu s' ⟨v',H',I',rv',ha',q'⟩=>?_) λ_ _ z=>z
      exact ⟨v',_,back s' H' I' ha',rv',q'⟩
     ·have ha2:G2 a=some (.frz ob (.dK kvs)):=g2.gg _ _ aG
      have hDa:Dd≠a:=λy=>by rw [y,aG] at hn;cases hn
      have hH:H Dd=none:=by rw [aE hDa] at hn;exact hn
      have hG:G Dd=none:=R.sub.free hH;refine ⟨g2.sub _ _ ha2,?_⟩;have gr:Grow G H (upd G Dd (.lst ys)) (upd H2 a o0):=by
       refine ⟨bF hG,⟨λb o hb n=>?_,λb ps hb=>?_,λP y tt=>?_⟩,λb o hb=>?_,λb e n=>by rw [aE (λz=>n (by rw [z];exact hH))];exact e,λn=>n.upd (by nofun)⟩
       ·by_cases hba:b=a
        ·subst hba;rw [hHa] at hb;cases hb;exact aG
        ·rw [aE hba];exact g2.hh.keep b o (by rw [aE hba];exact hb) n
       ·have hba:b≠a:=λy=>by rw [y,hHa] at hb;exact nt0 _ (qB hb)
        rw [aE hba];exact g2.hh.tbl b ps (by rw [aE hba];exact hb)
       ·exact Tab.as (g2.sub _ _ ha2) (by nofun) (by unfold cdO;nofun) (g2.hh.tab P y (Tab.as hHa nt0 nc0 tt))
       ·by_cases hb1:b=Dd
        ·subst hb1;rw [aG] at hb;cases hb
         rw [aE hDa];exact g2.sub _ _ hDd
        ·rw [aE hb1] at hb
         by_cases hba:b=a
         ·subst hba;rw [hGa] at hb;cases hb;exact aG
         ·rw [aE hba]
          exact g2.hh.keep b o (by rw [aE hba];exact R.sub _ _ hb) λps y=>R.tab.2 b ps (by rw [hb,y])
      rw [k2] at hpl;have fin:Rep X.K (upd G Dd (.lst ys)) (.ref Dd) (.list es):=.list (.of aG) (by rw [k2];exact RepAll.plain hpl ra);exact q (.ref Dd) _ _ gr fin
    ·cases e
   ·cases e
  ·cases e
 ·cases e⟩
end
def b2W:∀ {D:List (j0×j0)} {kvs:List (Key×j0)},a2i D=some kvs->D=kvs.map λp=>(eC p.1,p.2):=by
 intro D
 induction D with
 | nil=>intro kvs h;cases (qB h);rfl
 | cons p r ih=>
  intro kvs h;unfold a2i at h;split at h
  ·rename_i k l hk hl
   cases (qB h);rw [qI,<-ih hl,<-a1s hk]
  ·cases h
def b2Z {k l:Key} (h:eC k=eC l):k=l:=by
 have:=congrArg oG h;rw [oF,oF] at this;exact qB this
def b2K:∀ {a b:List Key},a.map eC=b.map eC->a=b:=by
 intro a
 induction a with
 | nil=>intro b h;cases b with | nil=>rfl | cons _ _=>cases h
 | cons x a ih=>
  intro b h;cases b with
  | nil=>cases h
  | cons y b=>
   rw [qI,qI,kU] at h;rw [b2Z h.1,ih h.2]
end L2.L3
namespace L2.L3
open PySem PySem.Spec PySem.Calls PyProof.Rows
structure FCls (K:qC):Prop where
 cl:Cls K (pK K)
 n1:lZ K (pK K) "filled"
 n2:lZ K (pK K) "taken"
 n3:lZ K (pK K) "waiting"
 n4:lZ K (pK K) "left"
abbrev fD (ds:T0l):j0:=.dict [(.none,.tuple ds)]
def cW (j:Nat):j0->Option j0
 | .dict [(.none,.tuple ds)]=>ds[j]?
 | _=>none
def b8A {x:j0} (h:([((.none:j0),x)]:List (j0×j0)).map (·.1)=kvs.map λp=>eC p.1):False:=by
 cases kvs with
 | nil=>cases h
 | cons p r=>
  obtain ⟨k,v⟩:=p;cases k<;>cases h
def a9l {K:qC} (r:Rep K G v (fD ds)):∃ a dx v1 v2 v3 v4,v=.ref a/\G a=some (.ins (pK K) dx (fFs v1 v2 v3 v4))/\RepAll K G [v1,v2,v3,v4] ds:=by
 cases r with
 | dict h e0 rr=>exact (b8A e0).elim
 | fil h rr=>exact ⟨_,_,_,_,_,_,rfl,h,rr⟩
section
variable {a o:Expr} {fa:EF} {fA:AF} {f m:Str} {F:List j0->Mm j0}
def bU (j:Nat) (C:FCls X.K) (hn:lZ X.K (pK X.K) f) (ha:DE X a fa) (hj:∀ v1 v2 v3 v4,(fFs v1 v2 v3 v4).lookup f=[v1,v2,v3,v4][j]?:=by intros;rfl)
  (hb:wv a f X.env (eval a X.env)=eval a X.env:=by rfl):DE X (.Attribute a f pos) (op1 (cW j) fa):=⟨λpz s σ H Q I ⟨ρ,r,H0,Gz,G,e,R,q⟩=>b8i ha.run hb pz s σ H Q I (bE R e q.x λx v G1 H1 g1 R1 rv e1=>by
 obtain ⟨d,ed,rfl⟩:=bL e1;unfold cW at ed;split at ed
 ·obtain ⟨b,dx,v1,v2,v3,v4,rfl,h,rr⟩:=a9l rv
  obtain ⟨u,eu,ru⟩:=rr.get ed;exact ⟨b,_,dx,_,u,rfl,g1.sub _ _ h,C.cl,hn,by rw [hj];exact eu,q _ _ _ g1 ru⟩
 ·cases ed)⟩
structure MethF (P:Program) (w:World) (K:qC) (mg:T0d) (base:Heap) (m:Str) (k:Nat) (F:List j0->Mm j0):Prop where
 ex:∃ f fd,Meth K (pK K) m f/\Binds K fd ["self"] []/\FnOk P w K mg base CX0 k f fd ["self"] (spD K λds d=>F ds=some (.ok d))
def iN (F:List j0->Mm j0) (fa:EF):EF:=λρ=>bnd (fa ρ) λx=>match x with
 | .dict [(.none,.tuple ds)]=>(match F [fD ds] with
  | some (.ok d)=>some (.ok d)
  | _=>none)
 | _=>none
def lY {pl:Sem Bool} (C:FCls X.K) (M:MethF X.prog X.w X.K X.mg X.base m k F) (hr:Room k X.A) (ha:DE X o fa) (hl:∀ v1 v2 v3 v4,(fFs v1 v2 v3 v4).lookup m=none:=by intros;rfl)
  (ht:eval (.Call (.Attribute o m ap) [] [] pos) X.env=(do
   let ov <-eval o X.env
   Qb ap.atName
   let (f,first) <-holding [ov] (getMethod ov m pl)
   callWith pos f first (v0 pos (j4 [] X.env)) (yq pos (wu [] X.env))):=by rfl):
  DE X (.Call (.Attribute o m ap) [] [] pos) (iN F fa):=⟨λpz s σ H Q I ⟨ρ,r,H0,Gz,G,e,R,q⟩=>by
 obtain ⟨f,fd,hm,hb,Fk⟩:=M.ex;refine b2o (pl:=pl) ha.run C.cl hm Fk hr hb .nil (a8L (X:=X)) ht pz s σ H Q I (bE R e q.x λx v G1 H1 g1 R1 rv e1=>?_);split at e1
 ·split at e1
  ·rename_i ds d ed
   cases (qB e1);obtain ⟨b,dx,v1,v2,v3,v4,rfl,h,rr⟩:=a9l rv;exact ⟨b,dx,_,rfl,g1.sub _ _ h,hl _ _ _ _,G1,_,d,⟨g1.sub,R1.tab⟩,.cons rv .nil,ed,λv G2 H2 g2 r2=>q v G2 H2 (g1.trans g2) r2⟩
  ·cases e1
 ·cases e1⟩
def spF (K:qC):Sp:=λvs H Q _=>∃ x dx v1 v2 v3 v4,vs=[.ref x,v1,v2,v3,v4]/\H x=some (.ins (pK K) dx [])/\Q .non (upd H x (.ins (pK K) dx (fFs v1 v2 v3 v4)))
abbrev fPs:List Str:=["self", "filled", "taken", "waiting", "left"]
structure FMk (P:Program) (w:World) (K:qC) (mg:T0d) (base:Heap) (k:Nat):Prop where
 ex:∃ f fd,mg "Filling" = some (.ref (pK K))/\Mk K (pK K) f/\Binds K fd fPs []/\FnOk P w K mg base CX0 k f fd fPs (spF K)
def mkF (fA:AF):EF:=λρ=>bnd (fA ρ) λds=>if ds.length=4 then some (.ok (fD ds)) else none
def a5i (M:FMk X.prog X.w X.K X.mg X.base k) (hr:Room (k+1) X.A) (ha:DA X (e::es) fA) (hg:Gl X "Filling":=by rfl)
  (he:j4 (e::es) X.env=(false,eval e X.env)::j4 es X.env:=by rfl) (hpl:(v0 pos (j4 es X.env)).any (·.1)=false:=by rfl):DE X (.Call (.Name "Filling" p) (e::es) [] pos) (mkF fA):=⟨λpz s σ H Q I ⟨ρ,r,H0,Gz,G,e',R,q⟩=>by
 obtain ⟨f,fd,hm,mk,bd,Fk⟩:=M.ex;refine b5n mk Fk hr hg hm bd .nil (a8L (X:=X)) ha.run (by decide) he hpl pz s σ H Q I (bA R e' q.x λds vs G1 H1 g1 R1 rv e1=>?_);split at e1
 ·rename_i hl
  cases (qB e1);intro x dx hx hdx hne;have hl':vs.length=4:=by rw [rv.length];exact hl
  match vs,hl',rv with
  | [v1,v2,v3,v4],_,rv=>
   have hx':upd H1 dx (.own x) x=none:=by rw [aE (jJ hne)];exact hx
   have g2:Grow G1 H1 (upd G1 dx (.own x)) (upd H1 dx (.own x)):=Grow.put g1.sub hdx;have g3:=Grow.put (o:=.ins (pK X.K) dx (fFs v1 v2 v3 v4)) g2.sub hx';refine ⟨x,dx,v1,v2,v3,v4,rfl,aG,rfl,?_⟩;rw [a1j];exact q _ _ _ (g1.trans (g2.trans g3)) (.fil aG (rv.mono (g2.trans g3).gg))
 ·cases e1⟩
end
variable {fa:Addr} {a1 a2 a3 a4 b1 b2 b3 b4 c1 c2 c3 c4 d1 d2 d3 d4:Pos} {f:SF}
section
variable {K:qC} {x m:Str}
def fF1 (v1:V):List (Str×V):=[("filled", v1)]
def fF2 (v1 v2:V):List (Str×V):=[("filled", v1),("taken", v2)]
def fF3 (v1 v2 v3:V):List (Str×V):=[("filled", v1),("taken", v2),("waiting", v3)]
def c0v (v:V):lO "filled" v []=fF1 v:=rfl
def c0u (v1 v:V):lO "taken" v (fF1 v1)=fF2 v1 v:=by
 unfold fF1 fF2;simp only [lO];rw [if_neg (by decide)]
def c0t (v1 v2 v:V):lO "waiting" v (fF2 v1 v2)=fF3 v1 v2 v:=by
 unfold fF2 fF3;simp only [lO];rw [if_neg (by decide),if_neg (by decide)]
def c0s (v1 v2 v3 v:V):lO "left" v (fF3 v1 v2 v3)=fFs v1 v2 v3 v:=by
 unfold fFs fF3;simp only [lO];rw [if_neg (by decide),if_neg (by decide),if_neg (by decide)]
def b0v (B:FCls K) (Fu:Fun K "__init__" "Filling.__init__" st fa fd) (S:FnScope fPs fPs (aD st))
  (hv:∀ y∈fPs,(aD st).names.lookup y=some .local)
  (hB:bR st=[.Assign [.Attribute (.Name "self" a1) "filled" a2] (.Name "filled" a3) a4,.Assign [.Attribute (.Name "self" b1) "taken" b2] (.Name "taken" b3) b4,.Assign [.Attribute (.Name "self" c1) "waiting" c2] (.Name "waiting" c3) c4,.Assign [.Attribute (.Name "self" d1) "left" d2] (.Name "left" d3) d4]):
  FnOk P w K mg base CX0 (k+1) fa fd fPs (spF K):=by
 refine Fu.ok S (λvs H Q E ⟨x,dx,v1,v2,v3,v4,e,_⟩=>by rw [e];rfl) (λcdv A outer s H vs Q E hr ⟨x,dx,v1,v2,v3,v4,e,hx,q⟩=>?_);subst e;rw [hB];have vis:∀ y∈fPs,Vis (a6I CX0 P w K mg base fPs "Filling.__init__" (aD st) fa cdv A outer s H E).nox.env.scope y:=λy hy=>.inl (hv y hy)
 refine ⟨_,a1Q (a4G (dR (i:=0) rfl (vis _ (by decide))) (dR (i:=1) rfl (vis _ (by decide))) rfl) (a1Q (a4G (dR (i:=0) rfl (vis _ (by decide))) (dR (i:=2) rfl (vis _ (by decide))) rfl)
  (a1Q (a4G (dR (i:=0) rfl (vis _ (by decide))) (dR (i:=3) rfl (vis _ (by decide))) rfl) (a4E (a4G (dR (i:=0) rfl (vis _ (by decide))) (dR (i:=4) rfl (vis _ (by decide))) rfl)))),?_⟩
 refine ⟨v1,rfl,.ref x,rfl,x,_,dx,[],rfl,hx,B.cl,B.n1,by decide,?_⟩;rw [c0v];refine ⟨v2,rfl,.ref x,rfl,x,_,dx,_,rfl,aG,B.cl,B.n2,by show 1<1000;decide,?_⟩;rw [c0u,a1j];refine ⟨v3,rfl,.ref x,rfl,x,_,dx,_,rfl,aG,B.cl,B.n3,by show 2<1000;decide,?_⟩;rw [c0t,a1j];refine ⟨v4,rfl,.ref x,rfl,x,_,dx,_,rfl,aG,B.cl,B.n4,by show 3<1000;decide,?_⟩;rw [c0s,a1j];exact q
def b6k (m n:Nat) (Fu:Fun K x qual st fa fd) (S:FnScope N ps (aD st)) (hm:N.length=m) (hn:ps.length=n)
  (body:∀ (cdv:Value) (A:Around) (outer:List Env) (s:Shared) (H:Hp) (E:XK),Room k (A.deeper (uf qual (aD st) s.heap.objs.size fa cdv))->DB (fcx P w K mg base N qual (aD st) fa cdv A outer s H E) (bR st) f):
  FnOk P w K mg base CX0 (k+1) fa fd ps (spD K λds d=>bS m n f ds=some (.ok d)):=by
 refine Fu.ok S (λvs H Q E ⟨G,ds,d,s,r,hF,_⟩=>?_) (λcdv A outer s H vs Q E hr ⟨G,ds,d,sm,r,hF,q⟩=>?_)
 ·have hF:bS m n f ds=some (.ok d):=hF
  unfold bS at hF;split at hF
  ·rename_i hl;rw [r.length,hl,hn]
  ·cases hF
 ·have hF:bS m n f ds=some (.ok d):=hF
  unfold bS at hF;split at hF
  ·rw [<-hm,<-sU] at hF
   split at hF
   ·rename_i d' e
    cases (qB hF);exact ⟨_,(body cdv A outer s H E hr).run,gJ N ds,_,H,G,G,e,gB sm r,λv G' H' _ g rv=>q v G' H' g rv⟩
   ·rename_i ρ' e
    cases (qB hF);exact ⟨_,(body cdv A outer s H E hr).run,gJ N ds,_,H,G,G,e,gB sm r,λG' H' σ' _ R'=>q .non G' H' R'.grow .none⟩
   ·cases hF
  ·cases hF
structure FDef (K:qC) (m:Str) (st:Stmt):Prop where
 ex:∃ f fd,Fun K m ("Filling." ++ m) st f fd/\Meth K (pK K) m f
def tH (mm:Nat) (D:FDef K m st) (S:FnScope N ["self"] (aD st)) (hm:N.length=mm)
  (hb:∀ (kV doc pm:Value) (an:T0k) (cdv ct:Value) (us:T0m),us.length=["self"].length->ug (jV m ("Filling." ++ m) (eK st) (bR st) (aD st) .none kV doc pm an cdv ct) ⟨us,[]⟩=pure ((["self"]:T0q).zip us))
  (body:∀ (fa:Addr) (cdv:Value) (A:Around) (outer:List Env) (s:Shared) (H:Hp) (E:XK),Room k (A.deeper (uf ("Filling." ++ m) (aD st) s.heap.objs.size fa cdv))->DB (fcx P w K mg base N ("Filling." ++ m) (aD st) fa cdv A outer s H E) (bR st) f):
  MethF P w K mg base m (k+1) (bS mm 1 f):=by
 obtain ⟨fa,fd,Fu,M⟩:=D.ex;exact ⟨fa,fd,M,Fu.binds hb,b6k mm 1 Fu S hm rfl λcdv A outer s H E hr=>body fa cdv A outer s H E hr⟩
end
section
variable {K:qC} {m:Str} {f:Addr} {kV:Value}
def a6O:Stmt->Nat->Stmt
 | .ClassDef _ _ _ b _ _ _ _ _ _ _,j=>b.getD j (.Pass ⟨0,0,0,0⟩)
 | s,_=>s
def a5b (a0:qv K j6 "Filling" = some (some (.ref C))):pK K=C:=by unfold pK;rw [a0]
def fdef_mk (a0:qv K j6 "Filling" = some (some (.ref C))) (a:jA K (.ref C) m=some (some (.ref f))) (i:ve K (.ref f)=true)
  (l:K.lookup f=some ⟨oc,od,.func (jV m ("Filling." ++ m) (eK st) (bR st) (aD st) .none kV doc pm an cdv ct),sl⟩) (c:zA K cdv ("Filling." ++ m)=true) (k:jj K (.ref f)=true):FDef K m st:=
 ⟨f,_,a4Y l c k,by rw [a5b a0];exact ⟨a,i,k⟩⟩
def fcls_mk (a0:qv K j6 "Filling" = some (some (.ref C))) (c1:zc K C Str.empty=true) (c2:vI K C=true) (c3:wI K C=true) (c4:jA K (.ref C) "__setattr__" = some (some (.builtin "object.__setattr__")))
  (n1:jA K (.ref C) "filled" = some none) (n2:jA K (.ref C) "taken" = some none) (n3:jA K (.ref C) "waiting" = some none) (n4:jA K (.ref C) "left" = some none):FCls K:=by
 have e:=a5b a0;refine ⟨?_,?_,?_,?_,?_⟩<;>rw [e]
 ·exact ⟨c1,c2,c3,c4⟩
 ·exact n1
 ·exact n2
 ·exact n3
 ·exact n4
structure FIn (K:qC) (st:Stmt):Prop where
 ex:∃ f fd,qv K j6 "Filling" = some (some (.ref (pK K)))/\Mk K (pK K) f/\Fun K "__init__" "Filling.__init__" st f fd
def fin_mk (a0:qv K j6 "Filling" = some (some (.ref C))) (k1:PySem.W.makesIn K C=true) (k2:jA K (.ref C) "__init__" = some (some (.ref f))) (k3:ve K (.ref f)=true) (k4:jj K (.ref C)=true)
  (l:K.lookup f=some ⟨oc,od,.func (jV "__init__" "Filling.__init__" (eK st) (bR st) (aD st) .none kV doc pm an cdv ct),sl⟩) (c:zA K cdv "Filling.__init__" = true) (k:jj K (.ref f)=true):FIn K st:=by
 have e:=a5b a0;exact ⟨f,_,by rw [e];exact a0,by rw [e];exact ⟨k1,k2,k3,k4⟩,a4Y l c k⟩
def b6m {h:Heap} (X:K.In h) (G:h.Ns j6 mg) (B:FCls K) (I:FIn K st) (S:FnScope fPs fPs (aD st)) (hv:∀ y∈fPs,(aD st).names.lookup y=some .local)
  (hB:bR st=[.Assign [.Attribute (.Name "self" a1) "filled" a2] (.Name "filled" a3) a4,.Assign [.Attribute (.Name "self" b1) "taken" b2] (.Name "taken" b3) b4,.Assign [.Attribute (.Name "self" c1) "waiting" c2] (.Name "waiting" c3) c4,.Assign [.Attribute (.Name "self" d1) "left" d2] (.Name "left" d3) d4])
  (hb:∀ (kV doc pm:Value) (an:T0k) (cdv ct:Value) (us:T0m),us.length=fPs.length->ug (jV "__init__" "Filling.__init__" (eK st) (bR st) (aD st) .none kV doc pm an cdv ct) ⟨us,[]⟩=pure (fPs.zip us)):FMk P w K mg base 1:=by
 obtain ⟨f,fd,a0,M,Fu⟩:=I.ex;exact ⟨f,fd,PySem.W.mg_of X G a0,M,Fu.binds hb,b0v (k:=0) B Fu S hv hB⟩
end
end L2.L3
namespace L2.L3
open PySem PySem.Spec PySem.Calls PyProof.Rows HS
variable {xs:List (j0×Addr×Value)}
section
variable {K:qC} {ks':T0l}
theorem RepS.sn (R:RepS K H0 Gz G H σ ρ) (h:ρ[i]?=some (.seen w ks)):∃ a xs,σ[i]?=some (some (.ref a))/\H a=some (seenO w a xs)/\G a=none/\H0 a=none/\xs.map (·.1)=ks/\ks.Nodup/\∀ x∈xs,hsh 4 x.1=true/\Rep K G (.ref x.2.1) x.1:=by
 obtain ⟨o,e,a,xs,rfl,r⟩:=R.at h;exact ⟨a,xs,e,r⟩
def alone (i:Nat) (ρ:List Ent):Bool:=(qm ρ.length).all λj=>j==i || (match ρ[j]? with | some (.seen _ _)=>false | some (.exc _)=>false | _=>true)
def b4w (h:alone i ρ=true):(∀ (j:Nat) (w':World) (l:T0l),ρ[j]?=some (.seen w' l)->j=i)/\∀ (j:Nat) (c:Str),ρ[j]?=some (.exc c)->j=i:=by
 refine ⟨λj w' l hj=>?_,λj c hj=>?_⟩<;>(have:=qe.mp h j (jp.mpr (qS.mp hj).1);rw [hj] at this;simpa using this)
theorem Tab.wrX {P:Addr} {φ:Heap->Prop} (t:Tab P q H) (h:H a=some (.ext φ)) (hc:∀ c q,H c=some (cdO c q)->c≠a):Tab P q (upd H a o):=by
 obtain ⟨ps,h1,h2,h3⟩:=t;refine ⟨ps,by rw [aE (cM h1 h (by nofun))];exact h1,h2,λpos cv e=>?_⟩;obtain ⟨c,e1,e2⟩:=h3 pos cv e;exact ⟨c,e1,by rw [aE (hc c q e2)];exact e2⟩
def RepS.wroteS (R:RepS K H0 Gz G H σ ρ) (h:ρ[i]?=some (.seen w ks)) (al:alone i ρ=true) (e:σ[i]?=some (some (.ref a))) (hc:∀ c q,H c=some (cdO c q)->c≠a)
  (r:xs.map (·.1)=ks'/\ks'.Nodup/\∀ x∈xs,hsh 4 x.1=true/\Rep K G (.ref x.2.1) x.1):RepS K H0 Gz G (upd H a (seenO w a xs)) σ (ρ.set i (.seen w ks')):=by
 obtain ⟨a',xs',e',h1,h2,h3,_⟩:=R.sn h;obtain ⟨al1,al2⟩:=b4w al;rw [e] at e';cases e';refine ⟨⟨R.grow.gg,⟨λb u e n=>by rw [aE (aR e h3)];exact R.grow.hh.keep b u e n,λb ps e=>by rw [aE (aR e h3)];exact R.grow.hh.tbl b ps e,λP q t=>(R.grow.hh.tab P q t).wrX h1 hc⟩,λb o q=>?_,λb q n=>R.grow.new b q n,R.grow.nt⟩,by simp [R.len],λj o e' q1 q2=>?_,?_,⟨λx hx c P e=>(R.tab.1 x hx c P e).wrX h1 hc,R.tab.2⟩⟩
 ·rw [aE (aR q h2)];exact R.sub b o q
 ·rcases aH q2 with ⟨rfl,rfl,_⟩ | ⟨nj,q2⟩
  ·rw [e] at q1;cases q1
   exact ⟨a,xs,rfl,aG,h2,h3,r⟩
  ·have E:=R.ent j o e' q1 q2
   cases e' with
   | no=>trivial
   | val d=>exact E
   | lst es=>
    obtain ⟨b,ys,z,g1,g2,g3,rv⟩:=E;exact ⟨b,ys,z,by rw [aE (cM g1 h1 (by unfold seenO;nofun))];exact g1,g2,g3,rv⟩
   | exc c=>exact absurd (al2 j c q2) nj
   | nst dss=>
    obtain ⟨b,bs,z,g1,g2,g3,g4,g5,rv⟩:=E;exact ⟨b,bs,z,by rw [aE (cM g1 h1 (by unfold seenO;nofun))];exact g1,g2,g3,g4,g5,eM rv λc dd hc ⟨xs',x1,x2,x3,x4⟩=>⟨xs',by rw [aE (cM x1 h1 (by unfold seenO;nofun))];exact x1,x2,x3,x4⟩⟩
   | dct kvs=>
    obtain ⟨b,vs,z,g1,g2,g3,rv⟩:=E;exact ⟨b,vs,z,by rw [aE (cM g1 h1 (by unfold seenO;nofun))];exact g1,g2,g3,rv⟩
   | seen w' l=>exact absurd (al1 j w' l q2) nj
 ·have I1:Inj H σ (ρ.set i (.seen w ks')):=by
   have old:∀ (j:Nat) (e:Ent),(ρ.set i (.seen w ks'))[j]?=some e->(∀ w' l,e≠.seen w' l)->ρ[j]?=some e:=λj e q n=>by
    rcases aH q with ⟨_,z,_⟩ | ⟨_,q⟩
    ·exact absurd z (n _ _)
    ·exact q
   exact ⟨λj k b es fs hjk q1 q2 q3 q4=>R.inj.two j k b es fs hjk q1 (old j _ q2 (by nofun)) q3 (old k _ q4 (by nofun)),λj k b a' es dss q1 q2 q3 q4=>R.inj.mix j k b a' es dss q1 (old j _ q2 (by nofun)) q3 (old k _ q4 (by nofun)),λj k dss ess q1 q2=>R.inj.one j k dss ess (old j _ q1 (by nofun)) (old k _ q2 (by nofun)),λj k ks ls q1 q2=>R.inj.oneD j k ks ls (old j _ q1 (by nofun)) (old k _ q2 (by nofun))⟩
  refine I1.other λj a' dss q1 q2 vs z=>?_;by_cases n:a'=a
  ·subst n;rw [aG] at z;unfold seenO at z;cases z
  ·rw [aE n] at z;exact z
def RepS.freshS {p:Addr} (R:RepS K H0 Gz G H σ ρ) (h:H p=none):RepS K H0 Gz G (upd H p (seenO w p [])) (σ.set i (some (.ref p))) (ρ.set i (.seen w [])):=by
 have R':=R.more (Grow.side (o:=seenO w p []) R.sub h);refine ⟨R'.grow,by simp [R.len],λj o e h1 h2=>?_,?_,R'.tab⟩
 ·rcases aH h1 with ⟨rfl,rfl,_⟩ | ⟨n,h1⟩
  ·rcases aH h2 with ⟨_,rfl,_⟩ | ⟨n,_⟩
   ·exact ⟨p,[],rfl,aG,R.sub.free h,R.grow.hh.free h,rfl,.nil,λx hx=>nomatch hx⟩
   ·exact absurd rfl n
  ·rcases aH h2 with ⟨z,_⟩ | ⟨_,h2⟩
   ·exact absurd z n
   ·exact R'.ent j o e h1 h2
 ·have old:∀ (j:Nat) (e:Ent),(ρ.set i (.seen w []))[j]?=some e->(∀ w' l,e≠.seen w' l)->ρ[j]?=some e/\(σ.set i (some (.ref p)))[j]?=σ[j]?:=λj e q n=>by
   rcases aH q with ⟨_,z,_⟩ | ⟨nj,q⟩
   ·exact absurd z (n _ _)
   ·exact ⟨q,qh (jJ nj)⟩
  refine ⟨λj k b es fs hjk q1 q2 q3 q4=>?_,λj k b a' es dss q1 q2 q3 q4=>?_,λj k dss ess q1 q2=>R'.inj.one j k dss ess (old j _ q1 (by nofun)).1 (old k _ q2 (by nofun)).1,λj k ks ls q1 q2=>R'.inj.oneD j k ks ls (old j _ q1 (by nofun)).1 (old k _ q2 (by nofun)).1⟩
  ·obtain ⟨x1,x2⟩:=old j _ q2 (by nofun)
   obtain ⟨y1,y2⟩:=old k _ q4 (by nofun);rw [x2] at q1;rw [y2] at q3;exact R'.inj.two j k b es fs hjk q1 x1 q3 y1
  ·obtain ⟨x1,x2⟩:=old j _ q2 (by nofun)
   obtain ⟨y1,y2⟩:=old k _ q4 (by nofun);rw [x2] at q1;rw [y2] at q3;exact R'.inj.mix j k b a' es dss q1 x1 q3 y1
end
def b7k (w:World) (i:Nat):SF:=λρ=>some (.nx (ρ.set i (.seen w [])))
def a9J:j0->Bool
 | .tuple _=>true
 | _=>false
open Classical in
noncomputable def a5W (w:World) (i:Nat) (fk:EF):TF:=λρ=>bnd (fk ρ) λk=>match ρ[i]? with
 | some (.seen w' ks)=>if w'=w/\(hsh 4 k&&a9J k)=true then some (.ok (!decide (k∈ks))) else none
 | _=>none
open Classical in
noncomputable def a3u (w:World) (i:Nat) (fk fv:EF):SF:=λρ=>match ρ[i]? with
 | some (.seen w' ks)=>if w'=w then bns (fv ρ) ρ λ_=>bns (fk ρ) ρ λk=>if (hsh 4 k&&a9J k&&alone i ρ&&eF ks.length)=true/\k∉ks then some (.nx (ρ.set i (.seen w (ks++[k])))) else none else none
 | _=>none
variable {k:j0}
section
variable {x:Str}
def b5m:PE X (.Dict [] [] pos) (λ_ H Q=>∀ p,H p=none->Q (.ref p) (upd H p (seenO X.w p []))):=λpz s σ H Q I h=>
 wpAny_Dict_empty ⟨.ref s.heap.objs.size,_,I.laid (a:=s.heap.objs.size) (o:=seenO X.w s.heap.objs.size []) (t':=s.toks) (λ_ _ q=>qD _ q) (qN _)
  ⟨⟨beq_eq_false_iff_ne.mpr (jJ (qW I.big)),_,#[],_,qH _ rfl,⟨rfl,rfl,rfl⟩,rfl,rfl⟩,⟨_,qH _ rfl⟩,λh1 h2 ⟨z,o,es,ep,g,r⟩ k=>⟨z,o,es,ep,k o g,r⟩⟩,rfl,h _ (I.hok.fresh (qN _))⟩
def b3R (i:Nat) (hN:X.N.Nodup) (hi:X.N[i]?=some x:=by rfl) (hx:Loc X.env.scope x:=by first | exact jw rfl | exact jP rfl)
  (hs:wm (.Dict [] [] pos) (some (.Name x p)) pos.line X.env=pure false:=by rfl) (hf:X.fn x=true\/X.env.scope.names.lookup x=some .local:=by first | exact .inl rfl | exact .inr rfl) {q:Pos} (hs':wm (.Dict [] [] pos) (some (.Name x p)) q.line X.env=pure false:=by rfl):
  DS X (.Assign [.Name x p] (.Dict [] [] pos) q) (b7k X.w i):=⟨λpz s σ H D I ⟨ρ,o,H0,Gz,G,ef,R,qq⟩=>yU hN hi hx b5m hs' hf pz s σ H D I (by
 cases (qB ef)
 exact λl hl=>qq G _ _ (.refl _) (R.freshS hl))⟩
def a4z (I:Inv X pz σ H s) (R:RepS X.K H0 Gz G H σ ρ) (h:ρ[i]?=some (.seen X.w ks)):
  ∃ a xs,σ[i]?=some (some (.ref a))/\H a=some (seenO X.w a xs)/\(a==wo)=false/\xs.map (·.1)=ks/\ks.Nodup/\(∀ x∈xs,hsh 4 x.1=true/\Rep X.K G (.ref x.2.1) x.1)/\s.heap.DictOfH (nest X.prog X.w) a xs:=by
 obtain ⟨a,xs,e,h1,h2,h3,r1,r2,r3⟩:=R.sn h;obtain ⟨⟨z,o,es,ep,g1,g2,g3,g4⟩,_⟩:=I.hok a _ h1;refine ⟨a,xs,e,h1,z,r1,r2,r3,o,es,ep,g1,g2,g3,g4,λx hx=>?_,by rw [r1];exact r2⟩;obtain ⟨q1,q2⟩:=r3 x hx;obtain ⟨as,ra⟩:=(q2.mono R.sub).reads I (xI _ (pE 4 _ q1)) (u:=.ref x.2.1) rfl;exact ⟨q1,as,ra⟩
def b7e:(atKey xs k).isSome=true↔k∈xs.map (·.1):=by
 unfold atKey;rw [Option.isSome_map,List.find?_isSome];constructor
 ·rintro ⟨x,hx,e⟩
  exact qU.mpr ⟨x,hx,of_decide_eq_true e⟩
 ·intro h
  obtain ⟨x,hx,e⟩:=qU.mp h;exact ⟨x,hx,decide_eq_true e⟩
def a8D {K:qC} (h:a9J k=true) (r:Rep K G v k):∃ b,v=.ref b:=by
 cases r<;>first | exact ⟨_,rfl⟩ | cases h
def b2t (i:Nat) (hu:X.A.units+64<cLine) (hk:DE X e fk) (hN:X.N[i]?=some x:=by rfl)
  (hv:Vis X.env.scope x:=by first | exact jw rfl | exact jP (jw rfl) | exact jP (jP rfl)) (hd:(x==("__debug__" : Str))=false:=by decide) (hcd:(x==("__classdict__" : Str))=false:=by decide)
  (hm:ww .NotIn (.Name x p)=false:=by rfl):DT X (.Compare e [.NotIn] [.Name x p] pos) (a5W X.w i fk):=⟨λpz s σ H Q I ⟨ρ,r,H0,Gz,G,ef,R,q⟩=>by
 refine b7Y (t:=λσ H Q=>rE X fk σ H λv H1=>∃ b k ρ G H0 Gz ks,v=.ref b/\RepS X.K H0 Gz G H1 σ ρ/\Rep X.K G v k/\ρ[i]?=some (.seen X.w ks)/\hsh 4 k=true/\Q (.bl (!decide (k∈ks))) H1) (λpz s σ H Q I h=>?_) hm pz s σ H Q I ?_
 ·refine thn (hk.run pz s σ H _ I h) λiv s1 ⟨v,H1,I1,rv,b,k,ρ,G,H0,Gz,ks,ev,R,rk,hi,hh,q⟩=>?_
  obtain ⟨a,xs,e1,h1,z,r1,r2,r3,dd⟩:=a4z I1 R hi;refine thn (dR hN hv hd hcd pz s1 σ H1 (λv H2=>v=.ref a/\H2=H1) I1 ⟨.ref a,e1,rfl,rfl⟩) λu s2 ⟨v2,H2,I2,r2',e2,e3⟩=>?_;subst e2 e3 ev;cases r2';cases rv;obtain ⟨a',xs',e1',h1',z',r1',r2'',r3',dd'⟩:=a4z I2 R hi;rw [e1] at e1';cases e1';obtain ⟨as,ra⟩:=(rk.mono R.sub).reads I2 (xI _ (pE 4 _ hh)) (u:=.ref b) rfl;refine wpAny_notIn_heap (knd:=nest X.prog X.w) (show X.A.in1.units+8<cLine by show X.A.units+1+8<cLine;omega) ⟨hh,as,ra⟩ z' dd' ⟨.bl _,H2,I2.tok _,rfl,?_⟩;have:(atKey xs' k).isSome=decide (k∈ks):=by
   rw [kX,b7e,r1',decide_eq_true_iff]
  rw [this];exact q
 ·unfold a5W at ef
  refine bE R ef q.x λk v G1 H1 g1 R1 rv e1=>?_;split at e1
  ·rename_i w' ks hi
   split at e1
   ·rename_i hz
    obtain ⟨rfl,hz⟩:=hz;rw [qJ] at hz;cases (qB e1);obtain ⟨b,rfl⟩:=a8D hz.2 rv;exact ⟨b,k,ρ,G1,H0,Gz,ks,rfl,R1,rv,hi,hz.1,_,rfl,q _ _ g1⟩
   ·cases e1
  ·cases e1⟩
def b3O (i:Nat) (hu:X.A.units+64<cLine) (hv:DE X e fv) (hk:DE X kx fk) (hN:X.N[i]?=some x:=by rfl)
  (hvi:Vis X.env.scope x:=by first | exact jw rfl | exact jP (jw rfl) | exact jP (jP rfl)) (hd:(x==("__debug__" : Str))=false:=by decide) (hcd:(x==("__classdict__" : Str))=false:=by decide)
  (hs:wm e (some (.Subscript (.Name x xp) kx kp)) pos.line X.env=pure false:=by rfl):
  DS X (.Assign [.Subscript (.Name x xp) kx kp] e pos) (a3u X.w i fk fv):=⟨λpz s σ H D I ⟨ρ,o,H0,Gz,G,ef,R,q⟩=>by
 have hrun:rE X fv σ H λv H1=>∃ ρ G H0 Gz ks a,RepS X.K H0 Gz G H1 σ ρ/\ρ[i]?=some (.seen X.w ks)/\σ[i]?=some (some (.ref a))/\rE X fk σ H1 λy H2=>∃ b k G,y=.ref b/\RepS X.K H0 Gz G H2 σ ρ/\Rep X.K G y k/\hsh 4 k=true/\alone i ρ=true/\eF ks.length=true/\k∉ks /\
   ∀ H',RepS X.K H0 Gz G H' σ (ρ.set i (.seen X.w (ks++[k])))->D.nx σ H':=by
  unfold a3u at ef;split at ef
  ·rename_i w' ks hw
   split at ef
   ·rename_i ew
    subst ew;refine sE R ef q λd v G1 H1 g1 R1 rv e2 q1=>?_;obtain ⟨a,xs,ea,_⟩:=R1.sn hw;refine ⟨ρ,G1,H0,Gz,ks,a,R1,hw,ea,sE R1 e2 q1 λk u G2 H2 g2 R2 ru e3 q2=>?_⟩;split at e3
    ·rename_i hz
     obtain ⟨hz,hn⟩:=hz;simp only [qJ] at hz;cases (qB e3);obtain ⟨b,rfl⟩:=a8D hz.1.1.2 ru;exact ⟨b,k,G2,rfl,R2,ru,hz.1.1.1,hz.1.2,hz.2,hn,λH' R'=>q2 G2 H' σ (.refl _) R'⟩
    ·cases e3
   ·cases ef
  ·cases ef
 refine wpAny_Assign_Subscript (thn (hv.run pz s σ H _ I hrun) λr s1 ⟨v,H1,I1,rv,ρ,G,H0,Gz,ks,a,R,hi,ea,h2⟩=>thn (dR hN hvi hd hcd pz s1 σ H1 (λv H2=>v=.ref a/\H2=H1) I1 ⟨.ref a,ea,rfl,rfl⟩) λu s2 ⟨v2,H2,I2,r2,e2,e3⟩=>?_) hs;subst e2 e3;cases r2;refine thn (hk.run pz s2 σ H2 _ I2 h2) λiv s3 ⟨y,H3,I3,ry,b,k,G3,ey,R3,rk,hh,al,sz,hn,fin⟩=>?_;subst ey;cases ry;obtain ⟨a',xs,e1',h1,z,r1,r2,r3,dd⟩:=a4z I3 R3 hi;rw [ea] at e1';cases e1';obtain ⟨as,ra⟩:=(rk.mono R3.sub).reads I3 (xI _ (pE 4 _ hh)) (u:=.ref b) rfl;have hlen:xs.length=ks.length:=by rw [<-r1,qE]
 refine wpAny_setItem_heap (knd:=nest X.prog X.w) (show X.A.in1.units+8<cLine by show X.A.units+1+8<cLine;omega) ⟨hh,as,ra⟩ dd (λh' dd' hs'=>?_) (hsz:=by rw [hlen];exact iV sz);have hat:atKey xs k=none:=by
  cases c:atKey xs k with
  | none=>rfl
  | some p=>exact absurd (by rw [<-r1];exact b7e.mp (by rw [c];rfl)) hn
 rw [storedH_new hat] at dd';obtain ⟨o',es,ep,g1,g2,g3,g4,g5,g6⟩:=dd';have hc:∀ c q,H3 c=some (cdO c q)->c≠a:=λc q ec w=>by
  subst w;rw [h1] at ec;obtain ⟨⟨_,o1,es1,ep1,x1,_,x3,_⟩,_⟩:=I3.hok c _ h1;obtain ⟨⟨c',o2,vs,t,y1,y2,y3,_⟩,_⟩:=(show bZ X.prog X.w H3 s3.heap c (cdO c q) from I3.hok c _ (by rw [h1];exact ec));cases y1;rw [x1] at y2;cases y2;rw [x3] at y3;cases y3
 refine ⟨σ,_,xR I3 (by rw [h1];exact kJ) hs' ⟨o',g1⟩ (show bZ X.prog X.w _ h' a (seenO X.w a (xs++[(k,b,r)])) from ⟨⟨z,o',es,ep,g1,g2,g3,g4⟩,⟨o',g1⟩,λh1 h2 ⟨z,o,es,ep,g,r⟩ k=>⟨z,o,es,ep,k o g,r⟩⟩),fin _ (R3.wroteS hi al ea hc ⟨by rw [qc,r1];rfl,?_,λx hx=>?_⟩)⟩
 ·rw [kE]
  exact ⟨r2,by simp,λx hx y hy=>by rw [qL] at hy;subst hy;exact λz=>hn (z▸hx)⟩
 ·rcases jD.mp hx with hx | hx
  ·exact r3 x hx
  ·rw [qL] at hx;subst hx;exact ⟨hh,rk⟩⟩
end
end L2.L3
namespace L2.L3
open PySem PySem.Spec PySem.Calls PyProof.Rows
def a2D:List (Key×EF)->List Ent->Option (List (Key×j0))
 | [],_=>some []
 | (k,f)::r,ρ=>(match f ρ,a2D r ρ with
  | some (.ok d),some l=>some ((k,d)::l)
  | _,_=>none)
def oE (ps:List (Key×EF)):EF:=λρ=>match a2D ps ρ with
 | some l=>if decide ((l.map (·.1)).Nodup)&&decide (l.length<=15) then some (.ok (.dict (l.map λp=>(eC p.1,p.2)))) else none
 | none=>none
def b1W {k:Key} (h:k∉kvs.map (·.1)):putK kvs k v=kvs++[(k,v)]:=by
 unfold putK;rw [if_neg];intro z;obtain ⟨p,hp,e⟩:=we.mp z;exact h (qU.mpr ⟨p,hp,of_decide_eq_true e⟩)
theorem a3F:∀ (more acc:List (Key×V)),((acc++more).map (·.1)).Nodup->lQ acc more=acc++more
 | [],acc,_=>by simp [lQ]
 | (k,v)::r,acc,h=>by
  have hk:k∉acc.map (·.1):=λz=>by
   rw [qc,kE] at h;exact h.2.2 k z k (by simp) rfl
  show lQ (putK acc k v) r=_;rw [b1W hk,a3F r (acc++[(k,v)]) (by simpa using h)];simp
variable {ks:List (Option Expr)} {vs:List Expr} {ps:List (Key×EF)}
theorem Grow.fill {G2:Hp} {p:Addr} (s:bG G H) (hp:H p=none) (g:Grow G (upd H p (.dK [])) G2 H2) (h2:H2 p=some (.dK [])):Grow G H (upd G2 p (.dK kvs)) (upd H2 p (.dK kvs)):=by
 have g':Grow G H G2 H2:=(Grow.side s hp).trans g;have hG:G2 p=none:=g.new p (s.free hp) (by rw [aG];simp);exact ⟨g'.gg.trans (bF hG),g'.hh.wrD hp h2,yQ g'.sub,λa e n=>by rw [aE (λz=>n (by rw [z];exact hp))];exact g'.new a e n,λn=>(g'.nt n).upd (by nofun)⟩
inductive DPs (X:Cx):List (Option Expr)->List Expr->List (Key×EF)->Prop
 | nil:DPs X [] [] []
 | cons {x:Str} {j:Nat} {pk:Pos} {v:Expr} {fv:EF} {ks:List (Option Expr)} {vs:T0n} {ps:List (Key×EF)}:DE X v fv->DPs X ks vs ps->DPs X (some (.Constant (.str x) j pk)::ks) (v::vs) ((.inr x,fv)::ps)
theorem DPs.run {ks:List (Option Expr)} {vs:T0n} {ps:List (Key×EF)} (h:DPs X ks vs ps):PPs X pos ks vs (ps.map λp=>(tC (kV p.1),rE X p.2)):=by
 induction h with
 | nil=>exact b5d
 | cons hv _ ih=>exact b2h b2m hv.run ih
theorem DPs.len (h:DPs X ks vs ps):ks.length=vs.length/\ks.length=ps.length/\ks.all (·.isSome)=true:=by
 induction h with
 | nil=>exact ⟨rfl,rfl,rfl⟩
 | cons _ _ ih=>exact ⟨by simp [ih.1],by simp [ih.2.1],by rw [qz,ih.2.2];rfl⟩
theorem a5S {H0 Gz:Hp} {σ:St} {ρ:List Ent}:∀ {ps:List (Key×EF)} {l:List (Key×j0)} {G H:Hp} {T:List (V×V)->Hp->Prop},RepS X.K H0 Gz G H σ ρ->a2D ps ρ=some l ->
  (∀ (kvs:List (Key×V)) G' H',Grow G H G' H'->kvs.map (·.1)=l.map (·.1)->RepAll X.K G' (kvs.map (·.2)) (l.map (·.2))->T (kvs.map λkv=>(kV kv.1,kv.2)) H')->a4u (ps.map λp=>(tC (kV p.1),rE X p.2)) σ H T
 | [],l,G,H,T,R,e,h=>by
  cases (qB e);exact h [] G H (.refl R.sub) rfl .nil
 | (k,f)::r,l,G,H,T,R,e,h=>by
  unfold a2D at e;split at e
  ·rename_i d l' e1 e2
   cases (qB e);refine ⟨ρ,_,H0,Gz,G,e1,R,λv G1 H1 g1 rv=>a5S (R.more g1) e2 λkvs G2 H2 g2 hk hr=>?_⟩;exact h ((k,v)::kvs) G2 H2 (g1.trans g2) (by rw [qI,qI,hk]) (.cons (rv.mono g2.gg) hr)
  ·cases e
def lF {k:Option Expr} (h:DPs X (k::ks) vs ps):DE X (.Dict (k::ks) vs pos) (oE ps):=⟨λpz s σ H Q I ⟨ρ,r,H0,Gz,G,ef,R,q⟩=>by
 obtain ⟨l1,l2,l3⟩:=h.len;unfold oE at ef;split at ef
 ·rename_i l el
  split at ef
  ·rename_i hz
   rw [qJ,decide_eq_true_eq,decide_eq_true_eq] at hz;cases (qB ef);have hn:∀ (ps:List (Key×EF)) (l:List (Key×j0)),a2D ps ρ=some l->l.length=ps.length:=by
    intro ps
    induction ps with
    | nil=>intro l e;cases (qB e);rfl
    | cons p r ih=>
     intro l e;unfold a2D at e;split at e
     ·rename_i e2;cases (qB e);simp [ih _ e2]
     ·cases e
   refine b5o h.run l3 l1 (by simp) (by rw [l2,<-hn ps l el];exact hz.2) pz s σ H Q I λp hp=>?_;refine a5S (R.more (Grow.side (o:=.dK []) R.sub hp)) el λkvs G2 H2 g2 hk hr=>?_;have h2:H2 p=some (.dK []):=g2.hh.keep p _ aG (by nofun);have hl:kvs.length=l.length:=by have:=congrArg zV hk;simpa using this
   refine ⟨h2,kvs,rfl,by rw [hl];exact hz.2,?_⟩;rw [a3F kvs [] (by simpa [hk] using hz.1)];refine q _ _ _ (Grow.fill R.sub hp g2 h2) (.dict (kvs:=kvs) (.inl aG) ?_ ?_)
   ·rw [qT]
    have:=congrArg (List.map eC) hk;rw [qT,qT] at this;exact this.symm
   ·rw [qT]
    exact hr.mono (bF (g2.new p (R.sub.free hp) (by rw [aG];simp)))
  ·cases ef
 ·cases ef⟩
noncomputable def a8E (i j:Nat):SF:=λρ=>match ρ[i]? with
 | some (.lst ds)=>(match ds[ds.length - 1]? with
  | some d=>if i≠j then some (.nx ((ρ.set i (.lst ds.dropLast)).set j (.val d))) else none
  | none=>none)
 | _=>none
def b3t {K:qC} (r:RepAll K G xs ds) (h:ds[ds.length - 1]?=some d):(∃ v,xs[xs.length - 1]?=some v/\Rep K G v d)/\RepAll K G xs.dropLast ds.dropLast:=by
 refine ⟨by rw [r.length];exact r.get h,?_⟩;rw [List.dropLast_eq_take,List.dropLast_eq_take,r.length];exact r.take _
section
variable {x y:Str} {yp:Pos}
def b6C (i j:Nat) (hNd:X.N.Nodup) (hN:X.N[i]?=some x:=by rfl)
  (hv:Vis X.env.scope x:=by first | exact jw rfl | exact jP (jw rfl) | exact jP (jP rfl)) (hd:(x==("__debug__" : Str))=false:=by decide) (hcd:(x==("__classdict__" : Str))=false:=by decide)
  (hbase:wv (.Name x p) "pop" X.env (eval (.Name x p) X.env)=eval (.Name x p) X.env:=by rfl) (hline:(ap.endLine==cp.line)=true:=by rfl)
  (hj:X.N[j]?=some y:=by rfl) (hx:Loc X.env.scope y:=by first | exact jw rfl | exact jP rfl)
  (hs:wm (.Call (.Attribute (.Name x p) "pop" ap) [] [] cp) (some (.Name y yp)) pos.line X.env=pure false:=by rfl) (hf:X.fn y=true\/X.env.scope.names.lookup y=some .local:=by first | exact .inl rfl | exact .inr rfl):
  DS X (.Assign [.Name y yp] (.Call (.Attribute (.Name x p) "pop" ap) [] [] cp) pos) (a8E i j):=⟨λpz s σ H D I ⟨ρ,o,H0,Gz,G,ef,R,q⟩=>
 yU hNd hj hx (b8j zL PySem.F.slot_list_pop PySem.F.type_list_pop b8H (dR hN hv hd hcd) hbase hline) hs hf pz s σ H D I (by
  unfold a8E at ef;split at ef
  ·rename_i ds hi
   split at ef
   ·rename_i d hd'
    split at ef
    ·rename_i hij
     cases (qB ef);obtain ⟨a,xs,ea,h1,h2,h3,r⟩:=R.own hi;obtain ⟨⟨v,ev,rv⟩,rl⟩:=b3t r hd';exact ⟨.ref a,ea,.inl ⟨rfl,xs,.of h1⟩,_,xs,v,rfl,rfl,h1,ev,q G _ _ (.refl _) ((R.wrote hi ea rl).set rv)⟩
    ·cases ef
   ·cases ef
  ·cases ef)⟩
end
def c2b:V->List V->Hp->VK->Prop:=λx vs H Q=>∃ d o kvs more,x=.ref d/\vs=[.ref o]/\H d=some (.dK kvs)/\Rd H o (.dK more)/\d≠o/\kvs.length+more.length<=j5/\Q .non (upd H d (.dK (lQ kvs more)))
def b0i:MtM X "dict.update" c2b:=by
 intro pz s σ H x vs v us Q I rx rv h;obtain ⟨d,o,kvs,more,rfl,rfl,hd,ho,ne,hz,q⟩:=h;cases rx;obtain ⟨u,rfl,ru⟩:=rv.one;cases ru;obtain ⟨z,lo,ws,rel,dd⟩:=a6F I.hok hd;obtain ⟨z2,lo2,ws2,rel2,dd2⟩:=a9q I.hok ho;refine call_meetsIn F.slot_dict_update dd.typeIs F.entry_dict_update (F.args_dict_update_2 _ _) (meets_dict_update (aW X.prog X.w) d o ne lo2) ⟨ws,ws2,dd,dd2,by rw [<-rel.length,<-rel2.length];exact hz,λh' dd' _ hs=>⟨.non,_,?_,rfl,q⟩⟩;have hl:(lQ kvs more).length<=j5:=qi (nA more kvs) hz;exact xR I (by rw [hd];exact kJ) hs (let ⟨q,_,_,hq,_⟩:=dd';⟨q,hq⟩) (a8e hl lo (rel2.merge rel) dd')
def a2a (kvs more:List (Key×j0)):List (Key×j0):=more.foldl (λacc kv=>a0H acc kv.1 kv.2) kvs
noncomputable def a5A (i:Nat) (fa:EF):SF:=λρ=>match ρ[i]? with
 | some (.dct kvs)=>bns (fa ρ) ρ λd=>(match d with
  | .dict D=>(match a2i D with
   | some more=>if eF (kvs.length+more.length) then some (.nx (ρ.set i (.dct (a2a kvs more)))) else none
   | none=>none)
  | _=>none)
 | _=>none
theorem eW.merge {K:qC} {G:Hp}:∀ {more:List (Key×V)} {mD:List (Key×j0)} {vs:List (Key×V)} {kvs:List (Key×j0)},eW K G more mD->eW K G vs kvs->eW K G (lQ vs more) (a2a kvs mD)
 | [],[],_,_,_,h=>h
 | [],_::_,_,_,h,_=>by have:=h.1;simp at this
 | _::_,[],_,_,h,_=>by have:=h.1;simp at this
 | (k,v)::more,(k',d)::mD,vs,kvs,⟨h1,h2⟩,h=>by
  rw [qI,qI,kU] at h1;rw [qI,qI] at h2;obtain rfl:k=k':=h1.1;cases h2 with
  | cons r rr=>exact eW.merge (more:=more) (mD:=mD) ⟨h1.2,rr⟩ (h.put r)
section
variable {x:Str}
def b9o (i:Nat) (ha:DE X e fa) (hN:X.N[i]?=some x:=by rfl)
  (hv:Vis X.env.scope x:=by first | exact jw rfl | exact jP (jw rfl) | exact jP (jP rfl)) (hd:(x==("__debug__" : Str))=false:=by decide) (hcd:(x==("__classdict__" : Str))=false:=by decide)
  (hbase:wv (.Name x p) "update" X.env (eval (.Name x p) X.env)=eval (.Name x p) X.env:=by rfl)
  (hfew:((v0 cp (j4 [e] X.env)).all (λx=>!x.1)&&(yq cp (wu [] X.env)).all (λx=>x.1.isSome)
   && decide (([e]:T0n).length+([]:List Keyword).length+(if ([]:List Keyword).isEmpty then 0 else 1)<30))=true:=by rfl)
  (hline:(ap.endLine==cp.line)=true:=by rfl) (hst:j4 [e] X.env=(false,eval e X.env)::j4 [] X.env:=by rfl) (hplain:(v0 cp (j4 [] X.env)).any (·.1)=false:=by rfl)
  (hs:wm (.Call (.Attribute (.Name x p) "update" ap) [e] [] cp) none pos.line X.env=pure false:=by rfl):
  DS X (.Expr (.Call (.Attribute (.Name x p) "update" ap) [e] [] cp) pos) (a5A i fa):=⟨λpz s σ H D I ⟨ρ,o,H0,Gz,G,ef,R,q⟩=>
 a1o (a8J vM PySem.F.slot_dict_update PySem.F.type_dict_update b0i (dR hN hv hd hcd) (iY ha.run pA hst) hbase hfew hline hst hplain) hs pz s σ H D I (by
  unfold a5A at ef;split at ef
  ·rename_i kvs hi
   obtain ⟨a,vs,ea,h1,_⟩:=R.ownD hi;refine ⟨.ref a,ea,.inr (.inr (.inl ⟨rfl,.inl ⟨vs,h1⟩⟩)),sE R ef q λd v G1 H1 g1 R1 rv e1 q1=>?_⟩;split at e1
   ·rename_i D0
    split at e1
    ·rename_i more hk
     split at e1
     ·rename_i hz
      cases (qB e1);cases rv with
      | fil _ _=>simp [a2i,oG] at hk
      | @dict b ws _ hb e0 rr=>
       obtain ⟨a',vs',ea',h1',h2',h3',r'⟩:=R1.ownD hi;rw [ea] at ea';cases ea';have hm:eW X.K G1 ws more:=by
        have e2:=b2W hk;refine ⟨?_,?_⟩
        ·rw [e2,qT] at e0
         refine (b2K (a:=more.map (·.1)) (b:=ws.map (·.1)) ?_).symm;rw [qT,qT];exact e0
        ·rw [e2,qT] at rr;exact rr
       have ne:a≠b:=λz=>by
        subst z;rcases hb with hb | ⟨o',hb⟩<;>(rw [h2'] at hb;cases hb)
       refine ⟨a,b,vs',ws,rfl,rfl,h1',mM g1.sub hb,ne,?_,q1 G1 _ σ (.refl _) (R1.wroteD hi ea (hm.merge r'))⟩;rw [r'.len,hm.len];exact iV hz
     ·cases e1
    ·cases e1
   ·cases e1
  ·cases ef)⟩
end
end L2.L3
namespace L2.RW
open PySem PyProof.Rows
def a8Q:mroOf (.type "reversed")=pure [.type "reversed", .type "object"]:=by rw [mroOf_type];kernel_rfl
def b2M:Bind.madeBy (.type "reversed")=pure (some "reversed.__new__"):=madeBy_type a8Q (by rw [yy,w9];kernel_rfl) (by decide +kernel)
def b4J:QZ (.type "reversed") (.type "reversed")=pure true:=by rw [yc];kernel_rfl
def b7P:QZ (.type "list_reverseiterator") (.type "reversed")=pure false:=by rw [yc];kernel_rfl
def a9K (a:Value):checkTypeCall "reversed" ⟨[a],[]⟩=pure ():=by kernel_rfl
def b0g (a:Value):checkBuiltinCall "reversed.__new__" ⟨[.type "reversed", a],[]⟩=pure ():=by kernel_rfl
def b0D:uy table "reversed.__new__" = some Builtin.«reversed.__new__»:=entryFor_of_tree (by kernel_rfl)
def slot_next:Slot "list_reverseiterator" "__next__" "list_reverseiterator.__next__" :=
 .of (owner := "list_reverseiterator") (n := "__next__") (by rw [yy,w9];kernel_rfl) (by decide +kernel) (by decide +kernel) (by decide +kernel) (by first | exact .inl (by decide +kernel) | exact .inr (by decide +kernel)) (by rw [yc];kernel_rfl)
def entry_next:uy table "list_reverseiterator.__next__" = some Builtin.«list_reverseiterator.__next__»:=entryFor_of_fast (by kernel_rfl)
def args_next (v:Value):QQ "list_reverseiterator.__next__" ⟨[v],[]⟩:=by unfold QQ;kernel_rfl
abbrev rvO (l:Addr) (i:Int):Obj:={ cls:=.type "list_reverseiterator", data:=.fields #[.ref l,v7 i] }
def a9Y (l:Addr) (items:Array Value) (n:Nat) (dct:T0k) (sl:Array (Option Value)):
  Meets (Builtin.«list.__reversed__» ⟨[.ref l],[]⟩) (λ_ R s=>s.heap.get? l=some { cls:=.type "list", dict:=dct,data:=.seq items n,slots:=sl }/\R (.ok (.ret (qw s.heap.objs.size))) { s with heap:=s.heap.push (rvO l ((items.size:Int) - 1)) }):=
 .of_wp λprog w A R s h=>by
  obtain ⟨hp,g,d,tk,os⟩:=s;obtain ⟨hl,h⟩:=h
  wp_walk using AutoSeq1.wpAny_loadPart' hl
  exact ⟨_,rfl,h⟩
variable {dct:Option Addr}
def b5I (hl:s.heap.get? l=some { cls:=.type "list", dict:=dct,data:=.seq items n,slots:=sl })
  (h:Q (.ref s.heap.objs.size) { s with heap:=s.heap.push (rvO l ((items.size:Int) - 1)) }):yo (model prog w) A (.call (.builtin "reversed.__new__") ⟨[.type "reversed", .ref l],[]⟩) (wants Q E) s:=by
 refine y6 (by decide +kernel) b0D (ub (b0g _) ?_);have hT:s.TypeIs (.ref l) "list" := ⟨_,hl,rfl⟩;have hsub:=b4J;have hlk:=vD.lookup;have hbd:=vD.bind (.ref l);unfold Builtin.«reversed.__new__»
 repeat (any_goals (first | assumption | wp_step))
 refine wy (y6 (R:=wants (λv s'=>v=.ref s.heap.objs.size/\s'={ s with heap:=s.heap.push (rvO l ((items.size:Int) - 1)) }) (λe s'=>wants Q E (Except.error e) s')) vD.plain F.entry_list_reversed (vD.check _ _ _ _ _ _ _ _ hT (F.args_list_reversed_1 _) (a9Y l items n dct sl prog w A.in1 _ s ⟨hl,rfl,rfl⟩))) λr s' hr=>?_;cases r with
 | error e=>exact hr
 | ok fl=>
  cases fl with
  | ret v=>
   obtain ⟨rfl,rfl⟩:=hr;exact j3 h
  | _=>exact hr.elim
def b4n (hl:s.heap.get? l=some { cls:=.type "list", dict:=dct,data:=.seq items n,slots:=sl })
  (h:Q (.ref s.heap.objs.size) { s with heap:=s.heap.push (rvO l ((items.size:Int) - 1)) }):wpAny (model prog w) A (call (.type "reversed") [.ref l]) Q E s:=by
 have hmro:=a8Q;have hmade:=b2M;refine uv (u0 ?_);show wpAny _ _ (callAny (.type "reversed") _) _ _ _;refine j3 ⟨Code.quiet_builtin _ (by decide +kernel),k9 F.entry_type_call ?_⟩;rw [Around.under_plain (ur "reversed" [.ref l] []) (units_type_call_type "reversed" [.ref l] [])];have h1:(zF "reversed" == zF "type")=false:=by decide +kernel
 have h2:((Manifest.find? "reversed").bind (·.mro.findSome? λt=>(Manifest.find? t).bind λb=>if b.noNew then some true else if b.attrs.any (·.1 == "__new__") then some false else none)).getD false=false:=by decide +kernel
 have h3:=a9K (.ref l)
 repeat (any_goals (first | assumption | wp_step))
 refine wy (b5I (E:=E) (Q:=λv s'=>v=.ref s.heap.objs.size/\s'={ s with heap:=s.heap.push (rvO l ((items.size:Int) - 1)) }) hl ⟨rfl,rfl⟩) λr s1z hr=>?_;cases r with
 | error e=>exact hr
 | ok fl=>
  cases fl with
  | ret v=>
   obtain ⟨rfl,rfl⟩:=hr;have hT:zG { s with heap:=s.heap.push (rvO l ((items.size:Int) - 1)) } (.ref s.heap.objs.size) "list_reverseiterator" := ⟨_,qH _ rfl,rfl⟩;have hs:=b7P
   repeat (any_goals (first | assumption | wp_step))
  | _=>exact hr.elim
def b1T {i:Nat} {x:Value} {Q:Option Value->Shared->Prop} (hI:s.heap.get? I=some (rvO l (i:Int))) (hl:s.heap.IsList l items) (hx:items[i]?=some x)
  (hQ:∀ h',h'.get? I=some (rvO l ((i:Int) - 1))->kB I s.heap h'->Q (some x) { s with heap:=h' }):wpAny (model prog w) A (yf (.ref I)) Q E s:=by
 have hT:s.TypeIs (.ref I) "list_reverseiterator" := ⟨_,hI,rfl⟩;obtain ⟨o,ho,hc,n,hd⟩:=hl;unfold yf;refine q8 (yg (k5 (name:=qx "__next__") hT slot_next (j9 slot_next hT entry_next ?_ (args_next _))));unfold Builtin.«list_reverseiterator.__next__»;generalize hSF:setField=SF;generalize hSI:yz=SI
 wp_walk
 subst hSF hSI;show wpAny _ A.in1 (yz (.ref l)) _ _ s;refine v6 ho hd ?_;dsimp only;rw [jE,hx];dsimp only;refine q8 (k7 hI (by simp) λh1 g1 s1=>?_);refine j3 ⟨x,rfl,j3 (hQ h1 ?_ s1)⟩;rw [g1];simp [rvO,v7]
def b4V {Q:Option Value->Shared->Prop} (hh:A.handled=none) (hI:s.heap.get? I=some (rvO l (-1)))
  (hQ:∀ h',Heap.ExtBut I s.heap h'->Q none { s with heap:=h' }):wpAny (model prog w) A (yf (.ref I)) Q E s:=by
 have hT:s.TypeIs (.ref I) "list_reverseiterator" := ⟨_,hI,rfl⟩;unfold yf;refine q8 (yg (k5 (name:=qx "__next__") hT slot_next (j9 slot_next hT entry_next ?_ (args_next _))));unfold Builtin.«list_reverseiterator.__next__» Builtin.SmallTypes.stopIteration;generalize hNE:newExc=NE;generalize hRN:@QM=RN
 wp_walk
 subst hNE hRN;dsimp only [newExc,newTuple];refine q8 (j8 ?_ (by size_fits));refine q8 (m:=yi _ _) (ub (a:=jR) (by first | rfl | (simp only [yi];rfl)) ?_);refine j8 ?_ (by size_fits);dsimp only [QM];refine q8 (QH ?_);rw [show A.in1.handled=none from hh];refine q8 (j3 (wpAny_throw ?_));refine q8 (yh (T := "StopIteration") (b:=true) ⟨_,qH _ rfl,rfl⟩ QB ?_);exact j3 (hQ _ (((Heap.SameBut.refl I s.heap).extBut.push _).push _))
def slot_self:Slot "list_reverseiterator" "__iter__" "list_reverseiterator.__iter__" :=
 .of (owner := "list_reverseiterator") (n := "__iter__") (by rw [yy,w9];kernel_rfl) (by decide +kernel) (by decide +kernel) (by decide +kernel) (by first | exact .inl (by decide +kernel) | exact .inr (by decide +kernel)) (by rw [yc];kernel_rfl)
def entry_self:uy table "list_reverseiterator.__iter__" = some Builtin.«dict_keyiterator.__iter__»:=uk (id' := "dict_keyiterator.__iter__") (by kernel_rfl) rfl (by decide +kernel) (by kernel_rfl)
def args_self (v:Value):QQ "list_reverseiterator.__iter__" ⟨[v],[]⟩:=by unfold QQ;kernel_rfl
def lG (hty:s.TypeIs (.ref I) "list_reverseiterator") (h:Q (.ref I) s):wpAny (model prog w) A (pyIter (.ref I)) Q E s:=by
 refine uo hty slot_self (j9 slot_self hty entry_self ?_ (args_self _));show wpAny _ _ (ret (.ref I)) _ _ s;exact j3 ⟨_,rfl, "list_reverseiterator", _,hty,slot_next.lookup,h⟩
end L2.RW
namespace L2.L3
open PySem PySem.Spec PySem.Calls PyProof.Rows RW
def ItR (K:qC) (l:Addr) (n:Nat):It:=
 ⟨λk H=>∃ xs x,SqL K H l xs/\xs.length=n/\k<n/\xs[n - 1 - k]?=some x,λk H v H'=>H'=H/\∀ xs,SqL K H l xs->xs[n - 1 - k]?=some v,λk _=>n<=k⟩
def b1t {K:qC} (l it:Addr) (n:Nat):Turn P w K tg (ItR K l n) [it] it (λk h=>k<=n/\h.get? it=some (rvO l ((n:Int) - 1 - k))) where
 mem:=by simp
 obj:=λi h st b hb=>by
  have e:b=it:=by simpa using hb
  subst e;exact ⟨_,st.2,λv z=>by cases z⟩
 keep:=λi h h' st k=>⟨st.1,k it (by simp) _ st.2⟩
 item:=by
  intro X hP hw hK hc i pz s σ H E I hf st hg;subst hP hw hK;obtain ⟨xs,x,hq,hn,hi,hx⟩:=hg;obtain ⟨its,rv,p,hz⟩:=I.list hq;obtain ⟨u,hu,ru⟩:=rv.get hx;obtain ⟨f0,f1,f2,f3,f4,f5⟩:=hf it (by simp);have e1:(n:Int) - 1 - i=((n - 1 - i:Nat):Int):=by omega
  have g:=st.2;rw [e1] at g;refine b1T g p.isList (x:=u) (by simpa using hu) λh' g' sb=>?_;have I1:Inv X pz σ H { s with heap:=h' }:=I.turned (t':=s.toks) (λb o hb e=>(sb.2 b hb).trans e) f0 f1 f3 f4 f5;refine ⟨u,rfl,a9i (s:={ s with heap:=h' }) g' rfl rfl (by decide) ⟨x,H,I1,ru,⟨rfl,λys hy=>by rw [I.list_inj hy hq];exact hx⟩,⟨hi,?_⟩,λb hb=>(hf b hb).1⟩⟩;rw [g'];have e2:((n - 1 - i:Nat):Int) - 1=(n:Int) - 1 - ((i+1:Nat):Int):=by omega
  rw [e2]
 done:=by
  intro X hP hw hK hc i pz s σ H E I hf st hg;subst hP hw hK;obtain ⟨f0,f1,f2,f3,f4,f5⟩:=hf it (by simp);have hg:n<=i:=hg;have hle:=st.1;have g:=st.2;rw [show (n:Int) - 1 - i=-1 by omega] at g;exact b4V (I.ok.hd hc) g λh' eb=>⟨rfl,I.turned (t':=s.toks) (λb o hb e=>eb b o hb e) f0 f1 f3 f4 f5⟩
 self:=λ_ _ _ _ _ st h=>lG ⟨_,st.2,rfl⟩ h
def b1m {K:qC} (hq:SqL K G a xs) (r:RepAll K G xs ds):Walk K (ItR K a xs.length) G ds.reverse:=by
 intro i G' H' s1 s2;have hl:=r.length;refine ⟨λd e=>?_,λh=>by rw [List.length_reverse] at h;show xs.length<=i;omega⟩;have hi:i<ds.length:=by have:=(qS.mp e).1;simpa using this
 rw [List.getElem?_reverse hi] at e;obtain ⟨v,ev,rv⟩:=r.get e;rw [<-hl] at ev;refine ⟨⟨xs,v,(s1.trans s2).seq hq,rfl,by omega,ev⟩,λx H2 ⟨e2,y⟩=>?_⟩;subst e2;have z:=y xs ((s1.trans s2).seq hq);rw [ev] at z;cases z;exact ⟨G',.refl s2,rv.mono s1⟩
def b1U (fa:EF):AF:=λρ=>match fa ρ with
 | some (.ok (.list ds))=>some (.ok ds.reverse)
 | _=>none
section
variable {a:Expr}
def boot_reversed:wg "reversed" = some (.type "reversed"):=by rfl
def b9q (hm:X.mg "reversed" = none) (ha:DE X a fa) (hs:j4 [a] X.env=(false,eval a X.env)::j4 [] X.env:=by rfl)
  (hpl:(v0 pos (j4 [] X.env)).any (·.1)=false:=by rfl) (hg:Gl X "reversed":=by rfl):DI X tg (.Call (.Name "reversed" p) [a] [] pos) (b1U fa):=a9r λρ r e=>by
 unfold b1U at e;split at e
 ·rename_i as e1
  refine ⟨_,(qB e).symm,⟨?_⟩⟩;intro pz s σ H R I ⟨H0,Gz,G,S,q⟩;have pa:=gQ (ha.pd e1) mO hs;refine k6 (iG I hg hm boot_reversed ?_ (by decide) (by decide));refine kr (thn (pa.run H0 Gz G pos pz s σ H (λvs H'=>∃ G',Grow G H G' H'/\RepAll X.K G' vs [.list as]) I S λvs G' H' g r=>⟨G',g,r⟩) λus s1 ⟨vs,H1,I1,r1,G1,g1,w1⟩=>?_) hs hpl;cases w1 with
  | cons wa wn=>
   cases wn;cases wa with
   | @list l xs _ hq ra=>
    obtain ⟨u,rfl,ru⟩:=vals1 r1;cases ru;obtain ⟨its,rv,⟨o,n,ho,hc,hdn,hd⟩,_⟩:=I1.list (g1.sub.seq hq);have hlen:=rv.length;obtain ⟨oc,od,odt,osl⟩:=o;dsimp only at hc hd hdn;subst hc hd;have lt:l<s1.heap.objs.size:=qM ho;refine b4n ho (lG ⟨_,qH _ rfl,rfl⟩ ?_);refine ⟨s1.heap.objs.size,[s1.heap.objs.size],_,_,H1,rfl,I1.kept (t':=s1.toks) (λb o e=>qD _ e),b1t l _ xs.length,⟨jB _,?_⟩,λc hc=>?_,q _ G1 H1 g1 (b1m hq ra)⟩
    ·rw [qH _ rfl,qR,hlen]
     simp
    ·rw [qL.mp hc]
     exact I1.fpOk (qN _) (I1.hok.fresh (qN _))
 ·cases e
end
end L2.L3
namespace L2.L3
open PySem PySem.Spec PySem.Calls PyProof.Rows
def ItI (a:Addr) (ob:Obj) (kvs:List (Key×V)):It:=
 ⟨λk H=>H a=some (.frz ob (.dK kvs))/\∃ p,kvs[k]?=some p,λk H v H'=>∃ T p,kvs[k]?=some p/\H T=none/\v=.ref T/\H'=upd H T (.tup [kV p.1,p.2]),λk H=>H a=some (.frz ob (.dK kvs))/\kvs.length<=k⟩
theorem b2g {α β:Type} {F:α->β->Prop}:∀ {l:List α} {m:List β} {i:Nat} {a:α},Paired F l m->l[i]?=some a->∃ b,m[i]?=some b/\F a b
 | _,_,_,_,.nil,e=>by simp at e
 | _,_,0,_,.cons r _,e=>by simp at e;subst e;exact ⟨_,rfl,r⟩
 | _,_,i+1,a,.cons _ t,e=>by
  obtain ⟨u,h1,h2⟩:=b2g (i:=i) (a:=a) t (by simpa using e);exact ⟨u,by simpa using h1,h2⟩
def a5c:uy table "dict_itemiterator.__iter__" = some Builtin.«dict_keyiterator.__iter__»:=uk (id' := "dict_keyiterator.__iter__") (by kernel_rfl) rfl (by decide +kernel) (by kernel_rfl)
def b2Y {k:Key} (h:(aW P w).is k u=true):RelV (kV k) u:=by
 rcases cA h with ⟨i,t,rfl,rfl⟩ | ⟨x,t,rfl,rfl⟩
 ·exact ⟨t,rfl⟩
 ·exact ⟨t,rfl⟩
variable {es:Array QJ}
def a7T (I:Inv X pz σ H s) (h:H a=some (.frz ob (.dK kvs))) (hd:ob.data=.dict es ep):
  ∃ vs,KV kvs vs/\s.heap.DictAt (aW X.prog X.w) a vs ep:=by
 obtain ⟨g,z,lo,vs,rel,dd⟩:=I.hok a _ h;obtain ⟨ep',o,es',g1,r1,r2,r3⟩:=dd.dictAt;rw [g] at g1;cases g1;rw [hd] at r2;cases r2;exact ⟨vs,rel,ob,es,g,r1,hd,r3⟩
def a7h {K:qC} (hd:ob.data=.dict es ep) (hne:a≠it):
  Turn P w K (.Tuple pq k0 p0) (ItI a ob kvs) [it] it (λk h=>∃ ok ov,IsItemIter h it a k kvs.length ep ok ov) where
 mem:=by simp
 obj:=λi h ⟨ok,ov,st⟩ b hb=>by
  have e:b=it:=by simpa using hb
  subst e;exact ⟨_,st,λv z=>by cases z⟩
 keep:=λi h h' ⟨ok,ov,st⟩ k=>⟨ok,ov,k it (by simp) _ st⟩
 item:=by
  intro X hP hw hK hc i pz s σ H E I hf ⟨ok,ov,st⟩ ⟨ha,p,hp⟩;subst hP hw hK;obtain ⟨vs,rel,dat⟩:=a7T I ha hd;obtain ⟨q,eq,e1,r2⟩:=b2g rel hp;rw [show kvs.length=vs.length from rel.length] at st;refine wpAny_pyNext_items_item (k:=q.1) (v:=q.2) st dat eq λkey h' hk st' hT hsz kp=>⟨_,rfl,?_⟩;refine wpAny_letOwnedTupleGo_items st' λh2 st2 sb=>?_;have nT:s.heap.objs.size≠it:=jW (qM st);have hk2:∀ c o,c∉[it]->s.heap.get? c=some o->h2.get? c=some o:=λc o hc q=>by
   have hc:c≠it:=by simpa using hc
   exact (sb.2 c hc).trans (kp c o hc q)
  have new:bZ X.prog X.w (upd H s.heap.objs.size (.tup [kV p.1,p.2])) h2 s.heap.objs.size (.tup [kV p.1,p.2]):=
   ⟨by show 2<=j5;decide,[key,q.2],.cons (by rw [e1];exact b2Y hk) (.cons r2 .nil),⟨_,(sb.2 _ nT).trans hT,rfl,_,rfl⟩⟩
  have hfT:H s.heap.objs.size=none:=I.hok.fresh (qN _);refine ⟨.ref s.heap.objs.size,upd H s.heap.objs.size (.tup [kV p.1,p.2]),Inv.turnNew (s:=s) (h':=h2) (t':=s.toks) [it] I (λc hc=>hf c hc) hk2 (qN _) new,rfl,⟨_,p,hp,hfT,rfl,rfl⟩,⟨key,q.2,?_⟩,λc hc=>?_⟩
  ·rw [show kvs.length=vs.length from rel.length];exact st2
  ·rw [qL.mp hc,aE (jJ nT)]
   exact (hf it (by simp)).1
 done:=by
  intro X hP hw hK hc i pz s σ H E I hf ⟨ok,ov,st⟩ ⟨ha,hl⟩;subst hP hw hK;obtain ⟨vs,rel,dat⟩:=a7T I ha hd;rw [show kvs.length=vs.length from rel.length] at st hl;obtain ⟨f0,f1,f2,f3,f4,f5⟩:=hf it (by simp);exact wpAny_pyNext_items_end (I.ok.hd hc) st dat (qb hl) λh' eb=>⟨rfl,I.turned (t':=s.toks) (λb o hb e=>eb b o hb e) f0 f1 f3 f4 f5⟩
 self:=λA i s Q E ⟨ok,ov,st⟩ h=>by
  have hty:s.TypeIs (.ref it) "dict_itemiterator" := ⟨_,st,rfl⟩;refine uo hty F.slot_dict_itemiterator_iter (j9 F.slot_dict_itemiterator_iter hty a5c ?_ (F.args_dict_itemiterator_iter_1 _));show wpAny _ _ (PySem.ret (qw it)) _ _ s;exact j3 ⟨_,rfl, "dict_itemiterator", _,hty,F.slot_dict_itemiterator_next.lookup,h⟩
def a7d {K:qC} {D:List (j0×j0)} (ha:G a=some (.frz ob (.dK kvs))) (e0:D.map (·.1)=kvs.map λp=>eC p.1) (rr:RepAll K G (kvs.map (·.2)) (D.map (·.2))):
  Walk K (ItI a ob kvs) G (D.map λp=>.tuple [p.1,p.2]):=by
 intro i G' H' s1 s2;have hl:D.length=kvs.length:=by have:=congrArg zV e0;simpa using this
 refine ⟨λd e=>?_,λh=>⟨s2 _ _ (s1 _ _ ha),by rw [qE] at h;omega⟩⟩;rw [qQ] at e;obtain ⟨q,eq,rfl⟩:=qO.mp e;have hi:i<kvs.length:=by rw [<-hl];exact (qS.mp eq).1
 have ep:kvs[i]?=some kvs[i]:=qK hi;refine ⟨⟨s2 _ _ (s1 _ _ ha),_,ep⟩,λx H2 ⟨T,p,ep',hT,ex,eH⟩=>?_⟩;rw [ep] at ep';cases ep';subst ex eH;have hG:G' T=none:=s2.free hT;have ek:q.1=eC kvs[i].1:=by
  have h1:(D.map (·.1))[i]?=some q.1:=by rw [qQ,eq];rfl
  rw [e0,qQ,ep] at h1;exact (qB h1).symm
 obtain ⟨v,ev,rv⟩:=rr.get (i:=i) (d:=q.2) (by rw [qQ,eq];rfl);rw [qQ,ep] at ev;cases ev;refine ⟨upd G' T (.tup [kV kvs[i].1,kvs[i].2]),.put s2 hT,.tuple (.of aG) (.cons ?_ (.cons ((rv.mono s1).mono (bF hG)) .nil))⟩;rw [ek];cases kvs[i].1 with
 | inl i=>exact .int i
 | inr x=>exact .str x
def c1X (K:qC) (F:List j0->j0->Prop):Sp:=λvs H Q _=>∃ G ds d,(bG G H/\nO K G H)/\RepAll K G vs ds/\F ds d/\∀ a G' H',Grow G H G' H'->H a=none->Rep K G' (.ref a) d->Q (.ref a) H'
structure CalleeD (P:Program) (w:World) (K:qC) (mg:T0d) (base:Heap) (x:Str) (k:Nat) (ps:T0q) (F:List j0->Mm j0):Prop where
 ex:∃ f fd,mg x=some (.ref f)/\jj K (.ref f)=true/\Binds K fd ps []/\FnOk P w K mg base CX0 k f fd ps (c1X K λds d=>F ds=some (.ok d))
section
variable {K:qC} {x:Str} {F:List j0->Mm j0}
theorem CalleeD.weak (C:CalleeD P w K mg base x k ps F):bC P w K mg base x k ps F:=by
 obtain ⟨f,fd,a,b,c,Fk⟩:=C.ex;exact ⟨f,fd,a,b,c,Fk.imp λvs H Q E ⟨G,ds,d,h1,h2,h3,h4⟩=>⟨G,ds,d,h1,h2,h3,λa G' H' g _ r=>h4 _ G' H' g r⟩⟩
def a6S (m n:Nat) (D:Def K mg x st) (S:FnScope N ps (aD st)) (hm:N.length=m) (hn:ps.length=n)
  (hb:∀ (kV doc pm:Value) (an:T0k) (cdv ct:Value) (us:T0m),us.length=ps.length->ug (jV x x (eK st) (bR st) (aD st) .none kV doc pm an cdv ct) ⟨us,[]⟩=pure (ps.zip us))
  (hB:bR st=[.Return (some (.Call (.Name "dict" p) [e] [] pos)) pos2]) (hdict:mg "dict" = none)
  (body:∀ (fa:Addr) (cdv:Value) (A:Around) (outer:List Env) (s:Shared) (H:Hp) (E:XK),Room k (A.deeper (uf x (aD st) s.heap.objs.size fa cdv))->DE (fcx P w K mg base N x (aD st) fa cdv A outer s H E) e fe /\
   Gl (fcx P w K mg base N x (aD st) fa cdv A outer s H E) "dict" /\ (fcx P w K mg base N x (aD st) fa cdv A outer s H E).calm=true /\
   j4 [e] (fcx P w K mg base N x (aD st) fa cdv A outer s H E).env=(false,eval e (fcx P w K mg base N x (aD st) fa cdv A outer s H E).env)::j4 [] (fcx P w K mg base N x (aD st) fa cdv A outer s H E).env /\
   (v0 pos (j4 [] (fcx P w K mg base N x (aD st) fa cdv A outer s H E).env)).any (·.1)=false):
  CalleeD P w K mg base x (k+1) ps (bS m n (retS (dG uA (aC fe aI)))):=by
 obtain ⟨fa,fd,Fu,hmg⟩:=D.ex;refine ⟨fa,fd,hmg,Fu.kp,Fu.binds hb,Fu.ok S (λvs H Q E ⟨G,ds,d,s,r,hF,_⟩=>?_) (λcdv A outer s H vs Q E hr ⟨G,ds,d,sm,r,hF,q⟩=>?_)⟩
 ·have hF:bS m n (retS (dG uA (aC fe aI))) ds=some (.ok d):=hF
  unfold bS at hF;split at hF
  ·rename_i hl;rw [r.length,hl,hn]
  ·cases hF
 ·obtain ⟨he,hg,hc,hs,hpl⟩:=body fa cdv A outer s H E hr
  have hF:bS m n (retS (dG uA (aC fe aI))) ds=some (.ok d):=hF;rw [hB];refine ⟨_,a4E (b2d (a3w (b0R hc) hg hdict boot_dict (aA he aF hs).run (by decide) (by decide) hs hpl)),?_⟩;unfold bS at hF;split at hF
  ·rw [<-hm,<-sU] at hF
   have hr':∃ xs,aC fe aI (gJ N ds)=some (.ok xs)/\uA xs=some d:=by
    unfold retS dG at hF;cases ha:aC fe aI (gJ N ds) with
    | none=>rw [ha] at hF;cases hF
    | some r=>
     cases r with
     | ex c=>rw [ha] at hF;cases hF
     | ok xs=>
      rw [ha] at hF;refine ⟨xs,rfl,?_⟩;cases hd:uA xs with
      | none=>simp [bnd,bns,lft,hd] at hF
      | some d'=>
       simp [bnd,bns,lft,hd] at hF;rw [hF]
   obtain ⟨xs,e1,e2⟩:=hr';refine ⟨gJ N ds,_,H,G,G,e1,gB sm r,λvs1 G1 H1 g1 rv=>?_⟩;unfold uA at e2;split at e2
   ·split at e2
    ·rename_i ys ks e3
     split at e2
     ·rename_i hh
      rw [qJ,decide_eq_true_eq,decide_eq_true_eq] at hh;cases (qB e2);cases rv with
      | cons rv rr=>
       cases rr;cases rv with
       | list hq r=>
        obtain ⟨kvs,p1,p2,p3⟩:=a3x r e3;have hl:kvs.length=ks.length:=by have:=congrArg zV p2;simpa using this
        refine ⟨_,_,kvs,rfl,g1.sub.seq hq,Paired.mapP p1 (λa b ⟨t,e1,e2⟩=>⟨t,e1,nV g1.sub e2⟩),by rw [p2];exact hh.1,by omega,λl hl=>?_⟩;refine q l _ _ (g1.trans (.put g1.sub hl)) (g1.hh.free hl) (.dict (.inl aG) ?_ ?_)
        ·rw [qT]
         have:ks.map ((λx=>x.1)∘λp:Key×j0=>(eC p.1,p.2))=(ks.map (·.1)).map eC:=by rw [qT];rfl
         rw [this,<-p2,qT];rfl
        ·rw [qT]
         exact p3.mono (bF (g1.sub.free hl))
     ·cases e2
    ·cases e2
   ·cases e2
  ·cases hF
end
def b0A {G2:Hp} (I:Inv X pz σ H2 s) (sg:bG G H) (g:Grow G H G2 H2) (hf:H a=none) (hb:Rd G2 a (.dK kvs)):
  ∃ ob es ep G3 H3,ob.data=.dict es ep/\Inv X pz σ H3 s/\Grow G H G3 H3/\G3 a=some (.frz ob (.dK kvs)):=by
 rcases hb with hb | ⟨ob,hb⟩
 ·have hHa:=g.sub _ _ hb
  obtain ⟨z,lo,vs,rel,dd⟩:=a6F I.hok hHa;obtain ⟨ob,es0,ep,hob,hr1,hr2,hr3⟩:=id dd;have nfr:∀ ob u,X.H₀ a≠some (.frz ob u):=λob' u y=>by
   have:=I.base.frzs a ob' u y;rw [hHa] at this;cases this
  refine ⟨ob,es0,ep,upd G2 a (.frz ob (.dK kvs)),upd H2 a (.frz ob (.dK kvs)),hr2,Inv.as (o':=.frz ob (.dK kvs)) I hHa (by nofun) nfr (by nofun) (by nofun) ⟨hob,z,lo,vs,rel,dd⟩,?_,aG⟩;refine ⟨λb o e=>?_,⟨λb o e n=>?_,λb ps e=>?_,λP q t=>Tab.as hHa (by nofun) (by unfold cdO;nofun) (g.hh.tab P q t)⟩,yQ g.sub,λx e n=>?_,λn=>(g.nt n).upd (by nofun)⟩
  ·rw [aE (aR e (sg.free hf))];exact g.gg b o e
  ·rw [aE (aR e hf)];exact g.hh.keep b o e n
  ·rw [aE (aR e hf)];exact g.hh.tbl b ps e
  ·rw [aE (λz=>n (by rw [z];exact hf))];exact g.new x e n
 ·obtain ⟨hob,z,lo,vs,rel,dd⟩:=I.hok a _ (g.sub _ _ hb)
  obtain ⟨o,es0,ep,hob',hr1,hr2,hr3⟩:=id dd;rw [hob] at hob';cases hob';exact ⟨ob,es0,ep,G2,H2,hr2,I,g,hb⟩
noncomputable def b3c (F:List j0->Mm j0) (fA:AF):AF:=λρ=>match fA ρ with
 | some (.ok ds)=>(match F ds with
  | some (.ok (.dict D))=>if D.all λp=>(oG p.1).isSome&&rX p.2 then some (.ok (D.map λp=>.tuple [p.1,p.2])) else none
  | _=>none)
 | _=>none
section
variable {es:T0n} {yp cp0:Pos} {y:Str} {F:List j0->Mm j0} {fA:AF}
def b3X (C:CalleeD X.prog X.w X.K X.mg X.base y k ps F) (hr:Room k X.A) (ha:DA X (e::es) fA) (hg:Gl X y:=by rfl) (hdb:(y==("__debug__" : Str))=false:=by decide)
  (he:j4 (e::es) X.env=(false,eval e X.env)::j4 es X.env:=by rfl) (hpl:(v0 cp0 (j4 es X.env)).any (·.1)=false:=by rfl)
  (m:M0 X (.Call (.Name y yp) (e::es) [] cp0) "items" apos cpos:=by exact ⟨rfl,rfl,rfl,rfl⟩):
  DI X (.Tuple pq k0 p0) (.Call (.Attribute (.Call (.Name y yp) (e::es) [] cp0) "items" apos) [] [] cpos) (b3c F fA):=a9r λρ r e0=>by
 unfold b3c at e0;split at e0
 ·rename_i ds e1
  split at e0
  ·rename_i D ed
   split at e0
   ·rename_i hz
    refine ⟨_,(qB e0).symm,⟨?_⟩⟩;intro pz s σ H R I ⟨H0,Gz,G,S,q⟩;obtain ⟨f,fd,a1,a2,a3,Fk⟩:=C.ex
    refine wpAny_Call_method m.base m.few m.line vM PySem.F.slot_dict_items PySem.F.type_dict_items (thn (a8I Fk hr hg a1 a2 a3 .nil (a8L (X:=X)) ha.run hdb he hpl pz s σ H (λv H2=>∃ a G2,v=.ref a/\Grow G H G2 H2/\H a=none/\Rep X.K G2 (.ref a) (.dict D)) I
     ⟨ρ,_,H0,Gz,G,e1,S,λvs G1 H1 g1 rv=>⟨G1,ds,.dict D,⟨g1.sub,S.tab.more g1⟩,by simpa using rv,ed,λa G2 H2 g2 hf rd=>⟨a,G2,rfl,g1.trans g2,g1.hh.free hf,rd⟩⟩⟩) λu s1 ⟨x,H1,I1,rx,a,G2,ex,g,hf,rd⟩=>?_)
    subst ex;obtain rfl:u=qw a:=rx;cases rd with
    | fil _ _=>exact absurd hz (by simp [oG])
    | @dict _ kvs _ hb ek rr=>
     obtain ⟨ob,es0,ep,G3,H3,hod,I3,g3,hG3⟩:=b0A I1 S.sub g hf hb;have hp:(D.map (·.2)).all rX=true:=by
      rw [List.all_map];refine qe.mpr λp hp=>?_;have:=qe.mp hz p hp;rw [qJ] at this;exact this.2
     have rr3:RepAll X.K G3 (kvs.map (·.2)) (D.map (·.2)):=RepAll.plain hp rr;obtain ⟨vs,rel,dat⟩:=a7T I3 (g3.sub _ _ hG3) hod;obtain ⟨hob,z,lo,vs',rel',dd⟩:=I3.hok a _ (g3.sub _ _ hG3);obtain ⟨t1,t2,_⟩:=b3h I3 (.inl ⟨kvs,.inr ⟨ob,g3.sub _ _ hG3⟩⟩);refine ⟨t1,t2,?_⟩;rw [m.trees];refine zn rfl (vw ?_);refine call_meetsIn PySem.F.slot_dict_items dd.typeIs PySem.F.entry_dict_items (PySem.F.args_dict_items_1 _) (meets_dict_items (aW X.prog X.w) a lo) ⟨⟨vs',dd⟩,?_⟩;have lt:a<s1.heap.objs.size:=qM hob;have hv:(s1.heap.push { cls:=.type "dict_items", data:=.fields #[.ref a] }).IsItemsView s1.heap.objs.size a:=⟨_,qH _ rfl,rfl,rfl⟩;refine wpAny_pyIter_items (knd:=aW X.prog X.w) (ep:=ep) hv (dat.push _) ?_;have sz:(s1.heap.push { cls:=.type "dict_items", data:=.fields #[.ref a] }).objs.size=s1.heap.objs.size+1:=qu ..;refine ⟨_,[(s1.heap.push { cls:=.type "dict_items", data:=.fields #[.ref a] }).objs.size],_,_,H3,rfl,I3.kept (t':=s1.toks) (λb o e=>qD _ (qD _ e)),a7h (ob:=ob) (kvs:=kvs) hod (by rw [sz];exact qW (jm lt)),⟨.none,.none,?_⟩,λc hc=>?_,q _ G3 H3 g3 (a7d hG3 ek rr3)⟩
     ·rw [show kvs.length=vs.length from rel.length]
      exact qH _ rfl
     ·rw [qL.mp hc]
      have ge:s1.heap.objs.size<=(s1.heap.push { cls:=.type "dict_items", data:=.fields #[.ref a] }).objs.size:=by rw [sz];exact jx _
      exact I3.fpOk ge (I3.hok.fresh ge)
   ·cases e0
  ·cases e0
 ·cases e0
end
end L2.L3
namespace L2.L3
open PySem PySem.W PyProof.Rows PySem.Calls
variable {b:Addr} {n:Str} {xs:Array Value} {xr yr ks:List Value} {v:Value}
def b2N {m:Str} {t u:Tok} {P:PySem.Fin->Shared->Prop} (ha:IsTup s.heap a xs) (hx:xs.toList=.str n t::xr) (hb:IsTup s.heap b ys) (hy:ys.toList=.str m u::yr) (hne:n≠m)
  (h:P (.done (.ret (.bool (decide (n.cps.toList<m.cps.toList))))) s):wpAny (model prog w) A (Builtin.«tuple.__lt__» ⟨[.ref a,.ref b],[]⟩) P E s:=by
 have hTb:s.TypeIs (.ref b) "tuple" := hb.typeIs;obtain ⟨oa,hoa,_,na,hda⟩:=ha;obtain ⟨ob,hob,_,nb,hdb⟩:=hb;show wpAny _ _ (isInstance (.ref b) (.type "tuple")>>=_) _ _ s;refine q8 (yh hTb isSubtype_tuple_tuple ?_);simp only [vV,qt,if_false];refine q8 (QE hoa hda ?_);refine q8 (QE hob hdb ?_);refine q8 ?_;rw [hx,hy,List.zip_cons_cons,zx];refine q8 (q8 (wpAny_eqBool_str ?_));rw [decide_eq_false hne];simp only [Bool.not_false,if_true];refine q8 (wp (q8 ?_));refine lt_str ?_;exact q8 (j3 (j3 (j3 (j3 h))))
def b5T {m:Str} {t u:Tok} (hu:A.units<cLine) (ha:IsTup s.heap a xs) (hx:xs.toList=.str n t::xr) (hb:IsTup s.heap b ys) (hy:ys.toList=.str m u::yr) (hne:n≠m)
  (h:Q (.bool (decide (n.cps.toList<m.cps.toList))) s):wpAny (model prog w) A (wf .Lt (.ref a) (.ref b)) Q E s:=
 wpAny_richCompare_same_room (op:=.Lt) ha.typeIs hb.typeIs F.slot_tuple_lt (j9 F.slot_tuple_lt ha.typeIs F.entry_tuple_lt (b2N ha hx hb hy hne ⟨_,rfl,(λe=>nomatch e),h⟩) (F.args_tuple_lt_2 _ _)) hu
def okK:j0->Bool
 | .tuple [.int _,.tuple (.str n::r)]=>qp (.tuple (.str n::r))
 | _=>false
def flK:j0->j0
 | .tuple [.int i,.tuple (.str n::_)]=>.tuple [.int i,.str n]
 | _=>.none
def a1U (h:okK d=true):∃ i n r,d=.tuple [.int i,.tuple (.str n::r)]/\qp (.tuple (.str n::r))=true:=by
 unfold okK at h;split at h
 ·exact ⟨_,_,_,rfl,h⟩
 ·cases h
def b6o (i j:Int) (n m:Str):ltT (.tuple [.int i,.str n]) (.tuple [.int j,.str m])=if i=j then (if n=m then false else decide (n.cps.toList<m.cps.toList)) else decide (i<j):=by
 show ltR [.int i,.str n] [.int j,.str m]=_;by_cases c:i=j
 ·subst c
  by_cases c2:n=m
  ·subst c2;simp [ltR,eqC]
  ·simp [ltR,eqC,c2,ltC,cO]
 ·simp [ltR,eqC,c,ltC]
def uK {i:Int} {r:T0l} {as:T0o} (h:Reads s.heap v (.tuple [.int i,.tuple (.str n::r)]) as):∃ a o xs k t b bs,v=.ref a/\s.heap.get? a=some o/\o.cls=.type "tuple" /\ o.data=.seq xs k/\xs.toList=[.int i t,.ref b]/\Reads s.heap (.ref b) (.tuple (.str n::r)) bs /\
  ∃ ys u yr,IsTup s.heap b ys/\ys.toList=.str n u::yr:=by
 cases h with
 | @tuple a o xs k _ _ hg hc hd rr=>
  generalize hv:xs.toList=vl at rr;cases rr with
  | cons z rr=>
   cases z with
   | int _ t=>
    cases rr with
    | cons z2 rr=>
     cases rr;cases id z2 with
     | @tuple b ob ys kb _ _ gb cb db rb=>
      generalize hv2:ys.toList=vl2 at rb;cases rb with
      | cons z3 rb=>
       cases z3 with
       | str _ u=>exact ⟨a,o,xs,k,t,b,_,rfl,hg,hc,hd,hv,z2,ys,u,_,⟨ob,gb,cb,kb,db⟩,hv2⟩
def b5Y {e:j0} {as bs:T0o} {Q:Bool->Shared->Prop} (hu:A.units+64<cLine) (rd:Reads s.heap v d as) (re:Reads s.heap u e bs) (hd:okK d=true) (he:okK e=true) (inj:flK d=flK e->d=e) (q:Q (ltT (flK d) (flK e)) s):
  wpAny (model prog w) A (keyLt' (tuples' true) v u) Q E s:=by
 obtain ⟨i,n,r,rfl,s1⟩:=a1U hd;obtain ⟨j,m,r',rfl,s2⟩:=a1U he;obtain ⟨a,o,xs,k,t,b,bs1,rfl,g1,_,g3,g4,rb,ys,tu,yr,ib,yb⟩:=uK rd;obtain ⟨a',o',xs',k',t',b',bs2,rfl,g1',_,g3',g4',rb',ys',tu',yr',ib',yb'⟩:=uK re;refine kat_lt g1 g3 g1' g3' ?_;have z1:xs.size=2:=by rw [<-qP,g4];rfl
 have z2:xs'.size=2:=by rw [<-qP,g4'];rfl
 rw [z1,z2,g4,g4'];rw [show decide (2<2)=false by decide];have q':Q (ltT (.tuple [.int i,.str n]) (.tuple [.int j,.str m])) s:=q
 clear q
 rw [b6o] at q';show KatLex prog w A true false Q [(vd i t,vd j t'),(qw b,qw b')] 0 s;refine kat_cons (SeqAt.EqAt.int_int _ _ _ _ _ _ _ _ ?_);by_cases c:i=j
 ·subst c
  rw [if_pos rfl] at q';rw [beq_self_eq_true];refine kat_yes (kat_cons (SeqAt.eqAt_reads _ _ A s _ _ _ _ rb rb' (zm s1) (zm s2) (SeqAt.room_of_shaped s1 hu) _ _ _ _ ?_));by_cases c2:n=m
  ·subst c2
   rw [if_pos rfl] at q';have:(vW [.int i,.tuple (.str n::r)])=.tuple [.int i,.tuple (.str n::r')]:=inj rfl;cases this;rw [SeqAt.eqv_refl _ (zm s1)];exact kat_yes (kat_nil q')
  ·rw [if_neg c2] at q'
   have:jd (.tuple (.str n::r)) (.tuple (.str m::r'))=false:=by
    rw [jd,ko,jd,beq_eq_false_iff_ne.mpr c2,vv]
   rw [this];exact kat_no (kat_one _ _ (b5T (by omega) ib yb ib' yb' c2 q'))
 ·rw [if_neg c] at q'
  rw [beq_eq_false_iff_ne.mpr c];exact kat_no (a8N _ _ _ _ _ q')
def b6q (rd:Rows s.heap ks nks) (hk:∀ d∈nks,okK d=true):∃ fs:List Value,KatTups s.heap ks fs/\fs.length=ks.length/\∀ v∈fs,∃ i t,v=.int i t:=by
 induction rd with
 | nil=>exact ⟨[],.nil,rfl,λv hv=>by cases hv⟩
 | @cons v vs d ds as r _ ih=>
  obtain ⟨fs,t,l,a⟩:=ih λd hd=>hk d (qF _ hd);obtain ⟨i,n,r',rfl,_⟩:=a1U (hk d (by simp));obtain ⟨ad,o,xs,k,tk,b,bs1,rfl,g1,g2,g3,g4,_⟩:=uK r;refine ⟨.int i tk::fs,KatTups.cons g1 g2 g3 (by rw [<-ju,g4];rfl) t,by simp [l],λv hv=>?_⟩;rcases qG.mp hv with rfl | hv
  ·exact ⟨_,_,rfl⟩
  ·exact a v hv
theorem KeyS.ofN (hu:A.units+64<cLine) (rd:Rows s.heap ks nks) (hk:∀ d∈nks,okK d=true) (inj:∀ d∈nks,∀ e∈nks,flK d=flK e->d=e):KeyS prog w A s ks (nks.map flK):=by
 have ln:=rd.len;refine ⟨λhn E Q q=>?_,λi j E Q hi hj q=>?_⟩
 ·obtain ⟨fs,t,l,a⟩:=b6q rd hk
  refine kat_kind (T:=.type "int") t (by omega) (λv hv=>?_) (by decide) q;obtain ⟨i,t,rfl⟩:=a v hv;exact Looks.of_pure rfl
 ·obtain ⟨as,ri⟩:=rd.at i hi
  obtain ⟨bs,rj⟩:=rd.at j hj;have at':∀ i,i<nks.length->nks.getD i .none∈nks/\(nks.map flK).getD i .none=flK (nks.getD i .none):=λi hi=>by
   refine ⟨?_,?_⟩
   ·rw [qk,qK hi];exact jy hi
   ·rw [qk,qQ,qk,qK hi];rfl
  obtain ⟨mi,ei⟩:=at' i (by omega);obtain ⟨mj,ej⟩:=at' j (by omega);rw [ei,ej] at q;exact b5Y hu ri rj (hk _ mi) (hk _ mj) (inj _ mi _ mj) q
noncomputable def a1H (ds nks:T0l):Option j0:=if nks.all okK&&decide ((nks.map flK).Nodup)&&decide (nks.length<64) then (a7m ds (nks.map flK)).map .list else none
def b6p (h:okK d=true):cB [true,false] (flK d)=true:=by
 obtain ⟨i,n,r,rfl,_⟩:=a1U h;rfl
def b0d (h:(nks.map flK).Nodup):∀ d∈nks,∀ e∈nks,flK d=flK e->d=e:=by
 intro d hd e he h1;obtain ⟨i,hi,rfl⟩:=jz.mp hd;obtain ⟨j,hj,rfl⟩:=jz.mp he;have:i=j:=(wc (i:=i) (j:=j) (h₀:=by simpa using hi) (h₁:=by simpa using hj) h).mp (by simpa using h1);subst this;rfl
end L2.L3
namespace L2.L3
open PySem PySem.Spec PySem.Calls PyProof.Rows
variable {y:Str} {c:Addr} {body:Expr}
section
variable {K:qC}
theorem RepS.capV (R:RepS K H0 Gz G H σ ρ) (cap:T0e) (r:Rep K G v d):RepS K H G G H (some v::gG cap σ) (.val d::bY cap ρ):=by
 have R1:=R.cap cap;refine ⟨R1.grow,by simp [R1.len],λi o e h1 h2=>?_,Inj.free (λi e h=>?_),R1.tab⟩
 ·cases i with
  | zero=>
   simp at h1 h2;subst h1 h2;exact ⟨v,rfl,r⟩
  | succ i=>exact R1.ent i o e (by simpa using h1) (by simpa using h2)
 ·cases i with
  | zero=>simp at h;subst h;rfl
  | succ i=>exact a0s cap ρ i e (by simpa using h)
def b3i {cd:Value} {cl:T0f} {outer:List Env} {E:XK} {tk:Nat} {x:V} {m:T0d} 
  (hk:scope.kind=.function) (hnc:∀ x∈scope.names,x.2≠.cell) (hy:scope.names.lookup y=some .local) (hd:A.handled=none) (e0:Env0 P w K mg base A outer s H) (C:Caps cl scope N σ H s.heap) (hns:h1.Ns s.heap.objs.size m) (hm:m y=some u) (rx:RelV x u)
  (kp:∀ b o,s.heap.get? b=some o->h1.get? b=some o):
  Inv (cxL P w K mg base (y::N) (b0n qual scope s.heap.objs.size f cd cl) A outer s H E) [] (some x::σ) H { s with heap:=h1,toks:=tk }:=by
 have noA:∀ b:Addr,b∉(cxL P w K mg base (y::N) (b0n qual scope s.heap.objs.size f cd cl) A outer s H E).ex:=λb z=>absurd (show b∈([]:T0o) from z) (by simp);have cellK:∀ c v,s.heap.IsCell c v->h1.IsCell c v:=λc v ⟨o,ho,hd⟩=>⟨o,kp _ _ ho,hd⟩
 refine ⟨⟨e0.mod,hk,rfl,rfl,qN _,C.inj,λy hy=>?_,(λy c z _=>nomatch z),λ_=>hd,Around.frames_deeper e0.frames,.inr ⟨rfl,rfl⟩,λb z=>absurd z (noA b),e0.bs,e0.bsz,λb _ _=>noA b,λb z=>absurd z (noA b),e0.funs,e0.frf⟩,
  rfl,e0.bare,Un.kept kp,⟨m,hns,λi y' v q1 q2 q3=>?_⟩,λy c h=>?_,e0.hok.fresh (qN _),λy c h=>(C.cell y c h).1,λp hp=>absurd (show p∈([]:T0b) from hp) (by simp),e0.hok.kept kp,by show (some x::σ).length=(y::N).length;simp [C.len]⟩
 ·have hy:scope.names.lookup y=some .cell\/scope.names.lookup y=some .free:=hy
  rcases hy with hy | hy
  ·exact absurd rfl (hnc _ (qj hy))
  ·exact C.has y hy
 ·cases i with
  | zero=>
   have q1:some y=some y':=q1;have q2:some (some x)=some (some v):=q2;cases q1;cases q2;exact ⟨u,rx,.inl ⟨hy,hm⟩⟩
  | succ i=>
   obtain ⟨z1,u',c,z2,z3,z4⟩:=C.val i y' v q1 q2;exact ⟨u',z2,.inr ⟨.inr z1,c,z3,cellK c _ z4⟩⟩
 ·obtain ⟨_,v,q⟩:=C.cell y c h
  exact ⟨v,cellK c v q⟩
def b5X {y:Str} {cl:T0f} {outer:List Env} {o:Obj} {x:V} 
  (hr:Room (k+1) A) (e0:Env0 P w K mg base A outer s H) (ho:s.heap.get? f=some o) (hod:o.data=.func (vF "<lambda>" qual params body scope cl pm (.ref c) ct)) (hcd:s.heap.CodeRec (.ref c) qual)
  (hk:scope.kind=.function) (hco:scope.isCoroutine=false) (hge:scope.isGenerator=false) (hnc:∀ x∈scope.names,x.2≠.cell) (hy:scope.names.lookup y=some .local)
  (hb:ug (vF "<lambda>" qual params body scope cl pm (.ref c) ct) ⟨[u],[]⟩=pure [(y,u)])
  (hbody:DE (cxL P w K mg base (y::N) (b0n qual scope s.heap.objs.size f (.ref c) cl) A outer s H E0) body fe)
  (C:Caps cl scope N σ H s.heap) (R:RepS K H G G H (some x::σ) (.val d::ρ)) (rx:RelV x u) (hf:fe (.val d::ρ)=some (.ok kd)):
  yo (model P w) A (.call (.ref f) ⟨[u],[]⟩) (CR (CX1 P w) outer P w H s (λv' H'=>∃ G',Grow G H G' H'/\Rep K G' v' kd) E0) s:=by
 have lim:s.heap.NoLimit:=e0.mod.nolimit.keeps λb o e=>(e0.bs b o e).1;refine PySem.W.kla_callFunE hr.depth ho hod hco hge rfl hcd ?_;rw [hb];refine j3 (wpAny_newFunctionEnv hnc (λz hz=>by obtain rfl:=qL.mp hz;exact hy) (λh1 hns hsb=>?_) hk);have kp:∀ b o,s.heap.get? b=some o->h1.get? b=some o:=λb o e=>hsb.extBut b o (qW (qM e)) (qD _ e);refine ⟨lim.keeps kp,PySem.W.kla_codeExpr ?_⟩;have I:Inv (cxL P w K mg base (y::N) (b0n qual scope s.heap.objs.size f (.ref c) cl) A outer s H E0) [] (some x::σ) H { s with heap:=h1,toks:=s.toks+[(y,u)].length }:=b3i hk hnc hy hr.hd e0 C hns (by simp) rx kp;refine wz (hbody.run [] _ _ H (λv' H'=>∃ G',Grow G H G' H'/\Rep K G' v' kd) I ⟨_,_,H,G,G,hf,R,λv' G' H' g rv=>⟨G',g,rv⟩⟩) (λu' s' hs=>?_) λe s' hs=>hs;obtain ⟨v',H',J,rv,q⟩:=hs;exact ⟨v',H',J.os,J.bare,J.base,J.hok,rv,q⟩
end
noncomputable def a1J (fa:EF) (cap:T0e) (fe:EF):EF:=λρ=>match fa ρ with
 | some (.ok x)=>lft ((a1a x).bind λds=>match nZ (λρ1=>fe (ρ1++bY cap ρ)) ds with
  | some nks=>a1H ds nks
  | none=>none)
 | _=>none
theorem a8O:∀ {nks:T0l},(∀ d∈nks,okK d=true)->noDcs nks=true
 | [],_=>by simp [noDcs]
 | d::r,h=>by
  rw [noDcs,qJ];obtain ⟨i,n,r',rfl,hz⟩:=a1U (h d (by simp));refine ⟨?_,a8O λx hx=>h x (qF _ hx)⟩;simp [rK,noDcs,gE hz];have:=gE hz;simpa [rK,noDcs] using this
structure KJ' (X:Cx) (pz:T0b) (σ:St) (G H:Hp) (f:Addr) (fo:Obj) (a kS:Addr) (kds:T0l) (ks:T0m) (s:Shared):Prop where
 ex:∃ G' H' kvs,Inv X pz σ H' s/\Grow G H G' H'/\nO X.K G' H'/\RepAll X.K G' kvs (kds.take ks.length)/\bB kvs ks/\H' f=none/\H' a=none/\H' kS=none
 fo:s.heap.get? f=some fo
 oa:∃ o,s.heap.get? a=some o
 ok:∃ o,s.heap.get? kS=some o
def b4b {cap:T0e} {x y:Str} {c P:Addr} {a:Expr} {lp:Pos} (hx:x∈fH) (ht:jb X.K x=some (c,P)) (hcode:X.env.code=.ref c)
  (hq:X.env.qual ++ "<lambda>" = lamQ x) (C:kK X.K c P=true) (M:BM X.mg X.base) (hr:Room (k+3) X.A) (hm:X.mg "sorted" = none) (ha:DE X a fa) (B:Blk X scope N' cap) (hco:scope.isCoroutine=false) (hge:scope.isGenerator=false) (hnc:∀ x∈scope.names,x.2≠.cell) (hy:scope.names.lookup y=some .local)
  (hbody:∀ (f c:Addr) (cl:T0f) (A:Around) (outer:List Env) (s:Shared) (H:Hp),Room k (A.deeper (b0n (lamQ x) scope s.heap.objs.size f (.ref c) cl))->DE (cxL X.prog X.w X.K X.mg X.base (y::N') (b0n (lamQ x) scope s.heap.objs.size f (.ref c) cl) A outer s H E0) body fe)
  (hbind:∀ (cl:T0f) (pm ct u:Value) (c:Addr),ug (vF "<lambda>" (lamQ x) params body scope cl pm (.ref c) ct) ⟨[u],[]⟩=pure [(y,u)]:=by intros;rfl)
  (hdef:defaultsOf params X.env=([],[]):=by rfl)
  (he:j4 [a] X.env=(false,eval a X.env)::j4 [] X.env:=by rfl)
  (he':v0 pos (j4 [a] X.env)=(false,eval a X.env)::v0 pos (j4 [] X.env):=by rfl) (hpl:(v0 pos (j4 [a] X.env)).any (·.1)=false:=by rfl)
  (hk1:(yq pos (wu [⟨some "key", .Lambda params body scope lp,kp⟩] X.env)).filterMap (·.1)=[qx "key"]:=by rfl) (hg:Gl X "sorted":=by rfl):
  DE X (.Call (.Name "sorted" p) [a] [⟨some "key", .Lambda params body scope lp,kp⟩] pos) (a1J fa cap fe):=⟨λpz s σ H Q I ⟨ρ,r,H0,Gz,G,ef,R,q⟩=>by
 unfold a1J at ef;refine k6 (iG I hg hm (by rfl:wg "sorted" = some (.builtin "sorted")) ?_ (by decide) (by decide));split at ef
 ·rename_i d e1
  obtain ⟨out0,e3,rfl⟩:=bL ef;obtain ⟨ds,e4,e5⟩:=Option.bind_eq_some_iff.mp e3;split at e5
  ·rename_i nks ek
   unfold a1H at e5;split at e5
   ·rename_i hok
    rw [qJ,qJ] at hok;obtain ⟨out,e6,rfl⟩:=qO.mp e5;have hok1:∀ d∈nks,okK d=true:=λd hd=>qe.mp hok.1.1 d hd;have hinj:=b0d (of_decide_eq_true hok.1.2);have hs:∀ d∈nks.map flK,cB (true::[false]) d=true:=λd hd=>by
     obtain ⟨d',h1,rfl⟩:=qU.mp hd;exact b6p (hok1 d' h1)
    have k64:=of_decide_eq_true hok.2;have kl:=a0c ek;have kl2:(nks.map flK).length=nks.length:=qE _;refine callWith_kw (thn ((gQ (ha.pd e1) mO he).run H0 Gz G pos pz s σ H (λvs H'=>∃ G',Grow G H G' H'/\RepAll X.K G' vs [d]) I R λvs G' H' g r=>⟨G',g,r⟩) λus s1 ⟨vs,H1,I1,r1,G1,g1,w1⟩=>?_) he' hpl;show wpAny _ _ (evalAll ((do let v <-eval (.Lambda params body scope lp) X.env;Qb pos;pure v)::[])) _ _ s1;refine QD (q8 (a6k hx ht hcode hq C M hdef (pR λp hp hk=>I1.ok.has p.1 (.inl (B.free p hp hk))) I1 (R.more g1) λf c' ct pm H2 s2 I2 g2 fo Hf sf hc'=>q8 (y0 (j3 (j3 ?_)))));rw [hk1];cases w1 with | cons wa wn=>
    cases wn;obtain ⟨u,rfl,ru⟩:=vals1 r1;obtain ⟨l,ivs,rfl,hsq,ri⟩:=a1m g2.sub e4 wa;cases ru;obtain ⟨its,T,o,n,hT,ho,hc,hd,rv⟩:=a3p I2 hsq;have l1:=ri.len;have l2:=rv.length;have tb2:nO X.K G1 H2:=((R.more g1).more g2).tab;have nf:f∉frs X.stack:=tF I1 sf;refine a1G hT ho hc hd (by omega) λa kS e1' h' Pn E' hP ga gk kp' hk0 ha0=>?_;have gk':s2.heap.objs.size<=kS:=qi ga (jF gk);have na:a∉frs X.stack:=tF I2 ga;have nk:kS∉frs X.stack:=tF I2 gk';refine a6n (J:=KJ' X pz σ G1 H2 f (zq "<lambda>" (lamQ x) params body scope (xV scope X.env) pm c' ct) a kS nks) (kds:=nks.map flK) (jW gk) hk0 ha0 (by omega) hs (by omega) ?start ?mono ?step ?fin ?done
    case start=>exact ⟨⟨G1,H2,[],I2.kept (t':=s2.toks) kp',.refl g2.sub,tb2,.nil,.nil,Hf,I2.hok.fresh ga,I2.hok.fresh gk'⟩,kp' _ _ fo,⟨_,ha0⟩,⟨_,hk0⟩⟩
    case mono=>
     intro ks s3 h3 ⟨⟨G3,H3,kvs,I3,g3,t3,w3,v3,f3,a3,k3⟩,fo3,oa3,ok3⟩ same sz ok;have fk:f≠kS:=λz=>absurd (qM fo) (by rw [z];exact zi gk');refine ⟨⟨G3,H3,kvs,pD (N:=0) (ch:=[kS]) I2 I3 (λb hb=>?_) (λb hb=>same b (by simpa using hb)),g3,t3,w3,v3,f3,a3,k3⟩,(same f fk).trans fo3,?_,ok⟩
     ·obtain rfl:=qL.mp hb
      exact ⟨gk',k3⟩
     ·obtain ⟨oo,e⟩:=oa3
      exact ⟨oo,(same a (qW gk)).trans e⟩
    case step=>
     intro ks s3 xv hxv ⟨⟨G3,H3,kvs,I3,g3,t3,w3,v3,f3,a3,k3⟩,fo3,oa3,ok3⟩;have hi:ks.length<its.length:=(qS.mp hxv).1;have hdi:ds[ks.length]?=some (ds[ks.length]'(by omega)):=qK (by omega);obtain ⟨kd,ekd,efe⟩:=a2j ek hdi;have efe:fe (.val _::bY cap ρ)=some (.ok kd):=efe;obtain ⟨iv,eiv,riv⟩:=ri.get hdi;obtain ⟨xv',exv,rxv⟩:=rv.get eiv;rw [hxv] at exv;cases exv;have cr:s3.heap.CodeRec (.ref c') (lamQ x):=(I3.hok c' _ (g3.hh.keep c' _ hc' (by unfold cdO;nofun))).1;have r3:Room (k+1) X.A.in1.in1:=hr.in1.in1;have R3:=(R.more g1).more (g2.trans g3);refine uv (wy (b5X r3 I3.env0.in1.in1 fo3 rfl cr B.kind hco hge hnc hy (hbind _ pm ct xv c') (hbody f c' _ _ _ _ _ (r3.deeper _)) (b6Q B I3) (R3.capV cap (riv.mono g3.gg)) rxv efe) λr s4 h4=>?_);cases r with
     | error e=>obtain ⟨_,_,_,_,z,_⟩:=h4;exact jN z
     | ok fl=>
      cases fl with
      | next=>exact jN h4
      | brk=>exact jN h4
      | cont=>exact jN h4
      | ret u4=>
       obtain ⟨v4,H4,os4,bare4,un4,hok4,rv4,G4,g4,w4⟩:=h4;obtain ⟨_,_,I4,_,rfl,rfl⟩:=I3.after (Q:=λv H=>v=v4/\H=H4) (u:=u4) (s':=s4) ⟨v4,H4,os4,bare4,un4,hok4,rv4,rfl,rfl⟩;obtain ⟨oo,eoa⟩:=oa3;obtain ⟨ok',eok⟩:=ok3;have keepA:=un4.keep a oo eoa a3 na (by simp);have keepK:=un4.keep kS ok' eok k3 nk (by simp);refine ⟨⟨⟨G4,_,kvs++[_],I4,g3.trans g4,t3.more g4,?_,Paired.snoc v3 rv4,un4.free f _ fo3 f3 (by simp),un4.free a _ eoa a3 (by simp),un4.free kS _ eok k3 (by simp)⟩,un4.keep f _ fo3 f3 nf (by simp),⟨oo,keepA⟩,⟨ok',keepK⟩⟩,keepA.trans eoa.symm,keepK.trans eok.symm⟩;rw [qf,jg,vG,ekd];exact (w3.mono g4.gg).append (.cons w4 .nil)
    case fin=>
     intro ks s3 hl ⟨⟨G3,H3,kvs,I3,g3,t3,w3,v3,f3,a3,k3⟩,fo3,oa3,ok3⟩;rw [jY (by omega)] at w3;exact KeyS.ofN (hr.in1.in1).units (a4C I3 (w3.mono g3.sub) (a8O hok1) v3) hok1 hinj
    case done=>
     intro pp ks s3 h3 hPm hS ⟨⟨G3,H3,kvs,I3,g3,t3,w3,v3,f3,a3,k3⟩,fo3,oa3,ok3⟩ same sz ⟨cc,hca⟩;refine hP _ ?_;have pl:∀ i∈pp.toList,i<ivs.length:=λi hi=>by
      have:=(zz.mp hPm.perm).mem_iff.mp hi;simp at this;omega
     have I5:Inv X pz σ H3 { s3 with heap:=h3 }:=pD (N:=0) (ch:=[kS,a]) I2 I3 (λb hb=>by
      rcases qG.mp hb with rfl | hb
      ·exact ⟨gk',k3⟩
      ·obtain rfl:=qL.mp hb
       exact ⟨ga,a3⟩) (λb hb=>same b (λz=>hb (by simp [z])) λz=>hb (by simp [z]))
     refine ⟨.ref a,_,a3T (o:=.lst (pp.toList.map λi=>ivs.getD i .non)) I2 I5 ga a3 ⟨?_,pp.toList.map λi=>its.getD i jR,cc,bB.pick rv _ pl,hca⟩,rfl,?_⟩
     ·rw [qE,qP,hPm.size]
      exact jF (nR (by omega))
     ·refine q (.ref a) _ _ ((g1.trans g2).trans (g3.trans (.put g3.sub a3))) (.list (.of aG) ?_)
      rw [a3l (p:=pp.toList) e6 (λi hi=>by have:=pl i hi;omega) hS];exact (ri.pick _ pl).mono (g3.gg.trans (Grow.put g3.sub a3).gg)
   ·cases e5
  ·cases e5
 ·cases ef⟩
end L2.L3
namespace L2.L3
open PySem PySem.Spec PyProof.Rows
def b4v {α:Type} {xs:List α} {p:Int} (h0:0<=p) (h1:p<xs.length) (dflt:α):atI xs p=some (xs.getD p.toNat dflt):=by
 have e:((p.toNat:Nat):Int)=p:=by omega
 have lt:p.toNat<xs.length:=by omega
 have q:=b9E (xs:=xs) p.toNat
 rw [e] at q;rw [q];simp [zw,qK lt]
def b3v {α β:Type} (f:α->β) (xs:List α) (i:Nat) (d:α):(xs.map f).getD i (f d)=f (xs.getD i d):=by
 simp only [zw,qQ];cases xs[i]?<;>rfl
def a5s {α β:Type} (f:α->β) {xs:List α} {p:Int} (h0:0<=p) (h1:p<xs.length) (dflt:α):atI (xs.map f) p=some (f (xs.getD p.toNat dflt)):=by
 rw [b4v h0 (by rw [qE];exact h1) (f dflt),b3v]
def cellOf (ns:T0s) (k:Int):Int:=
 if k<ns.length then ns.getD k.toNat 0 else if ns=[] then 0 else ns.getD (k % (ns.length:Int)).toNat 0*31+k
def drawnOf (ns:T0s) (k:Int):Int:=(cellOf ns k+6151*(k+1))*40692 % 2147483399
def pickOf (ns:T0s) (k many:Int):Int:=(drawnOf ns k*drawnOf ns k+drawnOf ns k / 31) % 2147483629 % many
variable {many:Int}
def xE (ns:T0s) (k:Int) (h:0<many):0<=pickOf ns k many:=Int.emod_nonneg _ (by omega)
def a8F (ns:T0s) (k:Int) (h:0<many):pickOf ns k many<many:=wF _ h
abbrev dN (ns:T0s):j0:=.list (ns.map .int)
def b4Q (h1:∀ d∈ds,jH d=true) (h2:∀ d∈ds,kI d<=n) (h3:n<64):qp (.list ds)=true:=by
 refine a3n (n:=n+1) ?_ ?_ h3
 ·rw [jH];exact xX h1
 ·rw [kI];have:=a0T h2;omega
def b1N (h1:∀ d∈ds,jH d=true) (h2:∀ d∈ds,kI d<=n) (h3:n<64):qp (.tuple ds)=true:=by
 refine a3n (n:=n+1) ?_ ?_ h3
 ·rw [jH];exact xX h1
 ·rw [kI];have:=a0T h2;omega
def b4R (ns:T0s):qp (.list (ns.map .int))=true:=b4Q (n:=1) (λd hd=>by obtain ⟨i,_,rfl⟩:=qU.mp hd;simp [jH]) (λd hd=>by obtain ⟨i,_,rfl⟩:=qU.mp hd;simp [kI]) (by decide)
def b3C {a b:T0l} (h1:qp (.list a)=true) (h2:qp (.list b)=true):eqD (.list a) (.list b)=some (ko a b):=by
 show (if (qp (.list a)&&qp (.list b))=true then some (jd (.list a) (.list b)) else none)=_;rw [h1,h2,if_pos (by rfl),b3A]
def b1O:qp (.list [])=true:=by decide +kernel
def b6s (ds:T0l):ko ds []=ds.isEmpty:=by cases ds<;>simp [ko]
def b3B (h:qp (.list ds)=true):eqD (.list ds) (.list [])=some ds.isEmpty:=by rw [b3C h b1O,b6s]
abbrev a9M:TF:=iC ltD (var 1) (dG iQ (aC (var 0) aI))
abbrev a9L:TF:=iC eqD (var 0) (yZ aI)
noncomputable def a2x:SF:=(aZ (ifS a9M (retS (op2 ixD (var 0) (var 1))) iB) (aZ (ifS a9L (retS (cst (.int 0))) iB) (retS (op2 fF (op2 yY (op2 ixD (var 0) (op2 a7C (var 1) (dG iQ (aC (var 0) aI)))) (cst (.int 31))) (var 1)))))
noncomputable def a2O:List j0->Mm j0:=bS 2 2 a2x
noncomputable def a2w:SF:=(aZ (fT 3 (op2 a7C (op2 yY (op2 fF (aQ a2O (aC (var 0) (aC (var 1) aI))) (op2 yY (cst (.int 6151)) (op2 fF (var 1) (cst (.int 1))))) (cst (.int 40692))) (cst (.int 2147483399)))) (retS (op2 a7C (op2 a7C (op2 fF (op2 yY (var 3) (var 3)) (op2 b6r (var 3) (cst (.int 31)))) (cst (.int 2147483629))) (var 2))))
noncomputable def cS:List j0->Mm j0:=bS 4 3 a2w
variable {f:SF}
def aV {m:Nat} (hl:ds.length=n) (h:f (a7l m ds)=some (.rt d)):bS m n f ds=some (.ok d):=by
 unfold bS;rw [if_pos hl,h]
def a9c {p:Int} (h0:0<=p) (h1:p<ns.length):ixD (.list (ns.map .int)) (.int p)=some (.int (ns.getD p.toNat 0)):=by
 show atI (ns.map jX) p=_;rw [a5s jX h0 h1 0]
def b9l (ns:T0s) (k:Int) (h0:0<=k):a2O [dN ns,.int k]=some (.ok (.int (cellOf ns k))):=by
 refine aV rfl ?_;show a2x [.val (dN ns),.val (.int k)]=_;unfold a2x cellOf;by_cases h1:k<ns.length
 ·rw [gK (d:=.int (ns.getD k.toNat 0)),if_pos h1]
  simp [h1];rw [a5s jX h0 h1 0];simp
 ·rw [aM (ρ':=[.val (dN ns),.val (.int k)]) (by simp [h1]),if_neg h1]
  by_cases h2:ns=[]
  ·subst h2
   rw [gK (d:=.int 0),if_pos rfl];have h:eqD (dN []) (.list [])=some true:=b3B b1O;simp [h]
  ·have he:(ns.map jX).isEmpty=false:=by cases ns with
    | nil=>exact absurd rfl h2
    | cons a r=>rfl
   have h:eqD (dN ns) (.list [])=some false:=by rw [b3B (b4R ns),he]
   rw [aM (ρ':=[.val (dN ns),.val (.int k)]) (by simp [h]),if_neg h2];have lp:(0:Int)<(ns.length:Nat):=by cases ns with
    | nil=>exact absurd rfl h2
    | cons a r=>simp<;>omega
   have a1:=Int.emod_nonneg k (b:=(ns.length:Int)) (by omega);have a2:=wF k lp;have lp':0<ns.length:=by omega
   have ix:ixD (dN ns) (.int (k % (ns.length:Int)))=some (.int (ns.getD (k % (ns.length:Int)).toNat 0)):=a9c a1 a2;have ml:yY (.int (ns.getD (k % (ns.length:Int)).toNat 0)) (.int 31)=some (.int (ns.getD (k % (ns.length:Int)).toNat 0*31)):=a4N (by decide) (by decide);simp only [cF,b2z,b9O,b9P,iX,b4u,dH,b9I,b7n,b7m,b8I,qE,if_pos lp,ix,c1h,ml,uU,a4i]
def b3U (ns:T0s) (k:Int):0<=drawnOf ns k/\drawnOf ns k<2147483399:=⟨Int.emod_nonneg _ (by decide),wF _ (by decide)⟩
def b9i (ns:T0s) (k many:Int) (h0:0<=k) (hm:0<many):cS [dN ns,.int k,.int many]=some (.ok (.int (pickOf ns k many))):=by
 refine aV rfl ?_;show a2w [.val (dN ns),.val (.int k),.val (.int many),.no]=_;have db:=b3U ns k;unfold a2w;rw [aM (ρ':=[.val (dN ns),.val (.int k),.val (.int many),.val (.int (drawnOf ns k))])]
 ·have hsq:yY (.int (drawnOf ns k)) (.int (drawnOf ns k))=some (.int (drawnOf ns k*drawnOf ns k)):=a4N (by omega) (by omega)
  simp [hsq,hm,pickOf]
 ·have h2:yY (.int 6151) (.int (k+1))=some (.int (6151*(k+1))):=a8P (by decide) (by decide)
  have h3:yY (.int (cellOf ns k+6151*(k+1))) (.int 40692)=some (.int ((cellOf ns k+6151*(k+1))*40692)):=a4N (by decide) (by decide);simp [b9l ns k h0,h2,h3,drawnOf]
abbrev a0O:EF:=eT (.nm 0) [none] (fU (var 0)) ttT (op2 ixD (var 0) (cst (.int 0)))
def uP:SF:=(retS a0O)
def fY:List j0->Mm j0:=bS 1 1 uP
def a7W:SF:=(retS (b9F (op1 (isD "int") (var 0)) (b5H (op1 (isD "bool") (var 0)))))
def mF:List j0->Mm j0:=bS 1 1 a7W
@[simp] theorem c2Y (neg:Bool) (k:j0) (fa:EF) (ρ:List Ent):isE neg k fa ρ=bnd (fa ρ) λx=>lft ((isB k x).map λt=>.bool (neg != t)):=rfl
@[simp] theorem b3g (neg:Bool) (k:j0) (fa:EF) (ρ:List Ent):isT neg k fa ρ=bnd (fa ρ) λx=>lft ((isB k x).map λt=>neg != t):=rfl
@[simp] theorem c2s:isB (.bool true) (.bool true)=some true:=rfl
@[simp] theorem c2t:isB (.bool false) (.bool false)=some true:=rfl
@[simp] theorem c2o (ds:T0l):isD "tuple" (.tuple ds)=some (.bool true):=rfl
@[simp] theorem c2q (i:Int):isD "int" (.int i)=some (.bool true):=rfl
@[simp] theorem c2r (i:Int):isD "bool" (.int i)=some (.bool false):=rfl
@[simp] theorem c2p (i:Str):isD "str" (.str i)=some (.bool true):=rfl
@[simp] theorem c1u (g1 g2 g3:j0->j0->Option Bool) (fa fb fc fd:EF) (ρ:List Ent):c1i g1 g2 g3 fa fb fc fd ρ=bnd (fa ρ) λx=>bnd (fb ρ) λy=>bnd (lft (g1 x y)) λt=>if t then bnd (fc ρ) λz=>bnd (lft (g2 y z)) λu=>if u then bnd (fd ρ) λw=>lft ((g3 z w).map .bool) else some (.ok (.bool false)) else some (.ok (.bool false)):=rfl
theorem all_bools (bs:List Bool):allB [.list (bs.map .bool)]=some (.bool (bs.all id)):=by
 show (fK oH (bs.map .bool)).map _=_;rw [hZ (g:=.bool) (λ_=>rfl) bs];rfl
def a5d (s:List Mt) (hz:s.length<=100000):fY [dS s]=some (.ok (.list ((s.map (·.1)).map .str))):=by
 refine aV rfl ?_;show uP [.val (dS s)]=_;have k1:a0O [.val (dS s)]=some (.ok (.list (s.map λm=>.str m.1))):=dX dM (λm=>[.val (dM m)]) (λm=>.str m.1) s (by simp) hz (λm _=>by simp [bY]) (λm _=>by simp);unfold uP;rw [cF,k1,qT];rfl
def b6w (i:Int):mF [.int i]=some (.ok (.bool true)):=by kernel_rfl
@[simp] theorem c3h (a b c d e:α) (r:List α):atI (a::b::c::d::e::r) 4=some e:=by
 unfold atI ixN;rw [if_pos (by decide),if_pos (by simp<;>omega)];rfl
@[simp] theorem c3g (a b c d e f:α) (r:List α):atI (a::b::c::d::e::f::r) 5=some f:=by
 unfold atI ixN;rw [if_pos (by decide),if_pos (by simp<;>omega)];rfl
def aP {F:List j0->Mm j0} (ha:aa ρ=some (.ok ds)) (h:F ds=some (.ok d)):aQ F aa ρ=some (.ok d):=by
 rw [b6R,ha,iX,h]
def c0B (h1:ft ρ=some (.ok false)) (h2:fu ρ=some (.ok false)):orT ft fu ρ=some (.ok false):=by
 rw [c0C,h1,iX,if_neg (by decide),h2]
def hV {g:List j0->Option j0} (ha:aa ρ=some (.ok ds)) (h:g ds=some d):dG g aa ρ=some (.ok d):=by
 rw [b4u,ha,iX,h];rfl
def b7H {f:TF} {b:Bool} (h:f (frzAll ρ)=some (.ok b)):thT f ρ=some (.ok b):=by unfold thT;rw [h]
def fM (ha:fa ρ=some (.ok d)) (hd:a1a d=some ds):fU fa ρ=some (.ok ds):=by
 rw [b1P,ha,iX,hd];rfl
def prs {α:Type}:List α->List (α×α)
 | a::b::r=>(a,b)::prs (b::r)
 | _=>[]
def Flat (f:Int->Int) (cuts:T0s):Prop:=∀ p∈prs cuts,p.1<p.2/\∀ x,p.1<=x->x<p.2->f x=f p.1
theorem xJ:∀ (ns acc:T0s) (x:Int),x∈ns.foldl (λa n=>if n∈a then a else a++[n]) acc↔x∈acc\/x∈ns
 | [],acc,x=>by simp
 | n::ns,acc,x=>by
  rw [jt,xJ ns];by_cases h:n∈acc
  ·rw [if_pos h];simp;constructor
   ·rintro (h1 | h1);exact .inl h1;exact .inr (.inr h1)
   ·rintro (h1 | rfl | h1);exact .inl h1;exact .inl h;exact .inr h1
  ·rw [if_neg h];simp;constructor
   ·rintro ((h1 | h1) | h1);exact .inl h1;exact .inr (.inl h1);exact .inr (.inr h1)
   ·rintro (h1 | h1 | h1);exact .inl (.inl h1);exact .inl (.inr h1);exact .inr h1
def b0j (ns:T0s) (x:Int):x∈lX ns↔x∈ns:=by unfold lX;rw [xJ];simp
theorem rZ:∀ (ns acc:T0s),acc.Nodup->(ns.foldl (λa n=>if n∈a then a else a++[n]) acc).Nodup
 | [],acc,h=>h
 | n::ns,acc,h=>by
  rw [jt];refine rZ ns _ ?_;by_cases hn:n∈acc
  ·rw [if_pos hn];exact h
  ·rw [if_neg hn,kE]
   refine ⟨h,by simp,λa ha b hb=>?_⟩;rw [qL] at hb;subst hb;exact λz=>hn (z▸ha)
def a5V (ns:T0s):(lX ns).Nodup:=rZ ns [] vt
def ssI (ns:T0s):List Int:=sortI (lX ns)
def rR (ns:T0s):(sortI ns).Perm ns:=vy _ _
def a3a (ns:T0s):(sortI ns).Pairwise (·<=·):=by
 have h:=vN (le:=λ(a b:Int)=>decide (a<=b)) (λa b c h1 h2=>by simp only [decide_eq_true_eq] at *;omega) (λa b=>by simp only [vj,decide_eq_true_eq];omega) ns;exact h.imp λh=>by simpa using h
def b5S (ns:T0s) (x:Int):x∈ssI ns↔x∈ns:=by unfold ssI;rw [(rR _).mem_iff,b0j]
def b7R (ns:T0s):(ssI ns).Pairwise (·<·):=by
 have h1:=a3a (lX ns);have h2:(sortI (lX ns)).Nodup:=(rR _).nodup_iff.mpr (a5V ns);exact (h1.and h2).imp λ⟨a,b⟩=>by omega
noncomputable abbrev a6p:EF:=eT (.tp [0,1,2]) [none,none,none,some 1] (fU (var 0)) (b4m leD ltD (var 1) (var 3) (var 2)) (var 0)
noncomputable def lU:SF:=(retS a6p)
noncomputable def pV:List j0->Mm j0:=bS 2 2 lU
noncomputable def oC:SF:=(retS (dG iQ (aC (aQ pV (aC (var 0) (aC (var 1) aI))) aI)))
noncomputable def tL:List j0->Mm j0:=bS 2 2 oC
def cH (m:Int) (x:Mt):Bool:=decide (x.2.1<=m)&&decide (m<x.2.2)
def eJ (s:List Mt) (m:Int):List Str:=(s.filter (cH m)).map (·.1)
def aX (s:List Mt) (m:Int):Int:=((eJ s m).length:Nat)
def a7Z (s:List Mt) (m:Int) (h:s.length<=100000):pV [dS s,.int m]=some (.ok (.list ((eJ s m).map .str))):=by
 refine aV rfl ?_;show lU [.val (dS s),.val (.int m)]=_;unfold lU;have:=fC (t:=.tp [0,1,2]) (cap:=[none,none,none,some 1]) (fi:=fU (var 0)) (ft:=b4m leD ltD (var 1) (var 3) (var 2)) (fe:=var 0) (ρ:=[.val (dS s),.val (.int m)]) dM (λx=>[.val (.str x.1),.val (.int x.2.1),.val (.int x.2.2),.val (.int m)]) (cH m) (λx=>.str x.1) s rfl h (λx _=>rfl) (λx _=>by simp [xM,cH]) (λx _ _=>rfl);rw [cF,bP this];simp [eJ]
def b0F (s:List Mt) (m:Int) (h:s.length<=100000):tL [dS s,.int m]=some (.ok (.int (aX s m))):=by
 refine aV rfl ?_;show oC [.val (dS s),.val (.int m)]=_;simp [oC,a7Z s m h,aX]
theorem pP:∀ (ns acc:T0s),(ns.foldl (λa n=>if n∈a then a else a++[n]) acc).length<=acc.length+ns.length
 | [],acc=>by simp
 | n::ns,acc=>by
  rw [jt];by_cases h:n∈acc
  ·rw [if_pos h];have:=pP ns acc;simp only [qV];omega
  ·rw [if_neg h];have:=pP ns (acc++[n]);simp only [qf,qV,zu] at this ⊢;omega
def a8x (ns:T0s):(ssI ns).length<=ns.length:=by
 unfold ssI;rw [(rR _).length_eq];have:=pP ns [];simpa [lX] using this
variable {s:List Mt}
section
variable {lo hi:Int} {r:T0s}
end
def ifF {t:TF} {g:SF} (h:t ρ=some (.ok false)):aZ (ifS t f iB) g ρ=g ρ:=aM (by rw [mS,bP h];rfl)
def gr:List Mt->Option Int->List Mt
 | [],_=>[]
 | m::r,none=>m::gr r (some m.2.2)
 | m::r,some e=>if e<=m.2.1 then m::gr r (some m.2.2) else gr r (some e)
def rL (kf:Mt->j0) (x:Mt):List Mt->List Mt
 | []=>[x]
 | y::l=>if ltT (kf y) (kf x) then y::rL kf x l else x::y::l
def a4v (kf:Mt->j0) (s:List Mt):List Mt:=s.foldr (rL kf) []
variable {k:Bool}
section
variable {kf:Mt->j0}
theorem a6s (x:Mt):∀ l:List Mt,(rL kf x l).map kf=a3d (kf x) (l.map kf)
 | []=>rfl
 | y::l=>by
  show List.map kf (if ltT (kf y) (kf x) then y::rL kf x l else x::y::l)=(if ltT (kf y) (kf x) then kf y::a3d (kf x) (l.map kf) else kf x::kf y::l.map kf);split
  ·rw [qI,a6s x l]
  ·rfl
theorem uZ:∀ s:List Mt,(a4v kf s).map kf=a1F (s.map kf)
 | []=>rfl
 | x::s=>by
  show (rL kf x (a4v kf s)).map kf=a3d (kf x) (a1F (s.map kf));rw [a6s,uZ s]
theorem a3V (x:Mt):∀ l:List Mt,(rL kf x l).Perm (x::l)
 | []=>.refl _
 | y::l=>by
  unfold rL;split
  ·exact ((a3V x l).cons y).trans (.swap x y l)
  ·exact .refl _
theorem nQ:∀ s:List Mt,(a4v kf s).Perm s
 | []=>.refl _
 | x::s=>(a3V x _).trans ((nQ s).cons x)
def b4M {s':List Mt} (inj:∀ a b,kf a=kf b->a=b) (hs:∀ m,cB g (kf m)=true) (hp:s'.Perm s) (h:a0x (s'.map kf)):s'=a4v kf s:=by
 have e:s'.map kf=(a4v kf s).map kf:=by
  rw [uZ];exact a8y (g:=g) (hp.map kf) (λd hd=>by obtain ⟨m,_,rfl⟩:=qU.mp hd;exact hs m) h
 exact (zO (f:=kf) λa b=>inj a b).mp e
def b7p (hs:∀ m,cB g (kf m)=true) (nd:(s.map kf).Nodup) (hi:i<s.length):ixK ((s.map kf).getD i .none) (s.map kf)=i:=by
 have hl:i<(s.map kf).length:=by simpa using hi
 have e:(s.map kf).getD i .none=(s.map kf)[i]:=by rw [qk,qK hl];rfl
 have sg:∀ j (hj:j<(s.map kf).length),cB g ((s.map kf)[j])=true:=λj hj=>by rw [zD];exact hs _
 rw [e];unfold ixK;rw [List.findIdx_eq hl];refine ⟨by rw [a4S (sg i hl)];rfl,λj hj=>?_⟩;have hj':j<(s.map kf).length:=by omega
 rcases a1p (sg i hl) (sg j hj') with z | z | z
 ·rw [z];rfl
 ·exact absurd z.symm (kP.mp nd j i hj' hl hj)
 ·rw [z];simp
def a8z (hs:∀ m,cB g (kf m)=true) (nd:(s.map kf).Nodup):a7m (s.map dM) (s.map kf)=some ((a4v kf s).map dM):=by
 unfold a7m;rw [if_pos]
 ·rw [<-uZ,qT]
  refine congrArg some (vz λm hm=>?_);have hm:=(nQ s).mem_iff.mp hm;obtain ⟨i,hi,rfl⟩:=jz.mp hm;have e:(s.map kf).getD i .none=kf s[i]:=by rw [qk,qK (by simpa using hi),zD];rfl
  show (s.map dM).getD (ixK (kf s[i]) (s.map kf)) .none=_;rw [<-e,b7p hs nd hi,qk,qK (by simpa using hi),zD];rfl
 ·rw [qe]
  intro i hi;have hi:i<s.length:=by simpa using jp.mp hi
  rw [beq_iff_eq];exact b7p hs nd hi
def b0r {k:Bool} (hs:∀ m,cB (k::g) (kf m)=true) (ht:∀ m,b4P (kf m)=some (k::g)):keyOk (s.map kf)=true:=by
 cases s with
 | nil=>rfl
 | cons m r=>
  show (match b4P (kf m) with | some (k::g)=>((m::r).map kf).all (cB (k::g)) | _=>false)=true;rw [ht m];exact qe.mpr λd hd=>by obtain ⟨n,_,rfl⟩:=qU.mp hd;exact hs n
theorem a3Q {fe:EF} (h:∀ m:Mt,fe [.val (dM m)]=some (.ok (kf m))):∀ s:List Mt,nZ fe (s.map dM)=some (s.map kf)
 | []=>rfl
 | m::s=>by
  show (match fe [.val (dM m)] with | some (.ok k)=>(nZ fe (s.map dM)).map (k::·) | _=>none)=_;rw [h m,a3Q h s];rfl
def a7o {k:Bool} (h:∀ m:Mt,fe [.val (dM m)]=some (.ok (kf m))) (hs:∀ m,cB (k::g) (kf m)=true) (ht:∀ m,b4P (kf m)=some (k::g)) (nd:(s.map kf).Nodup) (hz:s.length<64):
  a1I fe (s.map dM)=some (.list ((a4v kf s).map dM)):=by
 unfold a1I;rw [a3Q h s];show (if (keyOk (s.map kf)&&decide ((s.map kf).length<64))=true then (a7m (s.map dM) (s.map kf)).map vk else none)=_;rw [if_pos (by rw [b0r hs ht,qE,decide_eq_true hz];rfl),a8z hs nd];rfl
end
def dU {t:Tg} {fb:SF} (h1:tgD t ρ d=some ρ1) (h2:fb ρ1=some (.nx ρ2)):bX t fb (d::ds) ρ=bX t fb ds ρ2:=by
 rw [bX,h1];dsimp only;rw [h2]
def a9B (bs:List Bool):anyB [.list (bs.map .bool)]=some (.bool (bs.any id)):=by
 show (fK oH (bs.map .bool)).map _=_;rw [hZ (g:=.bool) (λ_=>rfl) bs];rfl
noncomputable abbrev iR:EF:=eT (.tp [0,1,2]) [none,none,none,some 0] (fU (var 0)) ttT (aQ tL (aC (var 3) (aC (var 1) aI)))
noncomputable def eP:SF:=(retS (dfE a6a iR (cst (.int 0))))
noncomputable def cR:List j0->Mm j0:=bS 1 1 eP
noncomputable def a0j:SF:=(retS (a8h ltD (dG b0k (aC (op2 ixD (var 0) (cst (.int 1))) (aC (op2 ixD (var 1) (cst (.int 1))) aI))) (dG a7F (aC (op2 ixD (var 0) (cst (.int 2))) (aC (op2 ixD (var 1) (cst (.int 2))) aI)))))
noncomputable def oI:List j0->Mm j0:=bS 2 2 a0j
variable {nm:Str} {b z v:Int} {o:List Int}
section
variable {nm':Str} {b' z' v':Int} {n':Nat} {o':T0s}
end
abbrev ov (x y:Mt):Prop:=max x.2.1 y.2.1<min x.2.2 y.2.2
def a4b (x y:Mt):oI [dM x,dM y]=some (.ok (.bool (decide (ov x y)))):=by
 refine aV rfl ?_;show a0j [.val (dM x),.val (dM y)]=_;simp [a0j]
def b5w (x y:Mt):ov x y↔ov y x:=by unfold ov;rw [Int.max_comm,Int.min_comm]
noncomputable abbrev fW:EF:=dP (aC (op2 ixD (var 0) (cst (.int 1))) (aC (op1 b5K (op2 ixD (var 0) (cst (.int 2)))) (aC (op2 ixD (var 0) (cst (.int 0))) aI)))
noncomputable def gT:SF:=(retS (a4x (var 0) fW))
noncomputable def eL:List j0->Mm j0:=bS 1 1 gT
abbrev uC:SF:=b1c 1 .Add (cst (.int 1))
abbrev mU:TF:=iC inX (var 1) (var 0)
def pJ:SF:=(aZ (fT 1 (cst (.int 0))) (aZ (fR mU uC 1000) (retS (var 1))))
def pY:List j0->Mm j0:=bS 2 1 pJ
noncomputable abbrev eZ:EF:=eT (.tp [0,1]) [none,none,some 2] (fU (var 1)) (tO (aQ oI (aC (var 2) (aC (var 0) aI)))) (var 1)
noncomputable abbrev iK:SF:=aZ (a3o 3 eZ) (a0w 1 (dP (aC (var 2) (aC (aQ pY (aC (var 3) aI)) aI))))
noncomputable def iT:SF:=(aZ (a5X 1 aI) (aZ (tP (.nm 2) (fU (aQ eL (aC (var 0) aI))) iK) (a6v 1 (retS (var 1)))))
noncomputable def fQ:List j0->Mm j0:=bS 4 1 iT
noncomputable abbrev a2p:EF:=eT (.tp [0,1]) [none,none] (fU (aQ fQ (aC (var 0) aI))) ttT (dP (aC (op2 ixD (var 0) (cst (.int 0))) (aC (var 1) aI)))
noncomputable def a0m:SF:=(retS (dG uA (aC a2p aI)))
noncomputable def cZ:List j0->Mm j0:=bS 1 1 a0m
abbrev kL (m:Mt):j0:=.tuple [.int m.2.1,.int (-m.2.2),.str m.1]
def b3b (a b:Mt) (h:kL a=kL b):a=b:=by
 obtain ⟨a1,a2,a3⟩:=a;obtain ⟨b1,b2,b3⟩:=b;injection h with h;injection h with h1 h;injection h with h2 h;injection h with h3 h;injection h1 with h1;injection h2 with h2;injection h3 with h3;have:a3=b3:=Int.neg_inj.mp h2;subst h1 this h3;rfl
def cG (s:List Mt):List Mt:=a4v kL s
def dW (s:List Mt):(cG s).Perm s:=nQ s
def a6j (s:List Mt):a0x ((cG s).map kL):=by
 unfold cG;rw [uZ];exact rQ (g:=[true,true,false]) _ λd hd=>by obtain ⟨m,_,rfl⟩:=qU.mp hd;rfl
def c0K (h:(s.map (·.1)).Nodup):(s.map kL).Nodup:=by
 rw [List.Nodup,kD] at h ⊢;exact h.imp λ{a b} n e=>n (by rw [b3b a b e])
def a6B (nd:(s.map (·.1)).Nodup) (hz:s.length<64):eL [dS s]=some (.ok (.list ((cG s).map dM))):=by
 refine aV rfl ?_;show gT [.val (dS s)]=_;have e:a4x (var 0) fW [.val (dS s)]=some (.ok (.list ((cG s).map dM))):=by
  show lft (a1I fW (s.map dM))=_;rw [a7o (kf:=kL) (k:=true) (g:=[true,false]) (λm=>rfl) (λm=>rfl) (λm=>rfl) (c0K nd) hz];rfl
 unfold gT;rw [cF,e];rfl
def b6g (c:Int) (ns:T0s):inX (.int c) (.list (ns.map .int))=some (decide (c∈ns)):=by
 show (fK intD (ns.map .int)).map _=_;rw [oB];rfl
theorem a8u {t:T0s} {B:Nat} (hB:¬(B:Int)∈t):∀ (n c:Nat),c<=B->B - c<n->(∀ j<c,(j:Int)∈t)->∃ r:Nat,fR mU uC n [.val (.list (t.map .int)),.val (.int (c:Nat))]=some (.nx [.val (.list (t.map .int)),.val (.int (r:Nat))])/\r<=B/\¬(r:Int)∈t/\∀ j<r,(j:Int)∈t
 | 0,c,_,h,_=>by omega
 | n+1,c,hc,h,hj=>by
  have t1:mU [.val (.list (t.map .int)),.val (.int (c:Nat))]=some (.ok (decide ((c:Int)∈t))):=by
   show lft (inX (.int (c:Nat)) (.list (t.map .int)))=_;rw [b6g];rfl
  by_cases hm:(c:Int)∈t
  ·have ne:c≠B:=λz=>hB (z▸hm)
   obtain ⟨r,e,h1,h2,h3⟩:=a8u hB n (c+1) (by omega) (by omega) (λj hjc=>by
    by_cases z:j=c
    ·rw [z];exact hm
    ·exact hj j (by omega))
   refine ⟨r,?_,h1,h2,h3⟩;rw [fR];dsimp only;rw [t1,decide_eq_true hm];exact e
  ·refine ⟨c,?_,hc,hm,hj⟩
   rw [fR];dsimp only;rw [t1,decide_eq_false hm];rfl
def a5f {t:T0s} {B:Nat} (hB:¬(B:Int)∈t) (hb:B<900):∃ r:Nat,pY [.list (t.map .int)]=some (.ok (.int (r:Nat)))/\r<=B/\¬(r:Int)∈t/\∀ j<r,(j:Int)∈t:=by
 obtain ⟨r,e,h⟩:=a8u hB 1000 0 (jB _) (by omega) (λj hj=>by omega);refine ⟨r,aV rfl ?_,h⟩;show pJ [.val (.list (t.map .int)),.no]=_;unfold pJ;rw [aM (ρ':=[.val (.list (t.map .int)),.val (.int ((0:Nat):Int))]) rfl,aM e];rfl
abbrev Ly:=Mt×Nat
abbrev dY (p:Ly):j0:=.tuple [dM p.1,.int (p.2:Nat)]
def taken (P:List Ly) (m:Mt):List Int:=(P.filter λp=>decide (ov m p.1)).map λp=>(p.2:Int)
def fL:List Ly->List Ly->Prop
 | _,[]=>True
 | P,q::Q=>(¬(q.2:Int)∈taken P q.1/\∀ j<q.2,(j:Int)∈taken P q.1)/\fL (P++[q]) Q
def a9O (S:Ent) (P:List Ly) (m:Mt) (y:Ent) (hP:∀ p∈P,p.2<P.length) (hz:P.length<100):
  ∃ (r:Nat) (y':Ent),iK [S,.lst (P.map dY),.val (dM m),y]=some (.nx [S,.lst ((P++[(m,r)]).map dY),.val (dM m),y'])/\r<=P.length/\¬(r:Int)∈taken P m/\∀ j<r,(j:Int)∈taken P m:=by
 have hB:¬((P.length:Nat):Int)∈taken P m:=λz=>by
  obtain ⟨p,hp,e⟩:=qU.mp z;have:=hP p (jk.mp hp).1;omega
 obtain ⟨r,er,h1,h2,h3⟩:=a5f hB (by omega);have k1:eZ (frzAll [S,.lst (P.map dY),.val (dM m),y])=some (.ok (.list ((taken P m).map .int))):=by
  unfold taken;rw [qT]
  exact fC dY (λp=>[.val (dM p.1),.val (.int (p.2:Nat)),.val (dM m)]) (λp=>decide (ov m p.1)) (λp=>.int (p.2:Nat)) P rfl (by omega) (λp _=>rfl) (λp _=>by
   rw [yL,aP (ds:=[dM m,dM p.1]) rfl (a4b m p.1)];rfl) (λp _ _=>rfl)
 have s1:a3o 3 eZ [S,.lst (P.map dY),.val (dM m),y]=some (.nx [S,.lst (P.map dY),.val (dM m),.val (.list ((taken P m).map .int))]):=by
  unfold a3o;rw [k1];dsimp only;rw [if_pos (qe.mpr λd hd=>by obtain ⟨i,_,rfl⟩:=qU.mp hd;rfl)];rfl
 refine ⟨r,.val (.list ((taken P m).map .int)),?_,h1,h2,h3⟩;show aZ (a3o 3 eZ) _ _=_;rw [aM s1,yD (i:=1) (ds:=P.map dY) (d:=dY (m,r)) rfl (by rw [rN,dH,dH,aP (ds:=[.list ((taken P m).map .int)]) rfl er];rfl) (by rw [qE];omega)];simp
theorem a3I (S:Ent):∀ (l:List Mt) (P:List Ly) (x y:Ent),(∀ p∈P,p.2<P.length)->P.length+l.length<=100->∃ (Q:List Ly) (x' y':Ent),bX (.nm 2) iK (l.map dM) [S,.lst (P.map dY),x,y]=some (.nx [S,.lst ((P++Q).map dY),x',y'])/\Q.map (·.1)=l/\(∀ p∈P++Q,p.2<(P++Q).length)/\fL P Q
 | [],P,x,y,hP,hz=>⟨[],x,y,by rw [kW];rfl,rfl,by rw [kW];exact hP,trivial⟩
 | m::l,P,x,y,hP,hz=>by
  rw [qV] at hz;obtain ⟨r,y1,e1,h1,h2,h3⟩:=a9O S P m y hP (by omega)
  obtain ⟨Q,x',y',e2,h4,h5,h6⟩:=a3I S l (P++[(m,r)]) (.val (dM m)) y1 (λp hp=>by
   rw [qf,jg];rcases jD.mp hp with hp | hp
   ·have:=hP p hp;omega
   ·rw [qL.mp hp];show r<_;omega) (by rw [qf,jg];omega)
  rw [jh] at e2 h5;refine ⟨(m,r)::Q,x',y',?_,by rw [qI,h4],h5,⟨h2,h3⟩,h6⟩;rw [qI,dU (t:=.nm 2) (ρ1:=[S,.lst (P.map dY),.val (dM m),y]) rfl e1];exact e2
structure LayOf (L:List Mt) (P:List Ly):Prop where
 ord:P.map (·.1)=cG L
 low:∀ p∈P,p.2<P.length
 laid:fL [] P
variable {P:List Ly}
theorem LayOf.len (h:LayOf L P):P.length=L.length:=by
 rw [<-qE (f:=(·.1)),h.ord,(dW L).length_eq]
def b9k (nd:(L.map (·.1)).Nodup) (hz:L.length<64):∃ P,LayOf L P/\fQ [dS L]=some (.ok (.list (P.map dY))):=by
 have hl:=(dW L).length_eq;obtain ⟨Q,x',y',e,h1,h2,h3⟩:=a3I (.val (dS L)) (cG L) [] .no .no (by simp) (by simp;omega);rw [jq] at e h2;refine ⟨Q,⟨h1,h2,h3⟩,aV rfl ?_⟩;show iT [.val (dS L),.no,.no,.no]=_;unfold iT;rw [aM (ρ':=[.val (dS L),.lst [],.no,.no]) rfl]
 rw [aM (ρ':=[.val (dS L),.lst (Q.map dY),x',y']) (by
  rw [pG,fM (aP (ds:=[dS L]) rfl (a6B nd hz)) rfl]
  exact e)]
 rfl
def gY (P:List Ly):j0:=fV (P.map λp=>(.inr p.1.1,.int (p.2:Nat)))
theorem LayOf.nd {L:List Mt} {P:List Ly} (h:LayOf L P) (nd:(L.map (·.1)).Nodup):(P.map λp=>p.1.1).Nodup:=by
 have:P.map (λp=>p.1.1)=(cG L).map (·.1):=by rw [<-h.ord,qT];rfl
 rw [this];exact ((dW L).map (·.1)).nodup_iff.mpr nd
def b3W {xs:T0l} {kvs:List (Key×j0)} (h:fK a3y xs=some kvs) (nd:(kvs.map (·.1)).Nodup) (hz:kvs.length<=1000):uA [.list xs]=some (fV kvs):=by
 unfold uA;dsimp only;rw [h];dsimp only;rw [if_pos (by rw [qJ,decide_eq_true_eq,decide_eq_true_eq];exact ⟨nd,hz⟩)]
def a0p (nd:(L.map (·.1)).Nodup) (hz:L.length<64):∃ P,LayOf L P/\fQ [dS L]=some (.ok (.list (P.map dY)))/\cZ [dS L]=some (.ok (gY P)):=by
 obtain ⟨P,hP,e⟩:=b9k nd hz;refine ⟨P,hP,e,aV rfl ?_⟩;have hl:=hP.len;show a0m [.val (dS L)]=_;have k1:a2p [.val (dS L)]=some (.ok (.list (P.map λp=>.tuple [.str p.1.1,.int (p.2:Nat)]))):=
  dX dY (λp=>[.val (dM p.1),.val (.int (p.2:Nat))]) (λp=>.tuple [.str p.1.1,.int (p.2:Nat)]) P (fM (aP (ds:=[dS L]) rfl e) rfl) (by omega) (λp _=>rfl) (λp _=>rfl)
 have ad:fK a3y (P.map λp=>.tuple [.str p.1.1,.int (p.2:Nat)])=some (P.map λp=>(jZ p.1.1,.int (p.2:Nat))):=by
  have:(P.map λp=>vW [.str p.1.1,.int (p.2:Nat)])=(P.map λp=>((jZ p.1.1:Key),jX (p.2:Nat))).map λq=>.tuple [eC q.1,q.2]:=by rw [qT];rfl
  rw [this,hZ (g:=λq:Key×j0=>.tuple [eC q.1,q.2]) (λq=>by show (oG (eC q.1)).map (·,q.2)=_;rw [oF];rfl)]
 have dd:uA [.list (P.map λp=>.tuple [.str p.1.1,.int (p.2:Nat)])]=some (gY P):=by
  refine b3W ad ?_ (by rw [qE];omega);have nk:=hP.nd nd;rw [qT];rw [List.Nodup,kD] at nk ⊢;exact nk.imp λ{a b} n z=>n (vL z)
 unfold a0m;rw [cF,hV (ds:=[.list (P.map λp=>.tuple [.str p.1.1,.int (p.2:Nat)])]) (by rw [dH,k1];rfl) dd];rfl
def a0W:List Ly->Str->Nat
 | [],_=>0
 | p::P,x=>if p.1.1=x then p.2 else a0W P x
theorem a9j {x:Str}:∀ {P:List Ly},x∈P.map (λp=>p.1.1)->mH (gY P) (.str x)=some (.int (a0W P x:Nat))
 | [],h=>by simp at h
 | p::P,h=>by
  show (if (some (jZ p.1.1):Option Key)=some (jZ x) then some (jX (p.2:Nat)) else mH (gY P) (.str x))=_;unfold a0W;by_cases c:p.1.1=x
  ·rw [if_pos (by rw [c]),if_pos c]
  ·rw [if_neg (λz=>c (vL (qB z))),if_neg c]
   have:x∈P.map (λp=>p.1.1):=by
    rcases qG.mp h with z | z
    ·exact absurd z.symm c
    ·exact z
   exact a9j this
theorem LayOf.mem (h:LayOf L P) {m:Mt} (hm:m∈L):m.1∈P.map (λp=>p.1.1):=by
 have:P.map (λp=>p.1.1)=(cG L).map (·.1):=by rw [<-h.ord,qT];rfl
 rw [this];exact jo ((dW L).mem_iff.mpr hm)
theorem a3A {α:Type} [DecidableEq α]:∀ {l m:List α},l.Nodup->(∀ x∈l,x∈m)->l.length<=m.length
 | [],m,_,_=>jB _
 | a::r,m,nd,h=>by
  rw [kF] at nd;have ha:=h a (by simp);have:=a3A (l:=r) (m:=m.erase a) nd.2 λx hx=>(List.mem_erase_of_ne (λz:x=a=>nd.1 (by rw [<-z];exact hx))).mpr (h x (qF _ hx));rw [List.length_erase_of_mem ha] at this;have hp:0<m.length:=List.length_pos_of_mem ha;rw [qV];omega
def a0M (s:List Mt):(cG s).Pairwise (λa b=>a.2.1<=b.2.1):=by
 have h:=a6j s;unfold a0x at h;rw [kD] at h;refine h.imp λ{a b} z=>?_;have z:(if eqC (.int b.2.1) (.int a.2.1) then ltR [.int (-b.2.2),.str b.1] [.int (-a.2.2),.str a.1] else decide (b.2.1<a.2.1))=false:=z;by_cases c:b.2.1=a.2.1
 ·omega
 ·rw [if_neg (by simpa [eqC] using c),decide_eq_false_iff_not] at z
  omega
theorem a8X:∀ (Q P:List Ly),fL P Q->P.Pairwise (λp q=>ov q.1 p.1->p.2≠q.2)->(P++Q).Pairwise (λp q=>ov q.1 p.1->p.2≠q.2)
 | [],P,_,h=>by rw [kW];exact h
 | q::Q,P,hl,h=>by
  obtain ⟨⟨h1,_⟩,h2⟩:=hl
  have:=a8X Q (P++[q]) h2 (kz.mpr ⟨h,zN _ _,λp hp r hr=>by
   rw [qL] at hr;subst hr
   exact λo e=>h1 (qU.mpr ⟨p,jk.mpr ⟨hp,decide_eq_true o⟩,by rw [e]⟩)⟩)
  rw [jh] at this;exact this
theorem a6l:∀ (Q P:List Ly),fL P Q->(P++Q).Pairwise (λp q=>p.1.2.1<=q.1.2.1)->∀ q∈Q,∀ j<q.2,∃ p∈P++Q,p.2=j/\ov q.1 p.1/\p.1.2.1<=q.1.2.1
 | [],P,_,_,q,hq,_,_=>by cases hq
 | x::Q,P,hl,hb,q,hq,j,hj=>by
  obtain ⟨⟨_,h1⟩,h2⟩:=hl;rcases qG.mp hq with rfl | hq
  ·obtain ⟨p,hp,e⟩:=qU.mp (h1 j hj)
   obtain ⟨hp,ho⟩:=jk.mp hp;refine ⟨p,kQ _ hp,by omega,of_decide_eq_true ho,?_⟩;exact (kz.mp hb).2.2 p hp q (by simp)
  ·have e:P++x::Q=(P++[x])++Q:=by simp
   rw [e] at hb ⊢;exact a6l Q (P++[x]) h2 hb q hq j hj
variable {q:Ly}
theorem LayOf.begins (h:LayOf L P):P.Pairwise (λp q=>p.1.2.1<=q.1.2.1):=by
 have:=a0M L;rw [<-h.ord,kD] at this;exact this
theorem LayOf.diff (h:LayOf L P):P.Pairwise (λp q=>ov q.1 p.1->p.2≠q.2):=by
 have:=a8X P [] h.laid .nil;simpa using this
theorem LayOf.sup (h:LayOf L P) (hq:q∈P) (hj:j<q.2):∃ p∈P,p.2=j/\ov q.1 p.1/\p.1.2.1<=q.1.2.1:=by
 have:=a6l P [] h.laid (by simpa using h.begins) q hq j hj;simpa using this
theorem LayOf.perm (h:LayOf L P):(P.map (·.1)).Perm L:=by rw [h.ord];exact dW L
def atP (d:Int) (P:List Ly):List Ly:=P.filter λp=>cH d p.1
def eO {d:Int} {m:Mt}:cH d m=true↔m.2.1<=d/\d<m.2.2:=by unfold cH;simp
theorem LayOf.load (h:LayOf L P) (d:Int):aX L d=((atP d P).length:Nat):=by
 unfold aX eJ atP;rw [qE,<-(h.perm.filter (cH d)).length_eq,List.filter_map,qE];rfl
theorem LayOf.up (h:LayOf L P) (hp:∀ m∈L,m.2.1<m.2.2) (hq:q∈P):q.2+1<=(atP q.1.2.1 P).length:=by
 have hqL:q.1∈L:=h.perm.mem_iff.mp (jo hq);have:=a3A (l:=qm (q.2+1)) (m:=(atP q.1.2.1 P).map (·.2)) List.nodup_range λj hj=>by
  have hj:=jp.mp hj;by_cases c:j<q.2
  ·obtain ⟨p,h1,h2,h3,h4⟩:=h.sup hq c
   refine qU.mpr ⟨p,jk.mpr ⟨h1,eO.mpr ⟨h4,?_⟩⟩,h2⟩;unfold ov at h3;omega
  ·have:j=q.2:=by omega
   subst this;exact qU.mpr ⟨q,jk.mpr ⟨hq,eO.mpr ⟨kG _,hp q.1 hqL⟩⟩,rfl⟩
 simpa using this
theorem a6N:∀ {P:List Ly},(P.map λp=>p.1.1).Nodup->∀ p∈P,a0W P p.1.1=p.2
 | [],_,p,h=>by cases h
 | q::P,nd,p,h=>by
  rw [qI,kF] at nd;unfold a0W;rcases qG.mp h with rfl | h
  ·rw [if_pos rfl]
  ·rw [if_neg (λz:q.1.1=p.1.1=>nd.1 (by rw [z];exact jo (f:=λp:Ly=>p.1.1) h))]
   exact a6N nd.2 p h
def aS (L:List Mt):Int:=if L=[] then 0 else a4Q (L.map λx=>aX L x.2.1)
def a8a (s:List Mt) (hz:s.length<=1000):cR [dS s]=some (.ok (.int (aS s))):=by
 have k1:iR [.val (dS s)]=some (.ok (.list ((s.map λx=>aX s x.2.1).map .int))):=by
  rw [qT];exact dX dM (λx=>[.val (.str x.1),.val (.int x.2.1),.val (.int x.2.2),.val (dS s)]) (λx=>.int (aX s x.2.1)) s (by simp) (by omega) (λx _=>by simp [bY]) (λx _=>aP (ds:=[dS s,.int x.2.1]) rfl (b0F s x.2.1 (by omega)))
 refine aV rfl ?_;show eP [.val (dS s)]=_;unfold eP
 rw [cF,b7x (x:=.list ((s.map λx=>aX s x.2.1).map .int)) (y:=.int 0) k1 rfl (d:=.int (aS s)) (by
  unfold a6a aS;dsimp only;rw [oB];cases s with
  | nil=>rfl
  | cons a r=>rfl)]
 rfl
def a6i (L:List Mt) (d:Int):0<=aX L d:=by unfold aX;omega
def a8R (L:List Mt) (d:Int):aX L d<=aS L:=by
 by_cases e:L=[]
 ·subst e;unfold aS;rw [if_pos rfl];exact kG _
 ·unfold aS
  rw [if_neg e];by_cases z:L.filter (cH d)=[]
  ·have h0:aX L d=0:=by unfold aX eJ;rw [z];rfl
   rw [h0];have hm:=a2c (ns:=L.map λx=>aX L x.2.1) (by simp [e]);obtain ⟨x,_,hx⟩:=qU.mp hm;rw [<-hx];exact a6i _ _
  ·have hm:=a2c (ns:=(L.filter (cH d)).map (·.2.1)) (by simp [z])
   obtain ⟨x,hx,hxe⟩:=qU.mp hm;obtain ⟨hxL,hxd⟩:=jk.mp hx;have hxd:=eO.mp hxd;have le:aX L d<=aX L x.2.1:=by
    unfold aX eJ;rw [qE,qE];have:(L.filter (cH d)).length<=(L.filter (cH x.2.1)).length:=by
     have:L.filter (cH d)=(L.filter (cH x.2.1)).filter (cH d):=by
      rw [List.filter_filter];refine wO λm hm=>?_;rw [kX,qJ];constructor
      ·intro h
       refine ⟨h,eO.mpr ?_⟩;have hd:=eO.mp h;have:=a8T (ns:=(L.filter (cH d)).map (·.2.1)) (qU.mpr ⟨m,jk.mpr ⟨hm,h⟩,rfl⟩);omega
      ·exact λh=>h.1
     rw [this];exact jr _ _
    omega
   exact wS le (a8T (qU.mpr ⟨x,hxL,rfl⟩))
def b5O (L:List Mt):aS L=0\/∃ m∈L,aS L=aX L m.2.1:=by
 by_cases e:L=[]
 ·left;unfold aS;rw [if_pos e]
 ·right
  unfold aS;rw [if_neg e];obtain ⟨x,hx,h⟩:=qU.mp (a2c (ns:=L.map λx=>aX L x.2.1) (by simp [e]));exact ⟨x,hx,h.symm⟩
def fI:List Mt->List Mt->Int->List (List Mt)
 | [],cur,_=>[cur]
 | m::l,cur,reach=>if m.2.1<reach then fI l (cur++[m]) (max reach m.2.2) else cur::fI l [m] m.2.2
def bI:List Mt->List (List Mt)
 | []=>[]
 | m::l=>fI l [m] m.2.2
theorem pF:∀ (l cur:List Mt) (r:Int),(fI l cur r).flatten=cur++l
 | [],cur,r=>by simp [fI]
 | m::l,cur,r=>by
  unfold fI;split
  ·rw [pF l];simp
  ·rw [List.flatten_cons,pF l];rfl
def fX (l:List Mt):(bI l).flatten=l:=by
 cases l with
 | nil=>rfl
 | cons m l=>exact pF l [m] _
structure Rch (cur:List Mt) (r:Int):Prop where
 top:∀ a∈cur,a.2.2<=r
 at':∃ a∈cur,a.2.2=r
theorem Rch.one (m:Mt):Rch [m] m.2.2:=⟨λa h=>by rw [qL.mp h];exact kG _,m,by simp,rfl⟩
theorem Rch.more {cur:List Mt} {r:Int} (h:Rch cur r) (m:Mt):Rch (cur++[m]) (max r m.2.2):=by
 refine ⟨λa ha=>?_,?_⟩
 ·rcases jD.mp ha with ha | ha
  ·have:=h.top a ha;omega
  ·rw [qL.mp ha];omega
 ·obtain ⟨a,ha,e⟩:=h.at'
  by_cases c:r<=m.2.2
  ·exact ⟨m,by simp,by omega⟩
  ·exact ⟨a,kQ _ ha,by omega⟩
theorem sH:∀ (l cur:List Mt) (r:Int),Rch cur r->(cur++l).Pairwise (λa b=>a.2.1<=b.2.1)->(fI l cur r).Pairwise λA B=>∀ a∈A,∀ b∈B,a.2.2<=b.2.1
 | [],cur,r,_,_=>by unfold fI;exact zN _ _
 | m::l,cur,r,h,hb=>by
  unfold fI;split
  ·refine sH l _ _ (h.more m) ?_
   rw [jh];exact hb
  ·rename_i c
   have hb':([m]++l).Pairwise (λa b=>a.2.1<=b.2.1):=(kz.mp hb).2.1;refine .cons (λB hB a ha b hb2=>?_) (sH l [m] m.2.2 (.one m) hb');have hm:b∈m::l:=by
    have:b∈(fI l [m] m.2.2).flatten:=zC.mpr ⟨B,hB,hb2⟩;rw [pF] at this;exact this
   have h1:=h.top a ha;rcases qG.mp hm with rfl | hm
   ·omega
   ·have:=(jL.mp hb').1 b hm
    omega
def b1e:List Mt->List Mt->Prop
 | _,[]=>True
 | A,m::l=>(∃ a∈A,m.2.1<a.2.2)/\b1e (A++[m]) l
theorem a3X:∀ (l A:List Mt) (m:Mt),b1e A l->(∃ a∈A++l,m.2.1<a.2.2)->b1e A (l++[m])
 | [],A,m,_,h=>⟨by simpa using h,trivial⟩
 | x::l,A,m,h,hm=>⟨h.1,a3X l (A++[x]) m h.2 (by simpa using hm)⟩
theorem uM:∀ (l:List Mt) (x:Mt) (cur:List Mt) (r:Int),Rch (x::cur) r->b1e [x] cur->∀ A∈fI l (x::cur) r,∃ y t,A=y::t/\b1e [y] t
 | [],x,cur,r,_,h,A,hA=>by
  unfold fI at hA;rw [qL] at hA;exact ⟨x,cur,hA,h⟩
 | m::l,x,cur,r,hr,h,A,hA=>by
  unfold fI at hA;split at hA
  ·rename_i c
   obtain ⟨a,ha,e⟩:=hr.at';exact uM l x (cur++[m]) _ (hr.more m) (a3X cur [x] m h ⟨a,by simpa using ha,by omega⟩) A hA
  ·rcases qG.mp hA with rfl | hA
   ·exact ⟨x,cur,rfl,h⟩
   ·exact uM l m [] _ (.one m) trivial A hA
variable {l:List Mt}
def a6t (hb:l.Pairwise (λa b=>a.2.1<=b.2.1)):(bI l).Pairwise λA B=>∀ a∈A,∀ b∈B,a.2.2<=b.2.1:=by
 cases l with
 | nil=>exact .nil
 | cons m l=>exact sH l [m] _ (.one m) hb
def a2t:∀ A∈bI l,∃ y t,A=y::t/\b1e [y] t:=by
 cases l with
 | nil=>intro A h;cases h
 | cons m l=>exact uM l m [] _ (.one m) trivial
variable {A:List Mt}
def b3p (hb:l.Pairwise (λa b=>a.2.1<=b.2.1)) {B:List Mt} (hA:(bI l)[i]?=some A) (hB:(bI l)[j]?=some B) {a b:Mt} (ha:a∈A) (hb':b∈B) (ho:ov a b):i=j:=by
 have pw:=a6t hb;rw [kP] at pw;obtain ⟨h1,e1⟩:=qS.mp hA;obtain ⟨h2,e2⟩:=qS.mp hB;unfold ov at ho;rcases wL i j with c | c | c
 ·have:=pw i j h1 h2 c a (by rw [e1];exact ha) b (by rw [e2];exact hb')
  omega
 ·exact c
 ·have:=pw j i h2 h1 c b (by rw [e2];exact hb') a (by rw [e1];exact ha)
  omega
theorem Paired.app {α β:Type} {F:α->β->Prop} {a:α} {b:β} (h:F a b):∀ {l:List α} {m:List β},Paired F l m->Paired F (l++[a]) (m++[b])
 | _,_,.nil=>.cons h .nil
 | _,_,.cons r t=>.cons r (Paired.app h t)
theorem Paired.unapp {α β:Type} {F:α->β->Prop} {m:List β} {b:β}:∀ {l:List α},Paired F l (m++[b])->∃ l' a,l=l'++[a]/\Paired F l' m/\F a b:=by
 induction m with
 | nil=>
  intro l h;cases h with
  | cons r t=>cases t;exact ⟨[],_,rfl,.nil,r⟩
 | cons c m ih=>
  intro l h;cases h with
  | cons r t=>
   obtain ⟨l',a,e,p,f⟩:=ih t;exact ⟨_::l',a,by rw [e];rfl,.cons r p,f⟩
section
variable {K:qC}
theorem RepS.ownN (R:RepS K H0 Gz G H σ ρ) (h:ρ[i]?=some (.nst dss)):∃ a bs,σ[i]?=some (some (.ref a))/\H a=some (.lst (bs.map V.ref))/\G a=none/\H0 a=none/\a∉bs/\bs.Nodup/\Paired (b9K K H0 G H) bs dss:=by
 obtain ⟨o,e,a,bs,rfl,r⟩:=R.at h;exact ⟨a,bs,e,r⟩
def RepS.freshN {p:Addr} (R:RepS K H0 Gz G H σ ρ) (h:H p=none) (hno:∀ (j:Nat) (dss:List (List j0)),ρ[j]?=some (.nst dss)->j=i):RepS K H0 Gz G (upd H p (.lst [])) (σ.set i (some (.ref p))) (ρ.set i (.nst [])):=by
 have R':=R.more (Grow.side (o:=.lst []) R.sub h);refine ⟨R'.grow,by simp [R.len],λj o e h1 h2=>?_,⟨λj k a ds es n h1 h2 h3 h4=>?_,λj k a a' ds dss h1 h2 h3 h4=>?_,λj k dss ess h1 h2=>?_,λj k ks ls q1 q2=>?_⟩,R'.tab⟩
 ·rcases aH h1 with ⟨rfl,rfl,_⟩ | ⟨n,h1⟩
  ·rcases aH h2 with ⟨_,rfl,_⟩ | ⟨n,_⟩
   ·exact ⟨p,[],rfl,aG,R.sub.free h,R.grow.hh.free h,by simp,vt,.nil⟩
   ·exact absurd rfl n
  ·rcases aH h2 with ⟨z,_⟩ | ⟨_,h2⟩
   ·exact absurd z n
   ·exact R'.ent j o e h1 h2
 ·rcases aH h2 with ⟨_,z,_⟩ | ⟨n2,h2⟩
  ·cases z
  ·rcases aH h4 with ⟨_,z,_⟩ | ⟨n4,h4⟩
   ·cases z
   ·rw [qh (jJ n2)] at h1
    rw [qh (jJ n4)] at h3;exact R.inj.two j k a ds es n h1 h2 h3 h4
 ·rcases aH h2 with ⟨_,z,_⟩ | ⟨n2,h2n⟩
  ·cases z
  ·rw [qh (jJ n2)] at h1
   rcases aH h4 with ⟨rfl,_,_⟩ | ⟨n4,h4⟩
   ·rcases aH h3 with ⟨_,z,_⟩ | ⟨n,_⟩
    ·cases z
     obtain ⟨b,xs,e,g1,_⟩:=R.own h2n;rw [h1] at e;cases e;exact ⟨aR g1 h,λvs e=>by rw [aG] at e;cases e;simp⟩
    ·exact absurd rfl n
   ·exact absurd (hno k dss h4) n4
 ·have hi:∀ (j:Nat) (dss:List (List j0)),(ρ.set i (.nst []))[j]?=some (.nst dss)->j=i:=λj dss h1=>by
   rcases aH h1 with ⟨z,_,_⟩ | ⟨_,h1⟩
   ·exact z
   ·exact hno j dss h1
  rw [hi j dss h1,hi k ess h2]
 ·have od:∀ (j:Nat) (ks:List (Key×j0)),(ρ.set i (.nst []))[j]?=some (.dct ks)->ρ[j]?=some (.dct ks):=λj ks q=>by
   rcases aH q with ⟨_,z,_⟩ | ⟨_,q⟩
   ·cases z
   ·exact q
  exact R.inj.oneD j k ks ls (od j ks q1) (od k ls q2)
theorem RepS.pushN {p:Addr} {bs:T0o} (R:RepS K H0 Gz G H σ ρ) (h:ρ[i]?=some (.nst dss)) (e:σ[i]?=some (some (.ref a))) (ha:H a=some (.lst (bs.map V.ref))) (hp:H p=none) (r:RepAll K G xs ds):
  RepS K H0 Gz G (upd (upd H p (.lst xs)) a (.lst ((bs++[p]).map V.ref))) σ (ρ.set i (.nst (dss++[ds]))):=by
 obtain ⟨a',bs',e',h1,h2,h3,h4,h5,rv⟩:=R.ownN h;rw [e] at e';cases e';have eb:bs'=bs:=by
  rw [ha] at h1;have:bs.map V.ref=bs'.map V.ref:=by injection h1 with z;injection z
  exact (zO (λ_ _ z=>by cases z;rfl)).mp this.symm
 subst eb;have R1:=R.more (Grow.side (o:=.lst xs) R.sub hp);have nap:a≠p:=aR ha hp;have hb:∀ b∈bs',∃ ys,H b=some (.lst ys):=λb hb=>by
  obtain ⟨_,ys,y,_⟩:=tE rv hb;exact ⟨ys,y⟩
 have nbp:∀ b∈bs',b≠p:=λb hm=>by obtain ⟨ys,y⟩:=hb b hm;exact aR y hp
 have nba:∀ b∈bs',b≠a:=λb hm z=>h4 (z▸hm);have H1a:(upd H p (.lst xs)) a=some (.lst (bs'.map V.ref)):=by rw [aE nap];exact ha
 refine ⟨⟨R1.grow.gg,R1.grow.hh.wr h3 H1a,λb o q=>?_,R1.grow.new,R1.grow.nt⟩,by simp [R.len],λj o e' q1 q2=>?_,⟨λj k b es fs n q1 q2 q3 q4=>?_,λj k b b' es ess q1 q2 q3 q4=>?_,λj k es fs q1 q2=>?_,λj k ks ls q1 q2=>?_⟩,R1.tab.wr H1a⟩
 ·rw [aE (aR q h2)];exact R1.sub b o q
 ·rcases aH q2 with ⟨rfl,rfl,_⟩ | ⟨nj,q2⟩
  ·rw [e] at q1;cases q1
   refine ⟨a,bs'++[p],rfl,aG,h2,h3,?_,?_,Paired.app ⟨xs,by rw [aE (jJ nap)];exact aG,R.sub.free hp,R.grow.hh.free hp,r⟩ (eM rv λb dd hm ⟨ys,y1,y2,y3,y4⟩=>⟨ys,by rw [aE (nba b hm),aE (nbp b hm)];exact y1,y2,y3,y4⟩)⟩
   ·simp only [jD,qL,not_or]
    exact ⟨h4,nap⟩
   ·rw [kE]
    exact ⟨h5,by simp,λb hm c hc=>by rw [qL.mp hc];exact nbp b hm⟩
  ·have E:=R1.ent j o e' q1 q2
   cases e' with
   | no=>trivial
   | val d=>exact E
   | exc c=>obtain ⟨b,C,z,g1,g2⟩:=E;exact ⟨b,C,z,g1,by rw [aE (cM g2 H1a (by unfold xcO;nofun))];exact g2⟩
   | lst es=>
    obtain ⟨b,ys,z,g1,g2,g3,rv'⟩:=E;subst z;have m1:=(R.inj.mix j i b a es dss q1 q2 e h).1;exact ⟨b,ys,rfl,by rw [aE m1];exact g1,g2,g3,rv'⟩
   | nst es=>exact absurd (R.inj.one j i es dss q2 h) nj
   | dct ks=>
    obtain ⟨b,ws,z,g1,g2,g3,rv'⟩:=E;exact ⟨b,ws,z,by rw [aE (cM g1 H1a (by nofun))];exact g1,g2,g3,rv'⟩
   | seen w ks=>exact sN.wr E H1a (by nofun)
 ·rcases aH q2 with ⟨_,z,_⟩ | ⟨_,q2⟩
  ·cases z
  ·rcases aH q4 with ⟨_,z,_⟩ | ⟨_,q4⟩
   ·cases z
   ·exact R.inj.two j k b es fs n q1 q2 q3 q4
 ·rcases aH q2 with ⟨_,z,_⟩ | ⟨_,q2n⟩
  ·cases z
  ·have ki:k=i:=by
    rcases aH q4 with ⟨z,_,_⟩ | ⟨_,q4⟩
    ·exact z
    ·exact R.inj.one k i ess dss q4 h
   subst ki;rw [e] at q3;cases q3;obtain ⟨m1,m2⟩:=R.inj.mix j k b a es dss q1 q2n e h;obtain ⟨b2,ys,e2,g1,_⟩:=R.own q2n;rw [q1] at e2;cases e2;refine ⟨m1,λvs z=>?_⟩;rw [aG] at z;cases z;rw [qc,jD,not_or];refine ⟨m2 _ ha,λz=>?_⟩;have:b=p:=by simpa using z
   exact aR g1 hp this
 ·have hi:∀ (j:Nat) (es:List (List j0)),(ρ.set i (.nst (dss++[ds])))[j]?=some (.nst es)->j=i:=λj es q1=>by
   rcases aH q1 with ⟨z,_,_⟩ | ⟨_,q1⟩
   ·exact z
   ·exact R.inj.one j i es dss q1 h
  rw [hi j es q1,hi k fs q2]
 ·have od:∀ (j:Nat) (ks:List (Key×j0)),(ρ.set i (.nst (dss++[ds])))[j]?=some (.dct ks)->ρ[j]?=some (.dct ks):=λj ks q=>by
   rcases aH q with ⟨_,z,_⟩ | ⟨_,q⟩
   ·cases z
   ·exact q
  exact R.inj.oneD j k ks ls (od j ks q1) (od k ls q2)
theorem RepS.lastN {b:Addr} {bs:T0o} {ds':T0l} (R:RepS K H0 Gz G H σ ρ) (h:ρ[i]?=some (.nst (dss++[ds]))) (e:σ[i]?=some (some (.ref a))) (ha:H a=some (.lst ((bs++[b]).map V.ref))) (r:RepAll K G xs ds'):
  RepS K H0 Gz G (upd H b (.lst xs)) σ (ρ.set i (.nst (dss++[ds']))):=by
 obtain ⟨a',bs',e',h1,h2,h3,h4,h5,rv⟩:=R.ownN h;rw [e] at e';cases e';have eb:bs'=bs++[b]:=by
  rw [ha] at h1;have:(bs++[b]).map V.ref=bs'.map V.ref:=by injection h1 with z;injection z
  exact (zO (λ_ _ z=>by cases z;rfl)).mp this.symm
 subst eb;obtain ⟨l',c,el,pv,ys,y1,y2,y3,y4⟩:=Paired.unapp rv;have ec:bs=l'/\b=c:=by
  have:=List.append_inj' el rfl;exact ⟨this.1,by simpa using this.2⟩
 obtain ⟨rfl,rfl⟩:=ec;have nab:a≠b:=λz=>h4 (by simp [z]);have nd:b∉bs:=λz=>by
  rw [kE] at h5;exact h5.2.2 b z b (by simp) rfl
 refine ⟨⟨R.grow.gg,R.grow.hh.wr y3 y1,λb o q=>?_,R.grow.new,R.grow.nt⟩,by simp [R.len],λj o e' q1 q2=>?_,⟨λj k b' es fs n q1 q2 q3 q4=>?_,λj k c c' es ess q1 q2 q3 q4=>?_,λj k es fs q1 q2=>?_,λj k ks ls q1 q2=>?_⟩,R.tab.wr y1⟩
 ·rw [aE (aR q y2)];exact R.sub _ o q
 ·rcases aH q2 with ⟨rfl,rfl,_⟩ | ⟨nj,q2⟩
  ·rw [e] at q1;cases q1
   exact ⟨a,bs++[b],rfl,by rw [aE nab];exact ha,h2,h3,h4,h5,Paired.app ⟨xs,aG,y2,y3,r⟩ (eM pv λc dd hm ⟨zs,z1,z2,z3,z4⟩=>⟨zs,by rw [aE (λz:c=b=>nd (z▸hm))];exact z1,z2,z3,z4⟩)⟩
  ·have E:=R.ent j o e' q1 q2
   cases e' with
   | no=>trivial
   | val d=>exact E
   | exc c=>obtain ⟨c',C,z,g1,g2⟩:=E;exact ⟨c',C,z,g1,by rw [aE (cM g2 y1 (by unfold xcO;nofun))];exact g2⟩
   | lst es=>
    obtain ⟨c,zs,z,g1,g2,g3,rv'⟩:=E;subst z;have m2:=(R.inj.mix j i c a es _ q1 q2 e h).2 _ ha;have ncb:c≠b:=λz=>m2 (by simp [z]);exact ⟨c,zs,rfl,by rw [aE ncb];exact g1,g2,g3,rv'⟩
   | nst es=>exact absurd (R.inj.one j i es _ q2 h) nj
   | dct ks=>
    obtain ⟨c,ws,z,g1,g2,g3,rv'⟩:=E;exact ⟨c,ws,z,by rw [aE (cM g1 y1 (by nofun))];exact g1,g2,g3,rv'⟩
   | seen w ks=>exact sN.wr E y1 (by nofun)
 ·rcases aH q2 with ⟨_,z,_⟩ | ⟨_,q2⟩
  ·cases z
  ·rcases aH q4 with ⟨_,z,_⟩ | ⟨_,q4⟩
   ·cases z
   ·exact R.inj.two j k b' es fs n q1 q2 q3 q4
 ·rcases aH q2 with ⟨_,z,_⟩ | ⟨_,q2n⟩
  ·cases z
  ·have ki:k=i:=by
    rcases aH q4 with ⟨z,_,_⟩ | ⟨_,q4⟩
    ·exact z
    ·exact R.inj.one k i ess _ q4 h
   subst ki;rw [e] at q3;cases q3;obtain ⟨m1,m2⟩:=R.inj.mix j k c a es _ q1 q2n e h;exact ⟨m1,λvs z=>by rw [aE nab] at z;exact m2 vs z⟩
 ·have hi:∀ (j:Nat) (es:List (List j0)),(ρ.set i (.nst (dss++[ds'])))[j]?=some (.nst es)->j=i:=λj es q1=>by
   rcases aH q1 with ⟨z,_,_⟩ | ⟨_,q1⟩
   ·exact z
   ·exact R.inj.one j i es _ q1 h
  rw [hi j es q1,hi k fs q2]
 ·have od:∀ (j:Nat) (ks:List (Key×j0)),(ρ.set i (.nst (dss++[ds'])))[j]?=some (.dct ks)->ρ[j]?=some (.dct ks):=λj ks q=>by
   rcases aH q with ⟨_,z,_⟩ | ⟨_,q⟩
   ·cases z
   ·exact q
  exact R.inj.oneD j k ks ls (od j ks q1) (od k ls q2)
theorem a3W {G':Hp} (gg:bG G G') (hG:∀ b,(∃ xs,H b=some (.lst xs))->True):∀ {bs:T0o} {dss:List (List j0)},Paired (b9K K H0 G H) bs dss->(∀ b∈bs,G' b=H b)->RepAll K G' (bs.map V.ref) (dss.map vk)
 | _,_,.nil,_=>.nil
 | _,_,.cons ⟨xs,x1,x2,x3,x4⟩ t,h=>.cons (.list (.of (by rw [h _ qY];exact x1)) (x4.mono gg)) (a3W gg hG t λb hb=>h b (qF _ hb))
def RepS.freezeN (R:RepS K H0 Gz G H σ ρ) (h:ρ[i]?=some (.nst dss)):∃ G',bG G G'/\RepS K H0 Gz G' H σ (ρ.set i (.val (.list (dss.map .list)))):=by
 classical
 obtain ⟨a,bs,e,h1,h2,h3,h4,h5,rv⟩:=R.ownN h;have gn:∀ c∈a::bs,G c=none/\H0 c=none/\∃ ys,H c=some (.lst ys):=λc hc=>by
  rcases qG.mp hc with rfl | hc
  ·exact ⟨h2,h3,_,h1⟩
  ·obtain ⟨_,ys,y1,y2,y3,_⟩:=tE rv hc
   exact ⟨y2,y3,ys,y1⟩
 have gg:bG G (λc=>if c∈a::bs then H c else G c):=λc o q=>by
  show (if c∈a::bs then H c else G c)=some o;rw [if_neg (λz=>by rw [(gn c z).1] at q;cases q)];exact q
 refine ⟨λc=>if c∈a::bs then H c else G c,gg,⟨⟨R.grow.gg.trans gg,R.grow.hh,λc o q=>?_,λc q n=>?_,λn c ps=>?_⟩,by simp [R.len],λj o e' q1 q2=>?_,R.inj.sub λj e' q1 q2=>?_,R.tab.1,λc ps=>?_⟩⟩
 ·have q:(if c∈a::bs then H c else G c)=some o:=q
  split at q
  ·exact q
  ·exact R.sub c o q
 ·show (if c∈a::bs then H c else G c)=none
  rw [if_neg (λz=>n (gn c z).2.1)];exact R.grow.new c q n
 ·show (if c∈a::bs then H c else G c)≠_
  split
  ·rename_i hc
   obtain ⟨ys,y⟩:=(gn c hc).2.2;rw [y];nofun
  ·exact R.grow.nt n c ps
 ·rcases aH q2 with ⟨rfl,rfl,_⟩ | ⟨nj,q2⟩
  ·rw [e] at q1;cases q1
   exact ⟨.ref a,rfl,.list (.of (by show (if a∈a::bs then H a else G a)=_;rw [if_pos qY];exact h1)) (a3W gg (λ_ _=>trivial) rv λb hb=>by show (if b∈a::bs then H b else G b)=_;rw [if_pos (qF _ hb)])⟩
  ·have E:=R.ent j o e' q1 q2
   cases e' with
   | no=>trivial
   | val d=>obtain ⟨v,z,r⟩:=E;exact ⟨v,z,r.mono gg⟩
   | exc c=>exact E
   | lst es=>
    obtain ⟨c,zs,z,g1,g2,g3,rv'⟩:=E;subst z;obtain ⟨m1,m2⟩:=R.inj.mix j i c a es dss q1 q2 e h;refine ⟨c,zs,rfl,g1,?_,g3,rv'.mono gg⟩;show (if c∈a::bs then H c else G c)=none;rw [if_neg (λz=>?_)]
    ·exact g2
    ·rcases qG.mp z with z | z
     ·exact m1 z
     ·exact m2 _ h1 (qU.mpr ⟨c,z,rfl⟩)
   | nst es=>exact absurd (R.inj.one j i es dss q2 h) nj
   | dct ks=>
    obtain ⟨c,ws,z,g1,g2,g3,rv'⟩:=E;refine ⟨c,ws,z,g1,?_,g3,rv'.mono gg⟩;show (if c∈a::bs then H c else G c)=none;rw [if_neg (λw=>by obtain ⟨ys,y⟩:=(gn c w).2.2;rw [g1] at y;cases y)];exact g2
   | seen w ks=>
    obtain ⟨c,xs,z,g1,g2,g3,g4,g5,g6⟩:=E;refine ⟨c,xs,z,g1,?_,g3,g4,g5,λy hy=>⟨(g6 y hy).1,(g6 y hy).2.mono gg⟩⟩;show (if c∈a::bs then H c else G c)=none;rw [if_neg (λw=>by obtain ⟨ys,y⟩:=(gn c w).2.2;rw [g1] at y;cases y)];exact g2
 ·rcases aH q1 with ⟨_,rfl,_⟩ | ⟨n,q1⟩
  ·cases q2
  ·exact ⟨q1,rfl⟩
 ·show (if c∈a::bs then H c else G c)≠_
  split
  ·rename_i hc
   obtain ⟨ys,y⟩:=(gn c hc).2.2;rw [y];nofun
  ·exact R.tab.2 c ps
end
section
variable {rest:List Stmt}
def noN (i:Nat) (ρ:List Ent):Bool:=(qm ρ.length).all λj=>j==i || (match ρ[j]? with | some (.nst _)=>false | _=>true)
def b8B (h:noN i ρ=true):∀ (j:Nat) (dss:List (List j0)),ρ[j]?=some (.nst dss)->j=i:=λj dss hj=>by
 have hl:=(qS.mp hj).1;have:=qe.mp h j (jp.mpr hl);rw [hj] at this;simpa using this
def b8G (i:Nat):SF:=λρ=>if noN i ρ then some (.nx (ρ.set i (.nst []))) else none
def b6D (i:Nat) {x:Str} (hN:X.N.Nodup) (hi:X.N[i]?=some x:=by rfl) (hx:Loc X.env.scope x:=by first | exact jw rfl | exact jP rfl)
  (hs:wm (.List [] p2) (some (.Name x p)) pos.line X.env=pure false:=by rfl) (hf:X.fn x=true\/X.env.scope.names.lookup x=some .local:=by first | exact .inl rfl | exact .inr rfl):
  DS X (.Assign [.Name x p] (.List [] p2) pos) (b8G i):=⟨λpz s σ H D I ⟨ρ,o,H0,Gz,G,e,R,q⟩=>yU hN hi hx (a4H pA) hs hf pz s σ H D I (by
 unfold b8G at e;split at e
 ·rename_i hz
  cases (qB e);exact ⟨by show 0<=j5;omega,λa ha=>q G _ _ (.refl _) (R.freshN ha (b8B hz))⟩
 ·cases e)⟩
def b1x (i:Nat):TF:=λρ=>match ρ[i]? with
 | some (.nst dss)=>some (.ok (!dss.isEmpty))
 | _=>none
def b6z (i:Nat) {x:Str} (hN:X.N[i]?=some x:=by rfl) (hv:Vis X.env.scope x:=by first | exact jw rfl | exact jP (jw rfl) | exact jP (jP rfl)) (hd:(x==("__debug__" : Str))=false:=by decide)
  (hcd:(x==("__classdict__" : Str))=false:=by decide):DT X (.Name x p) (b1x i):=⟨λpz s σ H Q I ⟨ρ,r,H0,Gz,G,e,R,q⟩=>by
 refine a5N (dR hN hv hd hcd) (λ_=>rfl) pz s σ H Q I ?_;unfold b1x at e;split at e
 ·rename_i dss hi
  cases (qB e);obtain ⟨a,bs,e1,h1,_,_,_,_,rv⟩:=R.ownN hi;refine ⟨_,e1,!dss.isEmpty,.inl ⟨bs.map V.ref,.of h1,?_⟩,q _ _ (.refl R.sub)⟩;cases rv<;>rfl
 ·cases e⟩
def pushN (i:Nat) (f:AF):SF:=λρ=>match ρ[i]? with
 | some (.nst dss)=>bns (f ρ) ρ λds=>if eF dss.length&&eF ds.length then some (.nx (ρ.set i (.nst (dss++[ds])))) else none
 | _=>none
def b3P (i:Nat) {x:Str} {f:AF} (h:DA X es f) (hN:X.N[i]?=some x:=by rfl)
  (hv:Vis X.env.scope x:=by first | exact jw rfl | exact jP (jw rfl) | exact jP (jP rfl)) (hd:(x==("__debug__" : Str))=false:=by decide) (hcd:(x==("__classdict__" : Str))=false:=by decide)
  (hbase:wv (.Name x p) "append" X.env (eval (.Name x p) X.env)=eval (.Name x p) X.env:=by rfl)
  (hfew:((v0 cp (j4 (.List es p2::[]) X.env)).all (λx=>!x.1)&&(yq cp (wu [] X.env)).all (λx=>x.1.isSome)&&decide ((Expr.List es p2::[]).length+([]:List Keyword).length+(if ([]:List Keyword).isEmpty then 0 else 1)<30))=true:=by rfl)
  (hline:(ap.endLine==cp.line)=true:=by rfl) (hst:j4 (.List es p2::[]) X.env=(false,eval (.List es p2) X.env)::j4 [] X.env:=by rfl) (hplain:(v0 cp (j4 [] X.env)).any (·.1)=false:=by rfl)
  (hsw:wm (.Call (.Attribute (.Name x p) "append" ap) [.List es p2] [] cp) none pos.line X.env=pure false:=by rfl):
  DS X (.Expr (.Call (.Attribute (.Name x p) "append" ap) [.List es p2] [] cp) pos) (pushN i f):=⟨λpz s σ H D I ⟨ρ,o,H0,Gz,G,ef,R,q⟩=>
 a1o (a8J zL vK vJ tG (dR hN hv hd hcd) (iY (a4H h.run) pA hst) hbase hfew hline hst hplain) hsw pz s σ H D I (by
  unfold pushN at ef;split at ef
  ·rename_i dss hi
   obtain ⟨a,bs,e1,h1,_⟩:=R.ownN hi;refine ⟨.ref a,e1,.inl ⟨rfl,bs.map V.ref,.of h1⟩,sA R ef q λds vs G1 H1 g1 R1 rv e2 q1=>?_⟩;split at e2
   ·rename_i hz
    rw [qJ] at hz;cases (qB e2);obtain ⟨a1,bs1,e1',h1',_,_,_,_,pv⟩:=R1.ownN hi;rw [e1] at e1';cases e1';have eb:bs1=bs:=by
     have:=g1.hh.lst h1;rw [h1'] at this;have:bs1.map V.ref=bs.map V.ref:=by injection this with z;injection z
     exact (zO (λ_ _ z=>by cases z;rfl)).mp this
    subst eb;have hl:bs1.length=dss.length:=vm pv;refine ⟨by rw [rv.length];exact iV hz.2,λpp hp=>⟨a,bs1.map V.ref,.ref pp,rfl,rfl,?_,by rw [qE,hl];exact a8v hz.1,?_⟩⟩
    ·rw [aE (aR h1' hp)];exact h1'
    ·have key:=R1.pushN hi e1 h1' hp rv
     rw [qc] at key;exact q1 G1 _ σ (.refl _) key
   ·cases e2
  ·cases ef)⟩
noncomputable def lastN (i:Nat) (fa:EF):SF:=λρ=>match ρ[i]? with
 | some (.nst dss)=>(match dss.getLast? with
  | some ds=>bns (fa ρ) ρ λd=>if eF ds.length then some (.nx (ρ.set i (.nst (dss.dropLast++[ds++[d]])))) else none
  | none=>none)
 | _=>none
def b5W {bs:T0o} {b:Addr}:atI ((bs++[b]).map V.ref) (-1)=some (V.ref b):=by
 unfold atI ixN;rw [if_neg (by decide),if_pos (by simp<;>omega)];simp only [qE,qf,qV,zu,Nat.zero_add,Option.bind_some];rw [show (-1+((bs.length+1:Nat):Int)).toNat=bs.length by omega];simp
theorem a0S {α:Type}:∀ {l:List α} {a:α},l.getLast?=some a->l=l.dropLast++[a]
 | [],_,h=>by cases h
 | [x],a,h=>by simp at h;simp [h]
 | x::y::t,a,h=>by
  rw [List.getLast?_cons_cons] at h;have:=a0S (l:=y::t) h;rw [List.dropLast_cons₂,vX,<-this]
def b3S (i:Nat) {x:Str} {up cp1 sp:Pos} {j1:_} (h:DE X e fa) (hN:X.N[i]?=some x:=by rfl)
  (hv:Vis X.env.scope x:=by first | exact jw rfl | exact jP (jw rfl) | exact jP (jP rfl)) (hd:(x==("__debug__" : Str))=false:=by decide) (hcd:(x==("__classdict__" : Str))=false:=by decide)
  (hs:a1t (.UnaryOp .USub (.Constant (.int 1) j1 cp1) up):=by exact λ_ _=>rfl)
  (hbase:wv (.Subscript (.Name x p) (.UnaryOp .USub (.Constant (.int 1) j1 cp1) up) sp) "append" X.env (eval (.Subscript (.Name x p) (.UnaryOp .USub (.Constant (.int 1) j1 cp1) up) sp) X.env)=eval (.Subscript (.Name x p) (.UnaryOp .USub (.Constant (.int 1) j1 cp1) up) sp) X.env:=by rfl)
  (hfew:((v0 cp (j4 (e::[]) X.env)).all (λx=>!x.1)&&(yq cp (wu [] X.env)).all (λx=>x.1.isSome)&&decide ((e::[]).length+([]:List Keyword).length+(if ([]:List Keyword).isEmpty then 0 else 1)<30))=true:=by rfl)
  (hline:(ap.endLine==cp.line)=true:=by rfl) (hst:j4 (e::[]) X.env=(false,eval e X.env)::j4 [] X.env:=by rfl) (hplain:(v0 cp (j4 [] X.env)).any (·.1)=false:=by rfl)
  (hsw:wm (.Call (.Attribute (.Subscript (.Name x p) (.UnaryOp .USub (.Constant (.int 1) j1 cp1) up) sp) "append" ap) [e] [] cp) none pos.line X.env=pure false:=by rfl):
  DS X (.Expr (.Call (.Attribute (.Subscript (.Name x p) (.UnaryOp .USub (.Constant (.int 1) j1 cp1) up) sp) "append" ap) [e] [] cp) pos) (lastN i fa):=⟨λpz s σ H D I ⟨ρ,o,H0,Gz,G,ef,R,q⟩=>
 a1o (a8J zL vK vJ tG (b2p a9b (dR hN hv hd hcd) (b7i b1r b2q) hs) (iY h.run pA hst) hbase hfew hline hst hplain) hsw pz s σ H D I (by
  unfold lastN at ef;split at ef
  ·rename_i dss hi
   split at ef
   ·rename_i ds hl
    obtain ⟨ed,_⟩:dss=dss.dropLast++[ds]/\True:=⟨a0S hl,trivial⟩;rw [ed] at hi;generalize dss.dropLast=d0 at *;subst ed;obtain ⟨a,bs,e1,h1,_,_,_,_,rv⟩:=R.ownN hi;obtain ⟨bs0,b,rfl,pv,ys,y1,y2,y3,y4⟩:=Paired.unapp rv;refine ⟨.ref a,e1,1,rfl,a,_,-1,.ref b,rfl,rfl,.of h1,b5W,.inl ⟨rfl,ys,.of y1⟩,sE R ef q λd v G1 H1 g1 R1 rv e2 q1=>?_⟩;split at e2
    ·rename_i hz
     cases (qB e2);exact ⟨b,ys,v,rfl,rfl,g1.hh.lst y1,by rw [y4.length];exact a8v hz,q1 G1 _ σ (.refl _) (R1.lastN hi e1 (g1.hh.lst h1) ((y4.mono g1.gg).append (.cons rv .nil)))⟩
    ·cases e2
   ·cases ef
  ·cases ef)⟩
def b9d (i:Nat) (f:SF):SF:=λρ=>match ρ[i]? with
 | some (.nst dss)=>f (ρ.set i (.val (.list (dss.map .list))))
 | _=>f ρ
def b6F (i:Nat) (h:DB X rest f):DB X rest (b9d i f):=⟨λpz s σ H D I ⟨ρ,o,H0,Gz,G,e,R,q⟩=>by
 unfold b9d at e;split at e
 ·rename_i dss hi
  obtain ⟨G',s',R'⟩:=R.freezeN hi;exact h.run pz s σ H D I ⟨_,o,H0,Gz,G',e,R',q.mono s'⟩
 ·exact h.run pz s σ H D I ⟨ρ,o,H0,Gz,G,e,R,q⟩⟩
end
def a5m:iP X (.builtin "sorted") (λxs H Q=>∃ (p:Addr) (ns:T0q),xs=[.ref p]/\SqL X.K H p (ns.map V.str)/\ns.length<64/\∀ l,H l=none->Q (.ref l) (upd H l (.lst ((xA ns).map V.str)))):=by
 intro pz s σ H xs us Q I r ⟨p,ns,e,hq,h64,q⟩;subst e;obtain ⟨u,rfl,rx⟩:=vals1 r;cases rx;obtain ⟨its,rv,pl,hz⟩:=I.list hq;have hi:=a1D rv;refine sorted_strs pl.isList hi (by rw [a0E hi];exact h64) λout ns' ho hp hs=>?_;have e:=b1J hp hs;subst e;obtain ⟨ep,g⟩:=sortedAll_at s.heap its out;have hf:H (s.heap.objs.size+1)=none:=I.hok.fresh (jx _);refine ⟨.ref (s.heap.objs.size+1),_,I.laid (t':=s.toks) (λb o g=>sortedAll_old g) (jx _) ?_,rfl,q _ hf⟩;refine ⟨?_,out.toList,ep,a3i ho,?_⟩
 ·rw [qE,(lJ ns).length_eq]
  exact jF (nR (by omega))
 ·rw [g]
def b1H (ds:T0l):Option j0:=match ds with
 | [.list xs]=>(match fK a2Z xs with | some ns=>if ns.length<64 then some (.list ((xA ns).map .str)) else none | none=>none)
 | _=>none
def b4L (ds:T0l) (d:j0) (h:b1H ds=some d):CallD X (.builtin "sorted") ds d:=by
 unfold b1H at h;split at h
 ·split at h
  ·rename_i xs ns e
   split at h
   ·rename_i hl
    cases (qB h);have:=fE (g:=.str) (λd a q=>a1k q) e;subst this
    exact ⟨_,a5m,λvs G H Q s r q=>by
     cases r with | cons r rr=>cases rr;cases r with | list hq r=>
      have e:=r.strs;subst e
      exact ⟨_,ns,rfl,s.seq hq,hl,λl hn=>q _ _ _ (.put s hn) (.list (.of aG) (xD _))⟩⟩
   ·cases h
  ·cases h
 ·cases h
def a9P {x:Str} {ns:T0q} (h:(x::ns).length<64):b1H [.list ((x::ns).map .str)]=some (.list ((xA (x::ns)).map .str)):=by
 unfold b1H;dsimp only;rw [hZ (g:=.str) (λ_=>rfl) (x::ns)];dsimp only;rw [if_pos h]
noncomputable abbrev a2n:EF:=eT (.nm 0) [none,some 1] (fU (var 0)) (iC inX (op2 ixD (var 0) (cst (.int 0))) (var 1)) (var 0)
noncomputable def a0i:SF:=(retS (dG a7i (aC a2n aI)))
noncomputable def lI:List j0->Mm j0:=bS 2 2 a0i
abbrev sS:TF:=a6U (b1x 1) (iC ltD (var 4) (var 2))
noncomputable abbrev a0v:SF:=ifS sS (aZ (lastN 1 (var 3)) (fT 2 (dG b0k (aC (var 2) (aC (var 5) aI))))) (aZ (pushN 1 (aC (var 3) aI)) (fT 2 (var 5)))
abbrev a0e:EF:=eT (.nm 0) [none] (fU (var 1)) ttT (dG b1H (aC (var 0) aI))
noncomputable def a2y:SF:=(aZ (b8G 1) (aZ (fT 2 (cst (.int 0))) (aZ (tP (.tp [3,4,5]) (fU (aQ eL (aC (var 0) aI))) a0v) (b9d 1 (retS a0e)))))
noncomputable def oK:List j0->Mm j0:=bS 6 1 a2y
abbrev mJ:TF:=iC inX (var 1) (var 2)
abbrev sM:SF:=ifS mJ (retS (var 2)) iB
noncomputable def uQ:SF:=(aZ (tP (.nm 2) (fU (aQ oK (aC (var 0) aI))) sM) a7k)
noncomputable def pX:List j0->Mm j0:=bS 3 2 uQ
noncomputable def uN:SF:=(retS (aQ cR (aC (aQ lI (aC (var 0) (aC (aQ pX (aC (var 0) (aC (var 1) aI))) aI))) aI)))
noncomputable def pS:List j0->Mm j0:=bS 2 2 uN
abbrev nmD (A:List Mt):List j0:=(A.map (·.1)).map .str
theorem sB (S:Ent):∀ (l:List Mt) (done:List (List Mt)) (cur:List Mt) (r:Int) (x3 x4 x5:Ent),done.length+l.length<=1000->cur.length+l.length<=1000 ->
  ∃ r' y3 y4 y5,bX (.tp [3,4,5]) a0v (l.map dM) [S,.nst ((done++[cur]).map nmD),.val (.int r),x3,x4,x5]=some (.nx [S,.nst ((done++fI l cur r).map nmD),.val (.int r'),y3,y4,y5])
 | [],done,cur,r,x3,x4,x5,_,_=>⟨r,x3,x4,x5,rfl⟩
 | m::l,done,cur,r,x3,x4,x5,h1,h2=>by
  simp only [qV] at h1 h2;have t1:sS [S,.nst ((done++[cur]).map nmD),.val (.int r),.val (.str m.1),.val (.int m.2.1),.val (.int m.2.2)]=some (.ok (decide (m.2.1<r))):=by
   show a6U (b1x 1) (iC ltD (var 4) (var 2)) _=_;have h0:b1x 1 [S,.nst ((done++[cur]).map nmD),.val (.int r),.val (.str m.1),.val (.int m.2.1),.val (.int m.2.2)]=some (.ok true):=by
    show some (Re.ok (!((done++[cur]).map nmD).isEmpty))=_;simp
   rw [a5v,h0,iX,if_pos rfl];simp
  unfold fI;by_cases c:m.2.1<r
  ·rw [if_pos c]
   obtain ⟨r',y3,y4,y5,e⟩:=sB S l done (cur++[m]) (max r m.2.2) (.val (.str m.1)) (.val (.int m.2.1)) (.val (.int m.2.2)) (by omega) (by simp;omega);refine ⟨r',y3,y4,y5,?_⟩;rw [<-e];refine dU (ρ1:=[S,.nst ((done++[cur]).map nmD),.val (.int r),.val (.str m.1),.val (.int m.2.1),.val (.int m.2.2)]) rfl ?_;show ifS sS _ _ _=_;rw [mS,t1,a4i,decide_eq_true c,if_pos rfl];have l1:lastN 1 (var 3) [S,.nst ((done++[cur]).map nmD),.val (.int r),.val (.str m.1),.val (.int m.2.1),.val (.int m.2.2)]=some (.nx [S,.nst ((done++[cur++[m]]).map nmD),.val (.int r),.val (.str m.1),.val (.int m.2.1),.val (.int m.2.2)]):=by
    unfold lastN;dsimp only [vQ,vP];rw [qc,qc,show [cur].map nmD=[nmD cur] from rfl,List.getLast?_concat];dsimp only;rw [vo];show (if eF (nmD cur).length then _ else _)=_;rw [if_pos (by unfold eF;exact decide_eq_true (by simp;omega))];simp
   rw [aM l1];show bns (dG b0k (aC (var 2) (aC (var 5) aI)) _) _ _=_;rw [hV (ρ:=[S,.nst ((done++[cur++[m]]).map nmD),.val (.int r),.val (.str m.1),.val (.int m.2.1),.val (.int m.2.2)]) (ds:=[.int r,.int m.2.2]) rfl b8J];rfl
  ·rw [if_neg c]
   obtain ⟨r',y3,y4,y5,e⟩:=sB S l (done++[cur]) [m] m.2.2 (.val (.str m.1)) (.val (.int m.2.1)) (.val (.int m.2.2)) (by simp;omega) (by simp;omega);refine ⟨r',y3,y4,y5,?_⟩;rw [show done++(cur::fI l [m] m.2.2)=(done++[cur])++fI l [m] m.2.2 by simp,<-e];refine dU (ρ1:=[S,.nst ((done++[cur]).map nmD),.val (.int r),.val (.str m.1),.val (.int m.2.1),.val (.int m.2.2)]) rfl ?_;show ifS sS _ _ _=_;rw [mS,t1,a4i,decide_eq_false c,if_neg (by decide)];have p1:pushN 1 (aC (var 3) aI) [S,.nst ((done++[cur]).map nmD),.val (.int r),.val (.str m.1),.val (.int m.2.1),.val (.int m.2.2)]=some (.nx [S,.nst ((done++[cur]++[[m]]).map nmD),.val (.int r),.val (.str m.1),.val (.int m.2.1),.val (.int m.2.2)]):=by
    unfold pushN;dsimp only [vQ,vP];rw [show aC (var 3) aI [S,.nst ((done++[cur]).map nmD),.val (.int r),.val (.str m.1),.val (.int m.2.1),.val (.int m.2.2)]=some (.ok [.str m.1]) from rfl,a4i];rw [if_pos (by unfold eF;simp;omega)];simp
   rw [aM p1];rfl
def a9g (x:Str) (ns:T0q):inX (.str x) (.list (ns.map .str))=some (decide (x∈ns)):=by
 show (Option.map _ (fK a2Z (ns.map .str)))=_;rw [hZ (g:=.str) (λ_=>rfl) ns];rfl
def a4a (s:List Mt) (ns:T0q) (hz:s.length<=1000):lI [dS s,.list (ns.map .str)]=some (.ok (dS (s.filter λm=>decide (m.1∈ns)))):=by
 refine aV rfl ?_;show a0i [.val (dS s),.val (.list (ns.map .str))]=_;have k1:a2n [.val (dS s),.val (.list (ns.map .str))]=some (.ok (.list ((s.filter λm=>decide (m.1∈ns)).map dM))):=
  fC dM (λm=>[.val (dM m),.val (.list (ns.map .str))]) (λm=>decide (m.1∈ns)) dM s rfl (by omega) (λm _=>rfl) (λm _=>by
   show lft (inX (.str m.1) (.list (ns.map .str)))=_
   rw [a9g];rfl) (λm _ _=>rfl)
 unfold a0i;rw [cF,hV (ds:=[.list ((s.filter λm=>decide (m.1∈ns)).map dM)]) (by rw [dH,k1];rfl) (b9T _)];rfl
abbrev gD (A:List Mt):j0:=.list ((xA (A.map (·.1))).map .str)
def b6i (h:A∈bI l):A.length<=l.length:=by
 have:A.Sublist (bI l).flatten:=List.sublist_flatten_of_mem h;rw [fX] at this;exact this.length_le
def a6C (nd:(s.map (·.1)).Nodup) (hz:s.length<64):oK [dS s]=some (.ok (.list ((bI (cG s)).map gD))):=by
 have hl:=(dW s).length_eq;refine aV rfl ?_;show a2y [.val (dS s),.no,.no,.no,.no,.no]=_;have lp:∃ r y3 y4 y5,bX (.tp [3,4,5]) a0v ((cG s).map dM) [.val (dS s),.nst [],.val (.int 0),.no,.no,.no]=some (.nx [.val (dS s),.nst ((bI (cG s)).map nmD),.val (.int r),y3,y4,y5]):=by
  cases hs:cG s with
  | nil=>exact ⟨0,.no,.no,.no,rfl⟩
  | cons m l=>
   rw [hs] at hl;simp only [qV] at hl;obtain ⟨r',y3,y4,y5,e⟩:=sB (.val (dS s)) l [] [m] m.2.2 (.val (.str m.1)) (.val (.int m.2.1)) (.val (.int m.2.2)) (by simp;omega) (by simp;omega);refine ⟨r',y3,y4,y5,?_⟩;rw [show bI (m::l)=[]++fI l [m] m.2.2 from rfl,<-e];refine dU (ρ1:=[.val (dS s),.nst [],.val (.int 0),.val (.str m.1),.val (.int m.2.1),.val (.int m.2.2)]) rfl ?_;rfl
 obtain ⟨r,y3,y4,y5,lp⟩:=lp;have k1:a0e [.val (dS s),.val (.list (((bI (cG s)).map nmD).map .list)),.val (.int r),y3,y4,y5]=some (.ok (.list ((bI (cG s)).map gD))):=by
  have gl:(bI (cG s)).length<=1000:=by
   have h1:∀ (Gs:List (List Mt)),(∀ A∈Gs,A≠[])->Gs.length<=Gs.flatten.length:=by
    intro Gs
    induction Gs with
    | nil=>intro _;simp
    | cons A Gs ih=>
     intro h;have hA:0<A.length:=List.length_pos_iff.mpr (h A (by simp));have:=ih λB hB=>h B (by simp [hB]);rw [List.flatten_cons,qf,qV];omega
   have:=h1 (bI (cG s)) λA hA=>by obtain ⟨y,t,e,_⟩:=a2t A hA;rw [e];simp
   rw [fX] at this;omega
  refine dX (λA:List Mt=>vk (nmD A)) (λA=>[.val (.list (nmD A))]) gD (bI (cG s)) (by rw [b1P];show some (Re.ok (((bI (cG s)).map nmD).map vk))=_;rw [qT];rfl) (by omega) (λA _=>by simp [bY]) (λA hA=>?_);obtain ⟨y,t,e,_⟩:=a2t A hA;have la:=b6i hA;subst e;refine hV (ds:=[.list (nmD (y::t))]) rfl ?_;exact a9P (x:=y.1) (ns:=t.map (·.1)) (by simp at la ⊢;omega)
 unfold a2y;rw [aM (ρ':=[.val (dS s),.nst [],.no,.no,.no,.no]) rfl,aM (ρ':=[.val (dS s),.nst [],.val (.int 0),.no,.no,.no]) rfl];rw [aM (ρ':=[.val (dS s),.nst ((bI (cG s)).map nmD),.val (.int r),y3,y4,y5]) (by rw [pG,fM (aP (ds:=[dS s]) rfl (a6B nd hz)) rfl,a4i];exact lp)];show retS a0e [.val (dS s),.val (.list (((bI (cG s)).map nmD).map .list)),.val (.int r),y3,y4,y5]=_;rw [cF,k1];rfl
theorem a6e (S:Ent) (x:Str):∀ (Gs:List (List Mt)) (y:Ent),(∃ A∈Gs,x∈A.map (·.1))->∃ A∈Gs,x∈A.map (·.1)/\bX (.nm 2) sM (Gs.map gD) [S,.val (.str x),y]=some (.rt (gD A))
 | [],y,⟨A,h,_⟩=>by cases h
 | A::Gs,y,h=>by
  have t1:mJ [S,.val (.str x),.val (gD A)]=some (.ok (decide (x∈A.map (·.1)))):=by
   show lft (inX (.str x) (gD A))=_;rw [a9g,b7m];congr 2;rw [decide_eq_decide];exact (lJ _).mem_iff
  by_cases c:x∈A.map (·.1)
  ·refine ⟨A,by simp,c,?_⟩
   rw [qI,bX,show tgD (.nm 2) [S,.val (.str x),y] (gD A)=some [S,.val (.str x),.val (gD A)] from rfl];dsimp only;rw [show sM [S,.val (.str x),.val (gD A)]=some (.rt (gD A)) from by show ifS mJ _ _ _=_;rw [mS,t1,decide_eq_true c];rfl]
  ·obtain ⟨B,hB,hx⟩:=h
   have hB':B∈Gs:=by
    rcases qG.mp hB with rfl | hB
    ·exact absurd hx c
    ·exact hB
   obtain ⟨C,hC,hxC,e⟩:=a6e S x Gs (.val (gD A)) ⟨B,hB',hx⟩;refine ⟨C,by simp [hC],hxC,?_⟩;rw [<-e,qI];exact dU (ρ1:=[S,.val (.str x),.val (gD A)]) rfl (by show ifS mJ _ _ _=_;rw [mS,t1,decide_eq_false c];rfl)
theorem pL:∀ {s:List Mt},(s.map (·.1)).Nodup->∀ {a b:Mt},a∈s->b∈s->a.1=b.1->a=b
 | [],_,_,_,h,_,_=>by cases h
 | x::s,nd,a,b,ha,hb,e=>by
  rw [qI,kF] at nd;rcases qG.mp ha with ea | ha'
  ·rcases qG.mp hb with eb | hb'
   ·rw [ea,eb]
   ·exact absurd (qU.mpr ⟨b,hb',by rw [<-e,ea]⟩) nd.1
  ·rcases qG.mp hb with eb | hb'
   ·exact absurd (qU.mpr ⟨a,ha',by rw [e,eb]⟩) nd.1
   ·exact pL nd.2 ha' hb' e
def a8c (nd:(s.map (·.1)).Nodup) (hz:s.length<64) {m:Mt} (hm:m∈s):∃ A∈bI (cG s),m∈A/\pX [dS s,.str m.1]=some (.ok (gD A)):=by
 have hf:m∈(bI (cG s)).flatten:=by rw [fX];exact (dW s).mem_iff.mpr hm
 obtain ⟨B,hB,hmB⟩:=zC.mp hf;obtain ⟨A,hA,hxA,e⟩:=a6e (.val (dS s)) m.1 (bI (cG s)) .no ⟨B,hB,qU.mpr ⟨m,hmB,rfl⟩⟩;obtain ⟨a,ha,ea⟩:=qU.mp hxA;have has:a∈s:=(dW s).mem_iff.mp (by rw [<-fX (cG s)];exact zC.mpr ⟨A,hA,ha⟩);have:a=m:=pL nd has hm ea;subst this;refine ⟨A,hA,ha,aV rfl ?_⟩;show uQ [.val (dS s),.val (.str a.1),.no]=_;unfold uQ;refine gK ?_;rw [pG,fM (aP (ds:=[dS s]) rfl (a6C nd hz)) rfl,a4i];exact e
def b6v (nd:(s.map (·.1)).Nodup) (hz:s.length<64) {m:Mt} (hm:m∈s):∃ A∈bI (cG s),m∈A/\pS [dS s,.str m.1]=some (.ok (.int (aS (s.filter λa=>decide (a∈A))))):=by
 obtain ⟨A,hA,hmA,e⟩:=a8c nd hz hm;refine ⟨A,hA,hmA,aV rfl ?_⟩;show uN [.val (dS s),.val (.str m.1)]=_;have hf:(s.filter λa=>decide (a.1∈xA (A.map (·.1))))=s.filter λa=>decide (a∈A):=by
  refine wO λa ha=>?_;rw [decide_eq_decide,(lJ _).mem_iff];constructor
  ·intro h
   obtain ⟨b,hb,eb⟩:=qU.mp h;have hbs:b∈s:=(dW s).mem_iff.mp (by rw [<-fX (cG s)];exact zC.mpr ⟨A,hA,hb⟩);rw [<-pL nd hbs ha eb];exact hb
  ·exact λh=>qU.mpr ⟨a,h,rfl⟩
 have h1:aQ lI (aC (var 0) (aC (aQ pX (aC (var 0) (aC (var 1) aI))) aI)) [.val (dS s),.val (.str m.1)]=some (.ok (dS (s.filter λa=>decide (a∈A)))):=by
  refine aP (ds:=[dS s,gD A]) ?_ (by rw [<-hf];exact a4a s _ (by omega));rw [dH,dH,aP (ds:=[dS s,.str m.1]) rfl e];rfl
 unfold uN;rw [cF,aP (ds:=[dS (s.filter λa=>decide (a∈A))]) (by rw [dH,h1];rfl) (a8a _ (qi (jr _ _) (by omega)))];rfl
end L2.L3
namespace L2.ZT
open PySem PyProof.Rows
section
variable {TI TO c d t u:Addr} {xs:Array Value} {a b:Value}
end
end L2.ZT
namespace L2.L3
open PySem PySem.Spec PyProof.Rows
section
variable {a b:Expr}
end
abbrev a2Y:TF:=iC eqD (op2 ixD (var 2) (cst (.int 0))) (var 1)
abbrev fJ:SF:=ifS a2Y (retS (var 2)) iB
def pI:SF:=(aZ (tP (.nm 2) (fU (var 0)) fJ) a7k)
def pW:List j0->Mm j0:=bS 3 2 pI
noncomputable abbrev a0N:EF:=eT (.nm 0) [none,some 2,some 1] (fU (var 0)) (a6U (iC neD (op2 ixD (var 0) (cst (.int 0))) (var 2)) (tO (aQ oI (aC (var 1) (aC (var 0) aI))))) (op2 ixD (var 0) (cst (.int 0)))
noncomputable def uO:SF:=(aZ (fT 2 (aQ pW (aC (var 0) (aC (var 1) aI)))) (retS a0N))
noncomputable def pU:List j0->Mm j0:=bS 3 2 uO
noncomputable abbrev a3R:EF:=eT (.nm 0) [none,some 1] (fU (aQ pU (aC (var 0) (aC (var 2) aI)))) ttT (op2 mH (var 1) (var 0))
abbrev a0d:EF:=eT (.nm 0) [none,some 3] (fU (var 5)) (iC gtD (var 0) (var 1)) (var 0)
noncomputable def a2z:SF:=(aZ (fT 3 (op2 mH (var 1) (var 2))) (aZ (fT 4 (aQ pS (aC (var 0) (aC (var 2) aI)))) (aZ (fT 5 (op2 fF (yZ (aC (var 4) aI)) a3R)) (retS (dP (aC (var 2) (aC (var 3) (aC (dG a7F (aC a0d aI)) (aC (var 4) aI)))))))))
noncomputable def a2P:List j0->Mm j0:=bS 6 3 a2z
noncomputable abbrev a6q:EF:=eT (.nm 0) [none,some 1,some 0] (fU (aQ fY (aC (var 0) aI))) ttT (aQ a2P (aC (var 2) (aC (var 1) (aC (var 0) aI))))
noncomputable def a5a:SF:=(aZ (fT 1 (aQ cZ (aC (var 0) aI))) (retS a6q))
noncomputable def a1u:List j0->Mm j0:=bS 2 1 a5a
variable {y:j0}
def cL {g:j0->j0->Option j0} {x d:j0} (ha:fa ρ=some (.ok x)) (hb:fb ρ=some (.ok y)) (h:g x y=some d):op2 g fa fb ρ=some (.ok d):=by
 rw [b2z,ha,iX,hb,iX,h];rfl
def gZ {g:j0->j0->Option Bool} {x:j0} {r:Bool} (ha:fa ρ=some (.ok x)) (hb:fb ρ=some (.ok y)) (h:g x y=some r):iC g fa fb ρ=some (.ok r):=by
 rw [b9A,ha,iX,hb,iX,h];rfl
def aL {x:j0} {xs:T0l} (ha:fa ρ=some (.ok x)) (hb:aa ρ=some (.ok xs)):aC fa aa ρ=some (.ok (x::xs)):=by
 rw [dH,ha,iX,hb,iX]
def a5e {l r:List Mt} {x:Mt} (hS:S=dS (l++x::r)) (h:∀ m∈l,m.1≠x.1):pW [S,.str x.1]=some (.ok (dM x)):=by
 refine aV rfl ?_;show pI [.val S,.val (.str x.1),.no]=_;unfold pI;refine gK ?_;have go:∀ (l:List Mt) (y:Ent),(∀ m∈l,m.1≠x.1)->bX (.nm 2) fJ ((l++x::r).map dM) [.val S,.val (.str x.1),y]=some (.rt (dM x)):=by
  intro l
  induction l with
  | nil=>
   intro y _;show bX (.nm 2) fJ (dM x::r.map dM) _=_;rw [bX,b9U];dsimp only [List.set];rw [show fJ [.val S,.val (.str x.1),.val (dM x)]=some (.rt (dM x)) from by simp]
  | cons m l ih=>
   intro y hl;show bX (.nm 2) fJ (dM m::(l++x::r).map dM) _=_;have n:=hl m (by simp);rw [dU (ρ1:=[.val S,.val (.str x.1),.val (dM m)]) (ρ2:=[.val S,.val (.str x.1),.val (dM m)]) rfl (by simp [n])];exact ih _ λm hm=>hl m (qF _ hm)
 subst hS;rw [pG,bP (a:=(l++x::r).map dM) (by simp)];exact go l .no h
variable {s:List Mt}
def b1I {x:Mt} (nd:(s.map (·.1)).Nodup) (hx:x∈s):∃ l r,s=l++x::r/\∀ m∈l,m.1≠x.1:=by
 obtain ⟨l,r,rfl⟩:=List.append_of_mem hx;refine ⟨l,r,rfl,λm hm=>?_⟩;rw [qc,qI,List.Nodup,kz] at nd;exact nd.2.2 m.1 (jo hm) x.1 (by simp)
def prt (s:List Mt) (m:Mt):List Mt:=s.filter λo=>!decide (o.1=m.1)&&decide (ov m o)
def a2B {m:Mt} (nd:(s.map (·.1)).Nodup) (hm:m∈s) (hz:s.length<64):pU [dS s,.str m.1]=some (.ok (.list ((prt s m).map λo=>.str o.1))):=by
 obtain ⟨l,r,e,h⟩:=b1I nd hm;refine aV rfl ?_;show uO [.val (dS s),.val (.str m.1),.no]=_;unfold uO;rw [aM (ρ':=[.val (dS s),.val (.str m.1),.val (dM m)]) (by rw [eI,aP (ds:=[dS s,.str m.1]) rfl (a5e (by rw [e]) h)];rfl)];have k1:a0N [.val (dS s),.val (.str m.1),.val (dM m)]=some (.ok (.list ((prt s m).map λo=>.str o.1))):=
  fC dM (λo=>[.val (dM o),.val (dM m),.val (.str m.1)]) (λo=>!decide (o.1=m.1)&&decide (ov m o)) (λo=>.str o.1) s rfl (by omega) (λo _=>rfl) (λo _=>by
   have h2:tO (aQ oI (aC (var 1) (aC (var 0) aI))) [.val (dM o),.val (dM m),.val (.str m.1)]=some (.ok (decide (ov m o))):=by
    rw [yL,aP (ds:=[dM m,dM o]) rfl (a4b m o)];rfl
   rw [a5v,h2];show bnd (lft (neD (.str o.1) (.str m.1))) _=_;rw [c0J]
   cases (decide (o.1=m.1))<;>rfl) (λo _ _=>rfl)
 rw [cF,k1];rfl
def gof (s:List Mt) (m:Mt):List Mt:=((bI (cG s)).find? λA=>decide (m∈A)).getD []
def grp (s:List Mt) (m:Mt):List Mt:=s.filter λa=>decide (a∈gof s m)
def wid (s:List Mt) (m:Mt):Int:=aS (grp s m)
variable {A:List Mt} {a b:Mt} {d:Int}
section
def iO {m:Mt} (hm:m∈s):gof s m∈bI (cG s)/\m∈gof s m:=by
 have hf:m∈(bI (cG s)).flatten:=by rw [fX];exact (dW s).mem_iff.mpr hm
 obtain ⟨B,hB,hmB⟩:=zC.mp hf;unfold gof;cases h:(bI (cG s)).find? λA=>decide (m∈A) with
 | none=>
  rw [List.find?_eq_none] at h;exact absurd (decide_eq_true hmB) (h B hB)
 | some A=>exact ⟨List.mem_of_find?_eq_some h,by simpa using List.find?_some h⟩
def a7G (hA:A∈bI (cG s)) (ha:a∈A):a∈s:=
 (dW s).mem_iff.mp (by rw [<-fX (cG s)];exact zC.mpr ⟨A,hA,ha⟩)
def b3o {B:List Mt} (hA:A∈bI (cG s)) (hB:B∈bI (cG s)) (ha:a∈A) (hb:b∈B) (ho:ov a b):A=B:=by
 obtain ⟨i,hi⟩:=List.getElem?_of_mem hA;obtain ⟨j,hj⟩:=List.getElem?_of_mem hB;have:=b3p (a0M s) hi hj ha hb ho;subst this;rw [hi] at hj;exact qB hj
variable (hp:∀ m∈s,m.2.1<m.2.2)
include hp
theorem b5u {m:Mt} (hm:m∈s):ov m m:=by have:=hp m hm;unfold ov;omega
theorem b3q {m:Mt} (hA:A∈bI (cG s)) (ha:m∈A):A=gof s m:=by
 have hm:=a7G hA ha;exact b3o hA (iO hm).1 ha (iO hm).2 (b5u hp hm)
theorem b9b (ha:a∈s) (hb:b∈s) (ho:ov a b):gof s a=gof s b:=b3o (iO ha).1 (iO hb).1 (iO ha).2 (iO hb).2 ho
theorem b2w (ha:cH d a=true) (hb:cH d b=true):ov a b:=by
 have h1:=eO.mp ha;have h2:=eO.mp hb;unfold ov;omega
theorem b2Q {m:Mt} (hm:m∈s) (hd:cH d m=true):aX (grp s m) d=aX s d:=by
 unfold aX eJ grp;rw [List.filter_filter];congr 3;refine wO λo ho=>?_;cases hg:cH d o with
 | false=>rfl
 | true=>
  rw [vU];refine decide_eq_true ?_;rw [b9b hp hm ho (b2w hp hd hg)];exact (iO ho).2
theorem b2P {m:Mt} (hm:m∈s) (hd:cH d m=true):aX s d<=wid s m:=by
 rw [<-b2Q hp hm hd];exact a8R _ _
theorem b0z {m:Mt} (hm:m∈s):cH m.2.1 m=true:=eO.mpr ⟨kG _,hp m hm⟩
omit hp
theorem c1d (hp:∀ m∈s,m.2.1<m.2.2) (nd:(s.map (·.1)).Nodup) (hz:s.length<64) {m:Mt} (hm:m∈s):pS [dS s,.str m.1]=some (.ok (.int (wid s m))):=by
 obtain ⟨A,hA,hmA,e⟩:=b6v nd hz hm;rw [b3q hp hA hmA] at e;exact e
structure Laid (s:List Mt) (P:List Ly):Prop where
 lay:LayOf s P
 pos:∀ m∈s,m.2.1<m.2.2
 nd:(s.map (·.1)).Nodup
abbrev cl (P:List Ly) (m:Mt):Int:=(a0W P m.1:Nat)
variable {P:List Ly}
theorem Laid.inP (h:Laid s P) {m:Mt} (hm:m∈s):(m,a0W P m.1)∈P:=by
 obtain ⟨p,hp,rfl⟩:=qU.mp (h.lay.perm.mem_iff.mpr hm);rw [a6N (h.lay.nd h.nd) p hp];exact hp
theorem Laid.col_wid (h:Laid s P) {m:Mt} (hm:m∈s):cl P m<wid s m:=by
 have h1:=h.lay.up h.pos (h.inP hm);have h2:=h.lay.load m.2.1;have h3:=b2P h.pos hm (b0z h.pos hm);dsimp only at h1;show ((a0W P m.1:Nat):Int)<_;omega
theorem Laid.col_ne (h:Laid s P) (ha:a∈s) (hb:b∈s) (hn:a≠b) (ho:ov a b):cl P a≠cl P b:=by
 obtain ⟨i,hi,ei⟩:=wB (h.inP ha);obtain ⟨j,hj,ej⟩:=wB (h.inP hb);have pw:=h.lay.diff;rw [kP] at pw;rcases wL i j with c | c | c
 ·have:=pw i j hi hj c
  rw [ei,ej] at this;have:=this ((b5w _ _).mp ho);dsimp only at this;show ((_:Nat):Int)≠((_:Nat):Int);omega
 ·subst c
  rw [ei] at ej;exact absurd (congrArg Prod.fst ej) hn
 ·have:=pw j i hj hi c
  rw [ei,ej] at this;have:=this ho;dsimp only at this;show ((_:Nat):Int)≠((_:Nat):Int);omega
def lst (s:List Mt) (P:List Ly) (m:Mt):Int:=b2I ((wid s m::(prt s m).map (cl P)).filter λc=>decide (cl P m<c))
theorem b8L (h:Laid s P) {m:Mt} (hm:m∈s):(wid s m::(prt s m).map (cl P)).filter (λc=>decide (cl P m<c))≠[]:=by
 rw [qZ (by exact decide_eq_true (h.col_wid hm))];exact List.cons_ne_nil _ _
theorem a8S {m o:Mt} (h:Laid s P) (hm:m∈s):o∈prt s m↔o∈s/\o≠m/\ov m o:=by
 unfold prt;rw [jk];constructor
 ·rintro ⟨h1,h2⟩
  rw [qJ,decide_eq_true_eq] at h2;exact ⟨h1,λz=>by rw [z] at h2;simp at h2,h2.2⟩
 ·rintro ⟨h1,h2,h3⟩
  refine ⟨h1,?_⟩;rw [qJ,decide_eq_true_eq];refine ⟨?_,h3⟩;have:o.1≠m.1:=λz=>h2 (pL h.nd h1 hm z);simp [this]
abbrev dB (s:List Mt) (P:List Ly) (m:Mt):j0:=.tuple [.str m.1,.int (cl P m),.int (lst s P m),.int (wid s m)]
theorem a7E {l:T0s} (h:l≠[]):a7F [.list (l.map .int)]=some (.int (b2I l)):=by
 show (match fK intD (l.map .int) with | some (n::ns)=>some (jX (b2I (n::ns))) | _=>none)=_;rw [oB];cases l with
 | nil=>exact absurd rfl h
 | cons a r=>rfl
theorem b3K (h:Laid s P) (hz:s.length<64) {m:Mt} (hm:m∈s):a2P [dS s,gY P,.str m.1]=some (.ok (dB s P m)):=by
 have gc:∀ o∈s,mH (gY P) (.str o.1)=some (.int (cl P o)):=λo ho=>a9j (h.lay.mem ho);refine aV rfl ?_;show a2z [.val (dS s),.val (gY P),.val (.str m.1),.no,.no,.no]=_;unfold a2z
 rw [aM (ρ':=[.val (dS s),.val (gY P),.val (.str m.1),.val (.int (cl P m)),.no,.no]) (by
  rw [eI,show op2 mH (var 1) (var 2) [.val (dS s),.val (gY P),.val (.str m.1),.no,.no,.no]=some (.ok (.int (cl P m))) from by
   show lft (mH (gY P) (.str m.1))=_
   rw [gc m hm];rfl];rfl)]
 rw [aM (ρ':=[.val (dS s),.val (gY P),.val (.str m.1),.val (.int (cl P m)),.val (.int (wid s m)),.no]) (by
  rw [eI,aP (ds:=[dS s,.str m.1]) rfl (c1d h.pos h.nd hz hm)];rfl)]
 have lp:(prt s m).length<=s.length:=jr _ _;have k1:a3R [.val (dS s),.val (gY P),.val (.str m.1),.val (.int (cl P m)),.val (.int (wid s m)),.no]=some (.ok (.list (((prt s m).map (cl P)).map .int))):=by
  rw [qT]
  exact dX (λo:Mt=>kj o.1) (λo=>[.val (.str o.1),.val (gY P)]) (λo=>.int (cl P o)) (prt s m) (fM (aP (ds:=[dS s,.str m.1]) rfl (a2B h.nd hm hz)) rfl) (by omega) (λo _=>rfl) (λo ho=>by
   show lft (mH (gY P) (.str o.1))=_
   rw [gc o ((a8S h hm).mp ho).1];rfl)
 rw [aM (ρ':=[.val (dS s),.val (gY P),.val (.str m.1),.val (.int (cl P m)),.val (.int (wid s m)),.val (.list ((wid s m::(prt s m).map (cl P)).map .int))]) (by
  rw [eI,b2z,show yZ (aC (var 4) aI) [.val (dS s),.val (gY P),.val (.str m.1),.val (.int (cl P m)),.val (.int (wid s m)),.no]=some (.ok (.list [.int (wid s m)])) from rfl,iX,k1,iX,b9H,if_pos (by simp;omega)];rfl)]
 have k2:a0d [.val (dS s),.val (gY P),.val (.str m.1),.val (.int (cl P m)),.val (.int (wid s m)),.val (.list ((wid s m::(prt s m).map (cl P)).map .int))]=some (.ok (.list (((wid s m::(prt s m).map (cl P)).filter λc=>decide (cl P m<c)).map .int))):=
  fC jX (λc=>[.val (.int c),.val (.int (cl P m))]) (λc=>decide (cl P m<c)) jX (wid s m::(prt s m).map (cl P)) rfl (by simp;omega) (λc _=>rfl) (λc _=>rfl) (λc _ _=>rfl)
 have mn:dG a7F (aC a0d aI) [.val (dS s),.val (gY P),.val (.str m.1),.val (.int (cl P m)),.val (.int (wid s m)),.val (.list ((wid s m::(prt s m).map (cl P)).map .int))]=some (.ok (.int (lst s P m))):=
  hV (ds:=[.list (((wid s m::(prt s m).map (cl P)).filter λc=>decide (cl P m<c)).map .int)]) (by rw [dH,k2];rfl) (a7E (b8L h hm))
 rw [cF,rN,dH,dH,dH,mn];rfl
theorem b6y (h:Laid s P) (hc:cZ [dS s]=some (.ok (gY P))) (hz:s.length<64):a1u [dS s]=some (.ok (.list (s.map (dB s P)))):=by
 refine aV rfl ?_;show a5a [.val (dS s),.no]=_;unfold a5a;rw [aM (ρ':=[.val (dS s),.val (gY P)]) (by rw [eI,aP (ds:=[dS s]) rfl hc];rfl)];have k1:a6q [.val (dS s),.val (gY P)]=some (.ok (.list (s.map (dB s P)))):=
  dX (λo:Mt=>kj o.1) (λo=>[.val (.str o.1),.val (gY P),.val (dS s)]) (dB s P) s (fM (aP (ds:=[dS s]) rfl (a5d s (by omega))) (by rw [qT];rfl)) (by omega) (λo _=>rfl) (λo ho=>aP (ds:=[dS s,gY P,.str o.1]) rfl (b3K h hz ho))
 rw [cF,k1];rfl
end
end L2.L3
namespace L2.ZT
open PySem PyProof.Rows
variable {xs:Array Value} {y:Value}
section
variable {TI TO c d t u:Addr} {a b:Value}
def b6d {x:Value} (D:ZipApart z TI TO c d t u) (hz:IsZip s.heap z TI TO .none) (hI:yn s.heap TI (.ref c) (.ref d)) (hO:yn s.heap TO a b)
  (hc:s.heap.IsListIter c t i) (hd:s.heap.IsTupleIter d u j) (ht:s.heap.IsList t xs) (hu:s.heap.IsTuple u ys) (hx:xs[i]?=some x) (hy:ys[j]?=some y)
  (q:∀ k,IsZip k z TI TO (v7 s.heap.objs.size)->yn k TO x y->k.IsListIter c t (i+1)->k.IsTupleIter d u (j+1)->yn k s.heap.objs.size x y->k.objs.size=s.heap.objs.size+1 ->
   (∀ e o,e≠z->e≠TO->e≠c->e≠d->s.heap.get? e=some o->k.get? e=some o)->Q (.ref s.heap.objs.size) { s with heap:=k }):
  wpAny (model prog w) A (Builtin.«zip.__next__» ⟨[.ref z],[]⟩) (λfin s'=>∃ v,fin=.done (.ret v)/\Q v s') E s:=by
 show wpAny _ _ (field (.ref z) 2>>=_) _ _ s;refine q8 (wq hz rfl (x:=kZ false) rfl ?_);show wpAny _ _ (field (.ref z) 3>>=_) _ _ s;refine q8 (wq hz rfl (x:=qw TI) rfl ?_);refine q8 (v6 hI rfl ?_);show wpAny _ _ (kO (.ref z)>>=_) _ _ s;refine q8 ?_;unfold kO;refine q8 (wq hz rfl (x:=jR) rfl (j3 ?_));simp only [if_true];refine q8 (wp (q8 (wq hz rfl (x:=qw TO) rfl (q8 (k7 hz (by simp) λka za sa=>?_)))))
 replace za:IsZip ka z TI TO .ellipsis:=za
 refine q8 ?_;simp only [List.zipIdx_cons,List.zipIdx_nil,zx,List.forIn_nil];refine q8 (q8 (QI ?_));show wpAny _ _ (jM (.ref c)>>=_) _ _ _;refine q8 (wpAny_nextOf_list_item (hc.extBut sa.extBut D.i1z) (ht.extBut sa.extBut D.l1z) hx λkb cb sb=>j3 ?_);have ob:yn kb TO a b:=sb.extBut _ _ D.TOi1 (sa.extBut _ _ D.TOz hO);refine q8 (v6 ob rfl (q8 (uz ob λkc oc sc=>?_)))
 replace oc:yn kc TO x b:=oc
 refine q8 (ua (j3 (q8 (q8 (QI ?_)))));show wpAny _ _ (jM (.ref d)>>=_) _ _ _;have dc:kc.IsTupleIter d u j:=((hd.extBut sa.extBut D.i2z).extBut sb.extBut D.i12.symm).extBut sc.extBut D.TOi2.symm;have uc:kc.IsTuple u ys:=((hu.extBut sa.extBut D.l2z).extBut sb.extBut D.l2i1).extBut sc.extBut D.l2TO;refine q8 (b1w dc uc hy λkd dd sd=>j3 ?_);have od:yn kd TO x b:=sd.extBut _ _ D.TOi2 oc;refine q8 (v6 od rfl (q8 (uz od λke oe se=>?_)))
 replace oe:yn ke TO x y:=oe
 refine q8 (ua (j3 (j3 (q8 (v6 oe rfl (q8 (wpAny_newTuple ?_)))))));have sz:ke.objs.size=s.heap.objs.size:=by rw [se.1,sd.1,sc.1,sb.1,sa.1]
 have ze:IsZip ke z TI TO .ellipsis:=se.extBut _ _ D.TOz.symm (sd.extBut _ _ D.i2z.symm (sc.extBut _ _ D.TOz.symm (sb.extBut _ _ D.i1z.symm za)));have kp:∀ e o,e≠z->e≠TO->e≠c->e≠d->s.heap.get? e=some o->ke.get? e=some o:=λe o n1 n2 n3 n4 g=>
  se.extBut _ _ n2 (sd.extBut _ _ n4 (sc.extBut _ _ n2 (sb.extBut _ _ n3 (sa.extBut _ _ n1 g))))
 have ce:ke.IsListIter c t (i+1):=((cb.extBut sc.extBut D.TOi1.symm).extBut sd.extBut D.i12).extBut se.extBut D.TOi1.symm;have de:ke.IsTupleIter d u (j+1):=dd.extBut se.extBut D.TOi2.symm;have zl:z<ke.objs.size:=qM ze;show wpAny _ _ (wV (.ref z) (.ref ke.objs.size)>>=_) _ _ _;refine q8 ?_;unfold wV;have zf:IsZip (ke.push { cls:=.type "tuple", data:=.seq #[x,y] }) z TI TO .ellipsis:=qD _ ze;refine q8 (k7 zf (by simp) λkg zg sg=>?_)
 replace zg:IsZip kg z TI TO (v7 ke.objs.size):=zg
 refine k7 zg (by simp) λkh zh sh=>?_
 replace zh:IsZip kh z TI TO (v7 ke.objs.size):=zh
 have up:∀ e o,e≠z->ke.get? e=some o->kh.get? e=some o:=λe o n g=>sh.extBut _ _ n (sg.extBut _ _ n (qD _ g));have th:yn kh ke.objs.size x y:=sh.extBut _ _ (jW zl) (sg.extBut _ _ (jW zl) (qH _ rfl));have lh:kh.objs.size=ke.objs.size+1:=by rw [sh.1,sg.1,qu]
 rw [sz] at zh th lh;refine j3 ⟨_,rfl,?_⟩;show Q (.ref ke.objs.size) _;rw [sz];exact q kh zh (up _ _ D.TOz oe) (ce.at λo g=>up _ o D.i1z g) (de.at λo g=>up _ o D.i2z g) th lh λe o n1 n2 n3 n4 g=>up e o n1 (kp e o n1 n2 n3 n4 g)
def b4K {Q:Fin->Shared->Prop} (hh:A.handled=none) (D:ZipApart z TI TO c d t u) (hz:IsZip s.heap z TI TO .none) (hI:yn s.heap TI (.ref c) (.ref d)) (hO:yn s.heap TO a b)
  (hc:s.heap.IsListIter c t i) (hd:s.heap.IsTupleIter d u j) (ht:s.heap.IsList t xs) (hu:s.heap.IsTuple u ys) (hend:xs[i]?=none\/ys[j]?=none)
  (q:∀ k e,(∀ f o,f≠z->f≠TO->f≠c->f≠d->s.heap.get? f=some o->k.get? f=some o)->(∃ o,k.get? e=some o/\o.cls=.type "StopIteration")->E (.ref e) { s with heap:=k }):
  wpAny (model prog w) A (Builtin.«zip.__next__» ⟨[.ref z],[]⟩) Q E s:=by
 show wpAny _ _ (field (.ref z) 2>>=_) _ _ s;refine q8 (wq hz rfl (x:=kZ false) rfl ?_);show wpAny _ _ (field (.ref z) 3>>=_) _ _ s;refine q8 (wq hz rfl (x:=qw TI) rfl ?_);refine q8 (v6 hI rfl ?_);show wpAny _ _ (kO (.ref z)>>=_) _ _ s;refine q8 ?_;unfold kO;refine q8 (wq hz rfl (x:=jR) rfl (j3 ?_));simp only [if_true];refine q8 (wp (q8 (wq hz rfl (x:=qw TO) rfl (q8 (k7 hz (by simp) λka za sa=>?_)))))
 replace za:IsZip ka z TI TO .ellipsis:=za
 refine q8 ?_;simp only [List.zipIdx_cons,List.zipIdx_nil,zx,List.forIn_nil];refine q8 (q8 (QI ?_));show wpAny _ _ (jM (.ref c)>>=_) _ _ _;cases hx:xs[i]? with
 | none=>
  refine q8 (wpAny_nextOf_list_end hh (hc.extBut sa.extBut D.i1z) (ht.extBut sa.extBut D.l1z) hx λkb e sb he=>?_);obtain ⟨oe,ge,ee⟩:=he;have zb:IsZip kb z TI TO .ellipsis:=sb _ _ D.i1z.symm za;have ne:e≠z:=λx=>by rw [x,zb] at ge;cases ge;simp at ee
  exact k7 zb (by simp) λkc _ sc=>q kc e (λf o n1 _ n3 _ g=>sc.extBut _ _ n1 (sb _ _ n3 (sa.extBut _ _ n1 g))) ⟨oe,sc.extBut _ _ ne ge,ee⟩
 | some x=>
  have hy:ys[j]?=none:=by
   rcases hend with h | h
   ·rw [hx] at h;cases h
   ·exact h
  refine q8 (wpAny_nextOf_list_item (hc.extBut sa.extBut D.i1z) (ht.extBut sa.extBut D.l1z) hx λkb cb sb=>j3 ?_);have ob:yn kb TO a b:=sb.extBut _ _ D.TOi1 (sa.extBut _ _ D.TOz hO);refine q8 (v6 ob rfl (q8 (uz ob λkc oc sc=>?_)));refine q8 (ua (j3 (q8 (q8 (QI ?_)))));show wpAny _ _ (jM (.ref d)>>=_) _ _ _;have dc:kc.IsTupleIter d u j:=((hd.extBut sa.extBut D.i2z).extBut sb.extBut D.i12.symm).extBut sc.extBut D.TOi2.symm;have uc:kc.IsTuple u ys:=((hu.extBut sa.extBut D.l2z).extBut sb.extBut D.l2i1).extBut sc.extBut D.l2TO;refine q8 (b1u hh dc uc hy λkd e sd he=>?_);obtain ⟨oe,ge,ee⟩:=he;have zd:IsZip kd z TI TO .ellipsis:=sd _ _ D.i2z.symm (sc.extBut _ _ D.TOz.symm (sb.extBut _ _ D.i1z.symm za));have ne:e≠z:=λx=>by rw [x,zd] at ge;cases ge;simp at ee
  exact k7 zd (by simp) λke _ se=>q ke e (λf o n1 n2 n3 n4 g=>se.extBut _ _ n1 (sd _ _ n4 (sc.extBut _ _ n2 (sb.extBut _ _ n3 (sa.extBut _ _ n1 g))))) ⟨oe,se.extBut _ _ ne ge,ee⟩
def next_lt {x:Value} {Q:Option Value->Shared->Prop} (D:ZipApart z TI TO c d t u) (hz:IsZip s.heap z TI TO .none) (hI:yn s.heap TI (.ref c) (.ref d)) (hO:yn s.heap TO a b)
  (hc:s.heap.IsListIter c t i) (hd:s.heap.IsTupleIter d u j) (ht:s.heap.IsList t xs) (hu:s.heap.IsTuple u ys) (hx:xs[i]?=some x) (hy:ys[j]?=some y)
  (q:∀ k,IsZip k z TI TO (v7 s.heap.objs.size)->yn k TO x y->k.IsListIter c t (i+1)->k.IsTupleIter d u (j+1)->yn k s.heap.objs.size x y->k.objs.size=s.heap.objs.size+1 ->
   (∀ e o,e≠z->e≠TO->e≠c->e≠d->s.heap.get? e=some o->k.get? e=some o)->Q (some (.ref s.heap.objs.size)) { s with heap:=k }):wpAny (model prog w) A (yf (.ref z)) Q E s:=by
 have ty:s.TypeIs (.ref z) "zip" := ⟨_,hz,rfl⟩;unfold yf;exact q8 (yg (k5 (name:=qx "__next__") ty wG (j9 wG ty F.entry_zip_next (b6d D hz hI hO hc hd ht hu hx hy λk a1 a2 a3 a4 a5 a6 a7=>j3 (q k a1 a2 a3 a4 a5 a6 a7)) (F.args_zip_next_1 _))))
def last_lt {Q:Option Value->Shared->Prop} (hh:A.handled=none) (D:ZipApart z TI TO c d t u) (hz:IsZip s.heap z TI TO .none) (hI:yn s.heap TI (.ref c) (.ref d)) (hO:yn s.heap TO a b)
  (hc:s.heap.IsListIter c t i) (hd:s.heap.IsTupleIter d u j) (ht:s.heap.IsList t xs) (hu:s.heap.IsTuple u ys) (hend:xs[i]?=none\/ys[j]?=none)
  (q:∀ k,(∀ f o,f≠z->f≠TO->f≠c->f≠d->s.heap.get? f=some o->k.get? f=some o)->Q none { s with heap:=k }):wpAny (model prog w) A (yf (.ref z)) Q E s:=by
 have ty:s.TypeIs (.ref z) "zip" := ⟨_,hz,rfl⟩;unfold yf;refine q8 (yg (k5 (name:=qx "__next__") ty wG (j9 wG ty F.entry_zip_next (b4K hh D hz hI hO hc hd ht hu hend λk e hk he=>?_) (F.args_zip_next_1 _))));obtain ⟨oe,ge,ee⟩:=he;exact q8 (yh (T := "StopIteration") (b:=true) ⟨oe,ge,ee⟩ QB (j3 (q _ hk)))
end
abbrev vAx (h:Heap) (l:Addr):Heap:=h.push { cls:=.type "list_iterator", data:=.fields #[.ref l,.int 0 0] }
abbrev vBx (h:Heap) (l m:Addr):Heap:=(vAx h l).push (itT m)
abbrev vCx (h:Heap) (l m:Addr):Heap:=(vBx h l m).push { cls:=.type "tuple", data:=.seq #[.ref h.objs.size,.ref (vAx h l).objs.size] }
abbrev vDx (h:Heap) (l m:Addr):Heap:=(vCx h l m).push { cls:=.type "tuple", data:=.seq #[.none,.none] }
abbrev vEx (h:Heap) (l m:Addr):Heap:=(vDx h l m).push { cls:=.type "zip", data:=.fields #[.none,.bool false,.bool false,.ref (vBx h l m).objs.size,.ref (vCx h l m).objs.size] }
def b8E (l m:Addr) (xs ys:Array Value):Meets (Builtin.«zip.__new__» ⟨[.type "zip", .ref l,.ref m],[]⟩) (λ_ R s=>s.heap.IsList l xs/\s.heap.IsTuple m ys/\R (.ok (.ret (.ref (vDx s.heap l m).objs.size))) { s with heap:=vEx s.heap l m }):=
 .of_wp λprog w A R s h=>by
  obtain ⟨hp,g,d,tk,os⟩:=s;obtain ⟨ha,hb,h⟩:=h;have sub:=sub_zip;have tA:Heap.IsList (Shared.heap ⟨hp,g,d,tk,os⟩) l xs:=ha;have tB:Heap.IsTuple (Shared.heap ⟨vAx hp l,g,d,tk,os⟩) m ys:=Heap.IsTuple.push hb _
  wp_walk using ym tA,wpAny_pyIter_tuple tB
  exact ⟨_,rfl,h⟩
def call_lt {m:Addr} (ha:s.heap.IsList l xs) (hb:s.heap.IsTuple m ys)
  (q:∀ k,IsZip k (s.heap.objs.size+4) (s.heap.objs.size+2) (s.heap.objs.size+3) .none->yn k (s.heap.objs.size+2) (.ref s.heap.objs.size) (.ref (s.heap.objs.size+1))->yn k (s.heap.objs.size+3) .none .none ->
   k.IsListIter s.heap.objs.size l 0->k.IsTupleIter (s.heap.objs.size+1) m 0->(∀ c o,s.heap.get? c=some o->k.get? c=some o)->Q (.ref (s.heap.objs.size+4)) { s with heap:=k }):
  wpAny (model prog w) A (call (.type "zip") [.ref l,.ref m]) Q E s:=by
 refine callType_new F.called_zip (by decide) (F.typeCall_zip_2 _ _) (F.newCall_zip_2 _ _) (λobj=>F.args_object_init_3 obj _ _) F.entry_zip_new (b8E l m xs ys) ⟨ha,hb,?_⟩;have n1:(vAx s.heap l).objs.size=s.heap.objs.size+1:=qu ..;have n2:(vBx s.heap l m).objs.size=s.heap.objs.size+2:=by rw [qu,n1]
 have n3:(vCx s.heap l m).objs.size=s.heap.objs.size+3:=by rw [qu,n2]
 have n4:(vDx s.heap l m).objs.size=s.heap.objs.size+4:=by rw [qu,n3]
 have v5:(vEx s.heap l m).get? (vDx s.heap l m).objs.size=some _:=qH _ rfl;have v4:(vEx s.heap l m).get? (vCx s.heap l m).objs.size=some _:=qD _ (qH _ rfl);have v3:(vEx s.heap l m).get? (vBx s.heap l m).objs.size=some _:=qD _ (qD _ (qH _ rfl));have v2:(vEx s.heap l m).get? (vAx s.heap l).objs.size=some _:=qD _ (qD _ (qD _ (qH _ rfl)));have v1:(vEx s.heap l m).get? s.heap.objs.size=some _:=qD _ (qD _ (qD _ (qD _ (qH _ rfl))));show _/\_;rw [n2,n3,n4] at v5;rw [n1,n2] at v3;rw [n3] at v4;rw [n1] at v2;rw [n4];exact ⟨⟨_,v5,rfl⟩,q _ v5 v3 v4 ⟨_,v1,rfl,rfl⟩ ⟨_,v2,rfl,rfl⟩ λc o g=>qD _ (qD _ (qD _ (qD _ (qD _ g))))⟩
end L2.ZT
namespace L2.L3
open PySem PySem.Spec PyProof.Rows
def c1m (K:qC) (l1 l2:Addr):It:=
 ⟨λi H=>∃ xs ys x y,SqL K H l1 xs/\SqT K H l2 ys/\xs[i]?=some x/\ys[i]?=some y,
 λi H v H'=>∃ T x y,H T=none/\v=.ref T/\H'=upd H T (.tup [x,y])/\(∀ xs,SqL K H l1 xs->xs[i]?=some x)/\∀ ys,SqT K H l2 ys->ys[i]?=some y,
 λi H=>∃ xs ys,SqL K H l1 xs/\SqT K H l2 ys/\(xs.length<=i\/ys.length<=i)⟩
def c1B (z TI TO i1 i2 l1 l2:Addr) (i:Nat) (h:Heap):Prop:=IsZip h z TI TO .none/\yn h TI (.ref i1) (.ref i2)/\(∃ a b,yn h TO a b)/\h.IsListIter i1 l1 i/\h.IsTupleIter i2 l2 i
def a3h (fa fb:EF):AF:=λρ=>match fa ρ,fb ρ with
 | some (.ok (.list a)),some (.ok (.tuple b))=>some (.ok (b1j a b))
 | _,_=>none
variable {l1 l2:Addr}
def b4C {K:qC} {TI TO i1 i2:Addr} (D:ZipApart z TI TO i1 i2 l1 l2):Turn P w K (.Tuple pq k0 p0) (c1m K l1 l2) [z,TI,TO,i1,i2] z (c1B z TI TO i1 i2 l1 l2) where
 mem:=by simp
 obj:=λi h ⟨hz,hTI,⟨a,b,hTO⟩,⟨o1,g1,_,d1⟩,⟨o2,g2,_,d2⟩⟩ c hc=>by
  simp only [qG,ql,or_false] at hc;rcases hc with rfl | rfl | rfl | rfl | rfl
  ·exact ⟨_,hz,λv q=>by cases q⟩
  ·exact ⟨_,hTI,λv q=>by cases q⟩
  ·exact ⟨_,hTO,λv q=>by cases q⟩
  ·exact ⟨o1,g1,λv q=>by rw [d1] at q;cases q⟩
  ·exact ⟨o2,g2,λv q=>by rw [d2] at q;cases q⟩
 keep:=λi h h' ⟨hz,hTI,⟨a,b,hTO⟩,h1,h2⟩ kp=>⟨kp z (by simp) _ hz,kp TI (by simp) _ hTI,⟨a,b,kp TO (by simp) _ hTO⟩,h1.at λo e=>kp i1 (by simp) o e,h2.at λo e=>kp i2 (by simp) o e⟩
 item:=by
  intro X hP hw hK hc i pz s σ H E I hf ⟨hz,hTI,⟨a,b,hTO⟩,h1,h2⟩ ⟨xs,ys,x,y,q1,q2,ex,ey⟩;subst hP hw hK;obtain ⟨its,r1,p1,_⟩:=I.list q1;obtain ⟨its2,r2,p2,_⟩:=I.tuple q2;obtain ⟨u,eu,ru⟩:=r1.get ex;obtain ⟨v,ev,rv⟩:=r2.get ey;refine ZT.next_lt D hz hTI hTO h1 h2 p1.isList p2 (x:=u) (y:=v) (by rw [jG];exact eu) (by rw [jG];exact ev) λh' a1 a2 a3 a4 a5 a6 hk=>⟨_,rfl,?_⟩;refine wpAny_letOwnedTupleGo_zip a1 λh2' hz' hs'=>?_;have hk2:∀ c o,c∉[z,TO,i1,i2]->s.heap.get? c=some o->h2'.get? c=some o:=λc o hc e=>by
   simp only [qG,ql,or_false,not_or] at hc;exact hs'.extBut c o hc.1 (hk c o hc.1 hc.2.1 hc.2.2.1 hc.2.2.2 e)
  have nT:s.heap.objs.size≠z:=jW (qM hz);have new:bZ X.prog X.w (upd H s.heap.objs.size (.tup [x,y])) h2' s.heap.objs.size (.tup [x,y]):=
   ⟨by show 2<=j5;decide,[u,v],.cons ru (.cons rv .nil),⟨_,hs'.extBut _ _ nT a5,rfl,_,rfl⟩⟩
  have hfT:H s.heap.objs.size=none:=I.hok.fresh (qN _)
  refine ⟨.ref s.heap.objs.size,upd H s.heap.objs.size (.tup [x,y]),Inv.turnNew (s:=s) (h':=h2') (t':=s.toks) [z,TO,i1,i2] I (λc hc=>hf c (by simp only [qG,ql,or_false] at hc ⊢;rcases hc with h | h | h | h<;>simp [h])) hk2 (qN _) new,rfl,
   ⟨_,x,y,hfT,rfl,rfl,λxs' q=>by rw [I.list_inj q q1];exact ex,λys' q=>by rw [I.tuple_inj q q2];exact ey⟩,⟨hz',hs'.extBut _ _ D.TIz (hk _ _ D.TIz D.TITO D.TIi1 D.TIi2 hTI),⟨_,_,hs'.extBut _ _ D.TOz a2⟩,a3.extBut hs'.extBut D.i1z,a4.extBut hs'.extBut D.i2z⟩,λc hc=>?_⟩
  obtain ⟨o,e,_⟩:∃ o,s.heap.get? c=some o/\True:=by
   simp only [qG,ql,or_false] at hc;rcases hc with rfl | rfl | rfl | rfl | rfl
   ·exact ⟨_,hz,trivial⟩
   ·exact ⟨_,hTI,trivial⟩
   ·exact ⟨_,hTO,trivial⟩
   ·obtain ⟨o,g,_⟩:=h1;exact ⟨o,g,trivial⟩
   ·obtain ⟨o,g,_⟩:=h2;exact ⟨o,g,trivial⟩
  rw [aE (qW (qM e))];exact (hf c hc).1
 done:=by
  intro X hP hw hK hc i pz s σ H E I hf ⟨hz,hTI,⟨a,b,hTO⟩,h1,h2⟩ ⟨xs,ys,q1,q2,hend⟩;subst hP hw hK;obtain ⟨its,r1,p1,_⟩:=I.list q1;obtain ⟨its2,r2,p2,_⟩:=I.tuple q2;have l1':=r1.length;have l2':=r2.length;refine ZT.last_lt (I.ok.hd hc) D hz hTI hTO h1 h2 p1.isList p2 ?_ λh' hk=>⟨rfl,Inv.turnAll (t':=s.toks) [z,TO,i1,i2] I (λc hc=>hf c (by simp only [qG,ql,or_false] at hc ⊢;rcases hc with h | h | h | h<;>simp [h])) λc o hc e=>?_⟩
  ·rcases hend with he | he
   ·exact .inl (by rw [jG];exact qb (by omega))
   ·exact .inr (by rw [jG];exact qb (by omega))
  ·simp only [qG,ql,or_false,not_or] at hc
   exact hk c o hc.1 hc.2.1 hc.2.2.1 hc.2.2.2 e
 self:=λA i s Q E st h=>wpAny_pyIter_zip st.1 h
def b4A {K:qC} {ys:List V} {es:T0l} (h1:SqL K G l1 xs) (r1:RepAll K G xs ds) (h2:SqT K G l2 ys) (r2:RepAll K G ys es):Walk K (c1m K l1 l2) G (b1j ds es):=by
 intro i G' H' s1 s2;have a1:=(s1.trans s2).seq h1;have a2:=nV (s1.trans s2) h2;unfold b1j;refine ⟨λd e=>?_,λhl=>⟨xs,ys,a1,a2,?_⟩⟩
 ·rw [qQ] at e
  obtain ⟨⟨p,q⟩,e1,rfl⟩:=qO.mp e;rw [List.getElem?_zip_eq_some] at e1;obtain ⟨v,ev,rv⟩:=r1.get e1.1;obtain ⟨u,eu,ru⟩:=r2.get e1.2;refine ⟨⟨xs,ys,v,u,a1,a2,ev,eu⟩,λx H2 ⟨T,x',y',hT,ex,eH,b1,b2⟩=>?_⟩;subst ex eH;have b3:=b1 xs a1;have b4:=b2 ys a2;rw [ev] at b3;rw [eu] at b4;cases b3;cases b4;have hG:G' T=none:=s2.free hT;exact ⟨upd G' T (.tup [v,u]),.put s2 hT,.tuple (.of aG) (.cons ((rv.mono s1).mono (bF hG)) (.cons ((ru.mono s1).mono (bF hG)) .nil))⟩
 ·rw [qE,List.length_zip] at hl
  have e1:=r1.length;have e2:=r2.length;omega
variable {a:Expr}
def b9p (hm:X.mg "zip" = none) (ha:DE X a fa) (hb:DE X b fb) (hv:wg "zip" = some (.type "zip"):=by decide +kernel) (hs:j4 [a,b] X.env=(false,eval a X.env)::j4 [b] X.env:=by rfl) (hs2:j4 [b] X.env=(false,eval b X.env)::j4 [] X.env:=by rfl)
  (hpl:(v0 pos (j4 [b] X.env)).any (·.1)=false:=by rfl) (hg:Gl X "zip":=by rfl):DI X (.Tuple pq k0 p0) (.Call (.Name "zip" p) [a,b] [] pos) (a3h fa fb):=a9r λρ r e=>by
 unfold a3h at e;split at e
 ·rename_i as bs e1 e3
  refine ⟨_,(qB e).symm,⟨?_⟩⟩;intro pz s σ H R I ⟨H0,Gz,G,S,q⟩;have pa:=gQ (ha.pd e1) (gQ (hb.pd e3) mO hs2) hs;refine k6 (iG I hg hm hv ?_ (by decide) (by decide));refine kr (thn (pa.run H0 Gz G pos pz s σ H (λvs H'=>∃ G',Grow G H G' H'/\RepAll X.K G' vs [.list as,.tuple bs]) I S λvs G' H' g r=>⟨G',g,r⟩) λus s1 ⟨vs,H1,I1,r1,G1,g1,w1⟩=>?_) hs hpl;cases w1 with
  | cons wa wn=>cases wn with
   | cons wb wn=>
    cases wn;cases wa with
    | list hq ra=>cases wb with
     | tuple hq2 rb=>
      obtain ⟨u,v,rfl,ru,rv⟩:=vals2 r1;cases ru;cases rv;obtain ⟨its,r1',p1,_⟩:=I1.list (g1.sub.seq hq);obtain ⟨its2,r2',p2,_⟩:=I1.tuple (nV g1.sub hq2);refine ZT.call_lt p1.isList p2 λh' z1 z2 z3 z4 z5 hk=>?_;refine wpAny_pyIter_zip z1 ?_;obtain ⟨o1,g1',_⟩:=p1.isList;obtain ⟨o2,g2',_⟩:=p2;refine ⟨s1.heap.objs.size+4,[s1.heap.objs.size+4,s1.heap.objs.size+2,s1.heap.objs.size+3,s1.heap.objs.size,s1.heap.objs.size+1],_,_,H1,rfl,I1.kept (h':=h') (t':=s1.toks) (λb o e=>hk b o e),b4C (zipApart_new (qM g1') (qM g2')),⟨z1,z2,⟨_,_,z3⟩,z4,z5⟩,λc hc=>?_,q _ G1 H1 g1 (b4A hq ra hq2 rb)⟩;have ge:s1.heap.objs.size<=c:=by
       simp only [qG,ql,or_false] at hc;rcases hc with h | h | h | h | h<;>rw [h]<;>first | exact wY _ _ | exact qN _
      exact I1.fpOk ge (I1.hok.fresh ge)
 ·cases e
def b1i {a b:T0l} (ha:fa ρ=some (.ok (.list a))) (hb:fb ρ=some (.ok (.tuple b))):a3h fa fb ρ=some (.ok (b1j a b)):=by
 unfold a3h;rw [ha,hb]
def a3k (x:j0):Option j0:=match x with
 | .list xs=>(match fK intD xs with
  | some ns=>if ns.length<64 then some (.list ((sortI (lX ns)).map .int)) else none
  | none=>none)
 | _=>none
def b7L (K:qC) (t:TA):TE:=λσ H Q=>t σ H λxs H1=>∃ a ns,xs=[.ref a]/\SqL K H1 a (ns.map V.int)/\ns.length<64/\∀ l,H1 l=none->Q (.ref l) (upd H1 l (.lst ((sortI (lX ns)).map V.int)))
section
variable {d:Expr} {fd:EF}
def b2n {t:TA} (hc:X.calm=true) (h1:Gl X "sorted") (m1:X.mg "sorted" = none) (h2:Gl X "set") (m2:X.mg "set" = none) (b2:wg "set" = some (.type "set")) (ha:PA X [e] t) (he:j4 [e] X.env=(false,eval e X.env)::j4 [] X.env)
  (he2:j4 [.Call (.Name "set" p2) [e] [] pos2] X.env=(false,eval (.Call (.Name "set" p2) [e] [] pos2) X.env)::j4 [] X.env) (hpl:∀ q,(v0 q (j4 [] X.env)).any (·.1)=false) (hn:∀ q,v0 q (j4 [] X.env)=[]):
  PE X (.Call (.Name "sorted" p) [.Call (.Name "set" p2) [e] [] pos2] [] pos) (b7L X.K t):=by
 intro pz s σ H Q I h;refine k6 (iG I h1 m1 boot_sorted ?_);refine callWith_builtin1 ?_ he2 (hpl _);rw [he2];show wpAny _ _ (spliced ((false,eval (.Call (.Name "set" p2) [e] [] pos2) X.env)::v0 pos (j4 [] X.env))) _ _ s;rw [hn];refine Calls.spliced_cons (k6 (iG I h2 m2 b2 ?_));refine callWith_type1 (thn (ha pos2 pz s σ H _ I h) λus s1 ⟨vs,H1,I1,r1,qq⟩=>?_) he (hpl _);obtain ⟨a,ns,e1,hq,h64,q⟩:=qq
 ·subst e1
  obtain ⟨u,rfl,rx⟩:=vals1 r1;cases rx;obtain ⟨its,rv,pl,hz⟩:=I1.list hq;have hi:=intsAre_of rv;have hd:=I1.ok.hd hc;have hl:its.length=ns.length:=hi.length;refine SX.set_of (knd:=QY X.prog X.w) (val:=λi=>ns.getD i 0) hd pl.isList (λi v e=>?_) (λi v A' E' s' Q' e q'=>?_) ?_ λh' tk g kp=>?_
  ·obtain ⟨t,rfl⟩:=a9f hi i v (by simpa using e)
   exact ⟨by simp [QY,Value.isInt],rfl⟩
  ·obtain ⟨t,rfl⟩:=a9f hi i v (by simpa using e)
   exact (QY X.prog X.w).pyHash (k:=ns.getD i 0) (by simp [QY,Value.isInt]) q'
  ·have hsz:its.toArray.size=ns.length:=by rw [qR,hl]
   rw [hsz];exact zM h64 (by decide)
  ·have hsz:its.toArray.size=ns.length:=by rw [qR,hl]
   rw [hsz,a0q] at g;refine Calls.spliced_nil (SX.sorted_setI hd g ?_ λh2 d2 tk2 D out ep k2 hs2 ho hout=>?_)
   ·rw [<-a0q];exact zM (SX.metK_len _ _) h64
   ·have kk:∀ b o,s1.heap.get? b=some o->h2.get? b=some o:=λb o z=>k2 b o (kp b o (qM z) z)
    obtain ⟨so,_,_,_,hso,_⟩:=g.ex;have lt:s1.heap.objs.size<=D:=qi (jF (qM hso)) hs2;have hf:H1 D=none:=I1.hok.fresh lt;refine ⟨.ref D,_,Inv.draws (I1.laid (t':=tk2) (a:=D) (o:=.lst ((sortI (lX ns)).map V.int)) kk lt ⟨?_,out.toList,ep,yK hout,?_⟩),rfl,q _ hf⟩
    ·rw [qE,(sortI_perm _).length_eq,<-a0q]
     exact qi (SX.metK_len _ _) (jF (nR (by omega)))
    ·rw [ho]
def b3Z (hc:X.calm=true) (m1:X.mg "sorted" = none) (m2:X.mg "set" = none) (ha:DE X e fa) (h1:Gl X "sorted":=by rfl) (h2:Gl X "set":=by rfl) (he:j4 [e] X.env=(false,eval e X.env)::j4 [] X.env:=by rfl)
  (he2:j4 [.Call (.Name "set" p2) [e] [] pos2] X.env=(false,eval (.Call (.Name "set" p2) [e] [] pos2) X.env)::j4 [] X.env:=by rfl):DE X (.Call (.Name "sorted" p) [.Call (.Name "set" p2) [e] [] pos2] [] pos) (op1 a3k fa):=
 ⟨λpz s σ H Q I ⟨ρ,r,H0,Gz,G,ef,R,q⟩=>b2n hc h1 m1 h2 m2 boot_set (iY ha.run pA he) he he2 (λ_=>rfl) (λ_=>rfl) pz s σ H Q I (bE R ef q.x λx v G1 H1 g1 R1 rv e1=>by
  obtain ⟨d,ed,rfl⟩:=bL e1;unfold a3k at ed;split at ed
  ·split at ed
   ·rename_i xs ns e2
    split at ed
    ·rename_i h64
     cases (qB ed);have:=fE (g:=.int) (λd a q=>tJ q) e2;subst this;cases rv with
     | list hq r=>
      have e3:=r.ints;subst e3;exact ⟨_,ns,rfl,g1.sub.seq hq,h64,λl hl=>q _ _ _ (g1.trans (.put g1.sub hl)) (.list (.of aG) (oZ _))⟩
    ·cases ed
   ·cases ed
  ·cases ed)⟩
end
end L2.L3
namespace HT
open PySem PySem.Spec PyProof.Rows
def getItem_tuple_whole {t sl:Addr} {vl:Value} {lo hi:Option Int} (ht:IsTup s.heap t items) (hs:s.heap.IsSliceOf sl vl vu .none) (pl:QP vl lo) (pu:QP vu hi)
  (hw:sIx items.size 0 lo=0/\sIx items.size items.size hi=items.size) (h:Q (.ref t) s):wpAny (model prog w) A (QX (.ref t) (.ref sl)) Q E s:=by
 obtain ⟨os,hos,hcs,hds⟩:=id hs;have hTs:s.TypeIs (.ref sl) "slice" := ⟨os,hos,hcs⟩;unfold QX
 try with_reducible refine v8 ?_
 first | refine q8 (j3 ?_) | skip
 refine q8 (wpAny_sequenceKey ht.typeIs (by decide) ?_)
 refine q8 (k5 (name:=qx "__getitem__") ht.typeIs jS
  (j9 jS ht.typeIs entry_tuple_getitem ?_ (args_tuple_getitem _ _)))
 show wpAny _ _ (vR (.ref t)>>=_) _ _ s;refine q8 (tupleItemsOf_ ht ?_);refine q8 (yv hTs ?_);rw [if_pos (by decide)];refine q8 (nU hs pl pu ?_);have hyes:(((sIx items.size 0 lo:Nat):Int)==0&&(1:Int)==1&&(sIx items.size items.size hi - sIx items.size 0 lo)==items.size)=true:=by
  rw [hw.1,hw.2];simp
 show wpAny _ _ (if (((sIx items.size 0 lo:Nat):Int)==0&&(1:Int)==1&&(sIx items.size items.size hi - sIx items.size 0 lo)==items.size)=true then _ else _) _ _ s;rw [if_pos hyes];unfold Builtin.Tuple.tupleIsExact;have hT:=ht.typeIs;refine q8 (q8 (yv hT (j3 ?_)));rw [if_pos (by decide)]
 first
  | exact q8 (wp (q8 (j3 (j3 ⟨_,rfl,j3 h⟩))))
  | exact q8 (wp (j3 ⟨_,rfl,j3 h⟩))
end HT
namespace L2
open PySem PySem.Spec PyProof.Rows
def b4N:SlR X (λx lo hi H Q=>∃ a xs,x=.ref a/\SqT X.K H a xs/\(HT.sIx xs.length 0 lo=0/\HT.sIx xs.length xs.length hi=xs.length)/\Q (.ref a) H):=by
 intro pz s σ H x v vl vu lo hi sl Q I rx hs pl pu h;obtain ⟨a,xs,rfl,hx,hw,q⟩:=h;cases rx;obtain ⟨its,r,ht,hz⟩:=I.tuple hx;have hlen:its.toArray.size=xs.length:=by rw [qR];exact r.length.symm
 refine ⟨"tuple", _,jS.lookup,ht.typeIs,?_⟩;exact HT.getItem_tuple_whole ht hs pl pu (by rw [hlen];exact hw) ⟨.ref a,H,I,rfl,q⟩
end L2
namespace L2.L3
open PySem PySem.Spec PyProof.Rows
variable {a:Expr}
def slX (x:j0) (lo hi:Option Int):Option j0:=match x with
 | .tuple ds=>if HT.sIx ds.length 0 lo=0/\HT.sIx ds.length ds.length hi=ds.length then some x else some (.tuple (cutD ds lo hi))
 | _=>none
def b1L (fa:EF) (lo hi:OF):EF:=λρ=>bnd (fa ρ) λx=>bnd (lo ρ) λl=>bnd (hi ρ) λh=>lft (slX x l h)
def b4c (ha:DE X a fa) (hl:DO X lo fl) (hh:DO X hi fh):DE X (.Subscript a (.Slice lo hi none p2) pos) (b1L fa fl fh):=⟨λpz s σ H Q I ⟨ρ,r,H0,Gz,G,e,R,q⟩=>
 a5P (b4N.or b1K) ha.run hl.run hh.run pz s σ H Q I (bE R e q.x λx v G1 H1 g1 R1 rv e1=>bO R1 e1 (q.more g1).x λl G2 H2 g2 R2 e2=>bO R2 e2 ((q.more g1).more g2).x λh G3 H3 g3 R3 e3=>by
  obtain ⟨d,ed,rfl⟩:=bL e3;have g23:=g2.trans g3;unfold slX at ed;split at ed
  ·split at ed
   ·rename_i hw
    cases (qB ed);cases rv with
    | tuple hq r=>exact .inl ⟨_,_,rfl,nV (g23.gg.trans g23.sub) hq,by rw [r.length];exact hw,q _ _ _ (g1.trans g23) (.tuple (nV g23.gg hq) (r.mono g23.gg))⟩
   ·rename_i hw
    cases (qB ed);cases rv with
    | tuple hq r=>
     refine .inr ⟨_,_,rfl,nV (g23.gg.trans g23.sub) hq,by rw [r.length];exact hw,λl hl=>q _ _ _ ((g1.trans g23).trans (.put g23.sub hl)) ?_⟩;exact .tuple (.of aG) (a2F (r.mono (g23.gg.trans (bF (g23.sub.free hl)))) _ _)
  ·cases ed)⟩
open PySem.AutoSeq1 (wpAny_loadPart')
end L2.L3
namespace L2.L3
def xK {α:Type} {l:List α} (h:l.length=1):∃ a,l=[a]:=by
 cases l with
 | nil=>cases h
 | cons a l=>cases l with
  | nil=>exact ⟨a,rfl⟩
  | cons b l=>simp at h
def b5V {α:Type} {l:List α} (h:l.length=n+1):∃ a r,l=a::r/\r.length=n:=by
 cases l with
 | nil=>cases h
 | cons a r=>exact ⟨a,r,rfl,by simpa using h⟩
def a1e {α:Type} {l:List α} (h:l.length=2):∃ a b,l=[a,b]:=by
 obtain ⟨a,r,rfl,k⟩:=b5V h;obtain ⟨b,rfl⟩:=xK k;exact ⟨a,b,rfl⟩
def a2f {α:Type} {l:List α} (h:l.length=3):∃ a b c,l=[a,b,c]:=by
 obtain ⟨a,r,rfl,k⟩:=b5V h;obtain ⟨b,c,rfl⟩:=a1e k;exact ⟨a,b,c,rfl⟩
def c2k {α:Type} {l:List α} (h:l.length=4):∃ a b c d,l=[a,b,c,d]:=by
 obtain ⟨a,r,rfl,k⟩:=b5V h;obtain ⟨b,c,d,rfl⟩:=a2f k;exact ⟨a,b,c,d,rfl⟩
def c2j {α:Type} {l:List α} (h:l.length=5):∃ a b c d e,l=[a,b,c,d,e]:=by
 obtain ⟨a,r,rfl,k⟩:=b5V h;obtain ⟨b,c,d,e,rfl⟩:=c2k k;exact ⟨a,b,c,d,e,rfl⟩
end L2.L3
namespace L2.L3
open PySem PySem.Spec PyProof.Rows
def b3Q (i j:Nat) {x y:Str} {a:Expr} {fa:AF} {py pt:Pos} {kt k2 pt2:_} (hc:X.calm=true) (hN:X.N.Nodup) (hij:i≠j) (ha:DA X [a,b] fa)
  (hi:X.N[i]?=some x:=by rfl) (hj:X.N[j]?=some y:=by rfl) (hx:X.env.scope.names.lookup x=some .local:=by rfl) (hy:X.env.scope.names.lookup y=some .local:=by rfl)
  (hw:swappedStores [.Tuple [.Name x px,.Name y py] kt pt] (.Tuple [a,b] k2 pt2) X.env=pure (some [x,y]):=by rfl)
  (hs:swapsWithSole [.Tuple [.Name x px,.Name y py] kt pt] (.Tuple [a,b] k2 pt2) pos.line X.env=pure false:=by rfl):
  DS X (.Assign [.Tuple [.Name x px,.Name y py] kt pt] (.Tuple [a,b] k2 pt2) pos) (b1q (.tp [i,j]) (dP fa)):=⟨λpz s σ H D I ⟨ρ,o,H0,Gz,G,e,R,q⟩=>by
 refine b7Z hc hN hi hj hij hx hy ha.run hw hs pz s σ H D I ?_;have e':bns (fa ρ) ρ (λxs=>bns (lft (a0I xs)) ρ λd=>(tgD (.tp [i,j]) ρ d).map So.nx)=some o:=by
  rw [<-e];unfold b1q dP;cases h:fa ρ with
  | none=>rfl
  | some r=>cases r<;>rfl
 refine sA R e' q λds vs G1 H1 g1 R1 rv e1 q1=>?_;unfold a0I at e1;split at e1
 ·have e1:(if [i,j].length=ds.length then some (oP ρ [i,j] ds) else none).map So.nx=some o:=e1
  split at e1
  ·rename_i hl
   cases e1;cases rv with
   | nil=>cases hl
   | cons r1 rv=>
    cases rv with
    | nil=>cases hl
    | cons r2 rv=>
     cases rv with
     | nil=>exact ⟨_,_,rfl,q1 G1 H1 _ (.refl _) ((R1.set r1).set r2)⟩
     | cons _ _=>simp at hl
  ·cases e1
 ·cases e1⟩
abbrev nB:EF:=eT (.nm 0) [none,some 2] (fU (var 0)) ttT (op2 mH (var 1) (op2 ixD (var 0) (cst (.int 0))))
noncomputable abbrev tT:EF:=eT (.tp [0,1]) [none,none,some 4,some 5] (b3F (var 1)) (a6U (iC leD (var 3) (var 1)) (orT (isT false (.none) (var 2)) (iC ltD (var 1) (var 2)))) (var 0)
noncomputable abbrev nK:SF:=aZ (fT 6 tT) (aZ (a0w 3 (dP (aC (var 5) (aC (var 6) aI)))) (fT 4 (var 5)))
noncomputable def pH:SF:=(aZ (a5X 3 aI) (aZ (fT 4 (cst .none)) (aZ (tP (.nm 5) (b1U (op1 a3k nB)) nK) (a6v 3 (retS (var 3))))))
noncomputable def pT:List j0->Mm j0:=bS 7 3 pH
noncomputable abbrev a2o:EF:=eT (.nm 0) [none,some 2,some 4] (fU (var 1)) (iC geD (op2 mH (var 1) (op2 ixD (var 0) (cst (.int 0)))) (var 2)) (var 0)
noncomputable abbrev a1A:TF:=iC gtD (aQ cR (aC a2o aI)) (var 3)
noncomputable abbrev dJ:SF:=aZ (b1c 3 .Add (dG iQ (aC (var 5) aI))) (ifS a1A (retS (cst (.bool false))) iB)
noncomputable def a0k:SF:=(aZ (fT 3 (cst (.int 0))) (aZ (tP (.tp [4,5]) (fU (var 0)) dJ) (retS (cst (.bool true)))))
noncomputable def iL:List j0->Mm j0:=bS 6 3 a0k
noncomputable def gS:SF:=(retS (mkF (aC (op1 (cW 0) (var 0)) (aC (op1 (cW 1) (var 0)) (aC (slE (op1 (cW 2) (var 0)) (rY (cst (.int 1))) xH) (aC (op2 fF (op1 (cW 3) (var 0)) (b1L (op1 (cW 2) (var 0)) xH (rY (cst (.int 1))))) aI))))))
noncomputable def bW:List j0->Mm j0:=bS 1 1 gS
noncomputable def lV:SF:=(retS (mkF (aC (op1 (cW 0) (var 0)) (aC (op2 fF (op1 (cW 1) (var 0)) (b1L (op1 (cW 2) (var 0)) xH (rY (cst (.int 1))))) (aC (slE (op1 (cW 2) (var 0)) (rY (cst (.int 1))) xH) (aC (op1 (cW 3) (var 0)) aI))))))
noncomputable def eA:List j0->Mm j0:=bS 1 1 lV
noncomputable abbrev gI:TF:=a6U (iC ltD (op2 mH (var 1) (op2 ixD (op2 ixD (op1 (cW 2) (var 2)) (cst (.int 0))) (cst (.int 0)))) (var 3)) (tO (aQ iL (aC (var 5) (aC (op1 (cW 3) (iN bW (var 2))) (aC (var 1) aI)))))
noncomputable abbrev gH:TF:=iC leD (aQ cR (aC (op1 (cW 1) (iN eA (var 2))) aI)) (dG iQ (aC (var 4) aI))
noncomputable def iH:SF:=(aZ (fT 3 (op2 ixD (op2 ixD (var 0) (dG iQ (aC (op1 (cW 0) (var 2)) aI))) (cst (.int 0)))) (aZ (fT 4 (op2 ixD (op2 ixD (var 0) (dG iQ (aC (op1 (cW 0) (var 2)) aI))) (cst (.int 1)))) (aZ (fT 5 (slE (var 0) (rY (op2 fF (dG iQ (aC (op1 (cW 0) (var 2)) aI)) (cst (.int 1)))) xH)) (aZ (a5X 6 aI) (aZ (ifS gI (a0w 6 (iN bW (var 2))) iB) (aZ (ifS gH (a0w 6 (iN eA (var 2))) iB) (a6v 6 (retS (var 6)))))))))
noncomputable def fG:List j0->Mm j0:=bS 7 3 iH
noncomputable def lW:SF:=(retS (mkF (aC (op2 fF (op1 (cW 0) (var 0)) (dP (aC (op1 (cW 1) (var 0)) aI))) (aC (dP aI) (aC (op1 (cW 3) (var 0)) (aC (dP aI) aI))))))
noncomputable def mE:List j0->Mm j0:=bS 1 1 lW
abbrev oO:TF:=tO (op1 (cW 2) (var 2))
noncomputable abbrev a2m:EF:=eT (.nm 0) [none,some 2,some 3] (fU (op1 (cW 3) (var 2))) ttT (a8h leD (aQ cR (aC (op2 fF (op1 (cW 1) (var 1)) (dP (aC (var 0) aI))) aI)) (dG iQ (aC (var 2) aI)))
noncomputable abbrev a1y:TF:=tO (dG anyB (aC a2m aI))
noncomputable def a0h:SF:=(aZ (ifS oO (retS (aQ fG (aC (var 0) (aC (var 1) (aC (var 2) aI))))) iB) (aZ (fT 3 (op2 ixD (op2 ixD (var 0) (dG iQ (aC (op1 (cW 0) (var 2)) aI))) (cst (.int 1)))) (aZ (ifS a1y (retS (yZ aI)) iB) (retS (yZ (aC (iN mE (var 2)) aI))))))
noncomputable def a0A:List j0->Mm j0:=bS 4 3 a0h
abbrev mR:EF:=dP (aC (op1 b5K (op2 mH (var 1) (op2 ixD (var 0) (cst (.int 0))))) (aC (var 0) aI))
noncomputable def uR:SF:=(retS (dG a7i (aC (a1J (var 0) [some 1] mR) aI)))
noncomputable def pZ:List j0->Mm j0:=bS 2 2 uR
noncomputable def a2v:SF:=(retS (dP (aC (dG iQ (aC (op1 (cW 0) (var 0)) aI)) (aC (op1 (cW 1) (var 0)) (aC (op1 (cW 2) (var 0)) (aC (op1 (cW 3) (var 0)) aI))))))
noncomputable def oJ:List j0->Mm j0:=bS 1 1 a2v
abbrev mK:TF:=iC eqD (dG iQ (aC (op1 (cW 0) (var 5)) aI)) (dG iQ (aC (var 0) aI))
noncomputable abbrev mI (w:World):TF:=a5W w 3 (iN oJ (var 6))
noncomputable abbrev hX (w:World):SF:=ifS (mI w) (aZ (a3u w 3 (iN oJ (var 6)) (cst (.bool true))) (a0w 4 (var 6))) iB
noncomputable abbrev cE (w:World):SF:=aZ (a8E 4 5) (aZ (ifS mK (retS (op1 (cW 0) (var 5))) iB) (tP (.nm 6) (fU (aQ a0A (aC (var 0) (aC (var 2) (aC (var 5) aI))))) (hX w)))
abbrev dC:TF:=thT (tO (var 4))
noncomputable def iI (w:World):SF:=(aZ (b7k w 3) (aZ (a5X 4 (aC (mkF (aC (dP aI) (aC (dP aI) (aC (aQ pZ (aC (var 1) (aC (var 2) aI))) (aC (dP aI) aI))))) aI)) (aZ (fR dC (cE w) 20000) (retS (cst .none)))))
noncomputable def eB (w:World):List j0->Mm j0:=bS 7 3 (iI w)
abbrev tQ:TF:=isT false (.none) (var 4)
abbrev nM:SF:=a3v 5 (var 8) (op2 ixD (op2 ixD (var 6) (cst (.int 1))) (var 9))
noncomputable abbrev nJ:SF:=tP (.tp [8,9]) (b3c cZ (aC (var 7) aI)) nM
noncomputable def gW (w:World):SF:=(aZ (fT 3 (aQ pT (aC (var 0) (aC (var 1) (aC (var 2) aI))))) (aZ (fT 4 (ifE (tO (aQ iL (aC (var 3) (aC (var 0) (aC (var 2) aI))))) (aQ (eB w) (aC (var 3) (aC (var 0) (aC (var 2) aI)))) (cst .none))) (aZ (ifS tQ (retS (cst .none)) iB) (aZ (b5J 5) (aZ (tP (.tp [6,7]) (a3h (var 3) (var 4)) nJ) (a6v 5 (retS (var 5))))))))
noncomputable def dI (w:World):List j0->Mm j0:=bS 10 3 (gW w)
abbrev rB:TF:=isT false (.none) (var 5)
noncomputable abbrev bD (w:World):SF:=aZ (fT 5 (aQ (dI w) (aC (aQ lI (aC (var 0) (aC (var 4) aI))) (aC (var 1) (aC (var 2) aI))))) (aZ (ifS rB (retS (cst .none)) iB) (a5A 3 (var 5)))
noncomputable def eQ (w:World):SF:=(aZ (b5J 3) (aZ (tP (.nm 4) (fU (aQ oK (aC (var 0) aI))) (bD w)) (a6v 3 (retS (var 3)))))
noncomputable def aY (w:World):List j0->Mm j0:=bS 6 3 (eQ w)
def a6A (s:List Mt) (m:Int) (hS:a1a S=some (s.map dM)) (h:s.length<=100000):pV [S,.int m]=some (.ok (.list ((eJ s m).map .str))):=by
 refine aV rfl ?_;show lU [.val S,.val (.int m)]=_;unfold lU;have:=fC (t:=.tp [0,1,2]) (cap:=[none,none,none,some 1]) (fi:=fU (var 0)) (ft:=b4m leD ltD (var 1) (var 3) (var 2)) (fe:=var 0) (ρ:=[.val S,.val (.int m)]) dM (λx=>[.val (.str x.1),.val (.int x.2.1),.val (.int x.2.2),.val (.int m)]) (cH m) (λx=>.str x.1) s (fM rfl hS) h (λx _=>rfl) (λx _=>by simp [xM,cH]) (λx _ _=>rfl);rw [cF,bP this];simp [eJ]
def a8b (s:List Mt) (m:Int) (hS:a1a S=some (s.map dM)) (h:s.length<=100000):tL [S,.int m]=some (.ok (.int (aX s m))):=by
 refine aV rfl ?_;show oC [.val S,.val (.int m)]=_;unfold oC;rw [cF,hV (ds:=[.list ((eJ s m).map .str)]) (by rw [dH,aP (ds:=[S,.int m]) rfl (a6A s m hS h)];rfl) (b7n _)];simp [aX,bns]
def b6x (s:List Mt) (hS:a1a S=some (s.map dM)) (hz:s.length<=1000):cR [S]=some (.ok (.int (aS s))):=by
 have k1:iR [.val S]=some (.ok (.list ((s.map λx=>aX s x.2.1).map .int))):=by
  rw [qT];exact dX dM (λx=>[.val (.str x.1),.val (.int x.2.1),.val (.int x.2.2),.val S]) (λx=>.int (aX s x.2.1)) s (fM rfl hS) (by omega) (λx _=>by simp [bY]) (λx _=>aP (ds:=[S,.int x.2.1]) rfl (a8b s x.2.1 hS (by omega)))
 refine aV rfl ?_;show eP [.val S]=_;unfold eP
 rw [cF,b7x (x:=.list ((s.map λx=>aX s x.2.1).map .int)) (y:=.int 0) k1 rfl (d:=.int (aS s)) (by
  unfold a6a aS;dsimp only;rw [oB];cases s with
  | nil=>rfl
  | cons a r=>rfl)]
 rfl
abbrev Sf:=Int×List Int
abbrev dSf (f:Sf):j0:=.tuple [.int f.1,.list (f.2.map .int)]
abbrev dSh (sh:List Sf):j0:=.list (sh.map dSf)
def uV (D:j0) (h:Mt->Int) (s:List Mt):Prop:=∀ m∈s,mH D (.str m.1)=some (.int (h m))
def cN (h:Mt->Int) (ms:List Mt):Int->List Sf->Bool
 | _,[]=>true
 | many,f::sh=>if many+(f.2.length:Nat)<aS (ms.filter λm=>decide (f.1<=h m)) then false else cN h ms (many+(f.2.length:Nat)) sh
section
variable {h:Mt->Int} {ms:List Mt}
def c0T (hd:uV D h ms) (hz:ms.length<=1000) {A:Ent} {n:Int} {f:Sf} {x5:Ent}:a2o [A,.val (dS ms),.val D,.val (.int n),.val (.int f.1),x5]=some (.ok (.list ((ms.filter λm=>decide (f.1<=h m)).map dM))):=
 fC dM (λm=>[.val (dM m),.val D,.val (.int f.1)]) (λm=>decide (f.1<=h m)) dM ms rfl (by omega) (λ_ _=>rfl) (λm hm=>gZ (cL rfl rfl (hd m hm)) rfl rfl) (λ_ _ _=>rfl)
def c1k (hd:uV D h ms) (hz:ms.length<=1000) (A:Ent) (n:Int) (f:Sf):dJ [A,.val (dS ms),.val D,.val (.int n),.val (.int f.1),.val (.list (f.2.map .int))] =
  if n+(f.2.length:Nat)<aS (ms.filter λm=>decide (f.1<=h m)) then some (.rt (.bool false)) else some (.nx [A,.val (dS ms),.val D,.val (.int (n+(f.2.length:Nat))),.val (.int f.1),.val (.list (f.2.map .int))]):=by
 have s1:b1c 3 .Add (dG iQ (aC (var 5) aI)) [A,.val (dS ms),.val D,.val (.int n),.val (.int f.1),.val (.list (f.2.map .int))]=some (.nx [A,.val (dS ms),.val D,.val (.int (n+(f.2.length:Nat))),.val (.int f.1),.val (.list (f.2.map .int))]):=by
  show (match c1l .Add (.int n) (.int ((f.2.map jX).length:Nat)) with | some d=>some (So.nx ([A,Ent.val (dS ms),.val D,.val (.int n),.val (.int f.1),.val (.list (f.2.map .int))].set 3 (.val d))) | none=>none)=_;rw [qE];rfl
 have t1:a1A [A,.val (dS ms),.val D,.val (.int (n+(f.2.length:Nat))),.val (.int f.1),.val (.list (f.2.map .int))]=some (.ok (decide (n+(f.2.length:Nat)<aS (ms.filter λm=>decide (f.1<=h m))))):=
  gZ (aP (aL (c0T hd hz) rfl) (b6x _ rfl (qi (jr _ _) hz))) rfl rfl
 show aZ _ _ _=_;rw [aM s1,mS,bP t1];by_cases c:n+(f.2.length:Nat)<aS (ms.filter λm=>decide (f.1<=h m))
 ·rw [decide_eq_true c,if_pos rfl,if_pos c];rfl
 ·rw [decide_eq_false c,if_neg (by decide),if_neg c];rfl
theorem a6d (hd:uV D h ms) (hz:ms.length<=1000) (A:Ent):∀ (sh:List Sf) (n:Int) (x4 x5:Ent),(cN h ms n sh=true->∃ ρ',bX (.tp [4,5]) dJ (sh.map dSf) [A,.val (dS ms),.val D,.val (.int n),x4,x5]=some (.nx ρ')) /\
  (cN h ms n sh=false->bX (.tp [4,5]) dJ (sh.map dSf) [A,.val (dS ms),.val D,.val (.int n),x4,x5]=some (.rt (.bool false)))
 | [],n,x4,x5=>⟨λ_=>⟨_,rfl⟩,λz=>by cases z⟩
 | f::sh,n,x4,x5=>by
  have e:=c1k hd hz A n f
  have e1:bX (.tp [4,5]) dJ ((f::sh).map dSf) [A,.val (dS ms),.val D,.val (.int n),x4,x5]=(match dJ [A,.val (dS ms),.val D,.val (.int n),.val (.int f.1),.val (.list (f.2.map .int))] with
   | some (.nx ρ2)=>bX (.tp [4,5]) dJ (sh.map dSf) ρ2
   | some (.ct ρ2)=>bX (.tp [4,5]) dJ (sh.map dSf) ρ2
   | some (.bk ρ2)=>some (.nx ρ2)
   | some (.rt d)=>some (.rt d)
   | some (.xc c ρ2)=>some (.xc c ρ2)
   | none=>none):=rfl
  rw [e1,e];unfold cN;by_cases c:n+(f.2.length:Nat)<aS (ms.filter λm=>decide (f.1<=h m))
  ·rw [if_pos c,if_pos c]
   exact ⟨(λz=>nomatch z),λ_=>rfl⟩
  ·rw [if_neg c,if_neg c]
   exact a6d hd hz A sh _ _ _
def a4c (hd:uV D h ms) (hz:ms.length<=1000) (sh:List Sf):iL [dSh sh,dS ms,D]=some (.ok (.bool (cN h ms 0 sh))):=by
 refine aV rfl ?_;show a0k [.val (dSh sh),.val (dS ms),.val D,.no,.no,.no]=_;unfold a0k;rw [aM (ρ':=[.val (dSh sh),.val (dS ms),.val D,.val (.int 0),.no,.no]) rfl];obtain ⟨h1,h2⟩:=a6d hd hz (.val (dSh sh)) sh 0 .no .no;have e1:tP (.tp [4,5]) (fU (var 0)) dJ [.val (dSh sh),.val (dS ms),.val D,.val (.int 0),.no,.no]=bX (.tp [4,5]) dJ (sh.map dSf) [.val (dSh sh),.val (dS ms),.val D,.val (.int 0),.no,.no]:=rfl;cases c:cN h ms 0 sh with
 | true=>
  obtain ⟨ρ',e⟩:=h1 c;rw [aM (e1.trans e)];rfl
 | false=>rw [gK (e1.trans (h2 c))]
end
structure Fl where
 fi:List (List Mt)
 tk:List Mt
 wt:List Mt
 lf:List Mt
abbrev dFl (x:Fl):j0:=fD [.tuple (x.fi.map dS),dS x.tk,dS x.wt,dS x.lf]
def Fl.wth (x:Fl):Fl:=⟨x.fi,x.tk++x.wt.take 1,x.wt.drop 1,x.lf⟩
def Fl.wout (x:Fl):Fl:=⟨x.fi,x.tk,x.wt.drop 1,x.lf++x.wt.take 1⟩
def Fl.on (x:Fl):Fl:=⟨x.fi++[x.tk],[],x.lf,[]⟩
def a4P {fA:AF} (h:fA ρ=some (.ok ds)) (hl:ds.length=4):mkF fA ρ=some (.ok (fD ds)):=by
 unfold mkF;rw [h];show (if ds.length=4 then _ else _)=_;rw [if_pos hl]
def a1T {g:j0->Option j0} {x:j0} (ha:fa ρ=some (.ok x)) (h:g x=some d):op1 g fa ρ=some (.ok d):=by
 rw [c0H,ha];show lft (g x)=_;rw [h];rfl
def nX {F:List j0->Mm j0} (ha:fa ρ=some (.ok (fD ds))) (h:F [fD ds]=some (.ok d)):iN F fa ρ=some (.ok d):=by
 unfold iN;rw [ha];dsimp only [bnd];rw [h]
variable {r:List Mt}
def a8A {m:Mt} (ha:fa ρ=some (.ok (dS (m::r)))):slE fa (rY (cst (.int 1))) xH ρ=some (.ok (dS r)):=by
 have e:slD (dS (m::r)) (some 1) none=some (dS r):=by
  show (if HT.sIx ((m::r).map dM).length 0 (some 1)=0/\HT.sIx ((m::r).map dM).length ((m::r).map dM).length none=((m::r).map dM).length then none else some (vW (cutD ((m::r).map dM) (some 1) none)))=_;rw [if_neg,a4g _ (by decide)];· rfl
  intro z;have z1:(if (1:Int)<0 then ((1:Int)+(((m::r).map dM).length:Int)).toNat else min (1:Int).toNat ((m::r).map dM).length)=0:=z.1;rw [if_neg (by decide)] at z1;simp at z1
 unfold slE;rw [ha];show lft (slD (dS (m::r)) (some 1) none)=_;rw [e];rfl
def a8B {m:Mt} (ha:fa ρ=some (.ok (dS (m::r)))):b1L fa xH (rY (cst (.int 1))) ρ=some (.ok (dS [m])):=by
 have e:slX (dS (m::r)) none (some 1)=some (dS [m]):=by
  show (if HT.sIx ((m::r).map dM).length 0 none=0/\HT.sIx ((m::r).map dM).length ((m::r).map dM).length (some 1)=((m::r).map dM).length then some (dS (m::r)) else some (vW (cutD _ none (some 1))))=_;split
  ·rename_i z
   have z1:(if (1:Int)<0 then ((1:Int)+(((m::r).map dM).length:Int)).toNat else min (1:Int).toNat ((m::r).map dM).length)=((m::r).map dM).length:=z.2;rw [if_neg (by decide)] at z1;cases r with
   | nil=>rfl
   | cons a r=>simp at z1
  ·rw [b0K _ (by decide)];rfl
 unfold b1L;rw [ha];show lft (slX (dS (m::r)) none (some 1))=_;rw [e];rfl
def a8t {a b:List Mt} (ha:fa ρ=some (.ok (dS a))) (hb:fb ρ=some (.ok (dS b))) (hz:a.length+b.length<=100000):op2 fF fa fb ρ=some (.ok (dS (a++b))):=
 cL ha hb (by rw [b4x,qE,qE,if_pos hz];show _=some (vW ((a++b).map dM));rw [qc])
section
variable {x:Fl}
def b3H {m:Mt} (hw:x.wt=m::r) (hz:x.lf.length<=1000):bW [dFl x]=some (.ok (dFl x.wout)):=by
 refine aV rfl ?_;show gS [.val (dFl x)]=_;unfold gS;have w2:op1 (cW 2) (var 0) [.val (dFl x)]=some (.ok (dS (m::r))):=by rw [<-hw];rfl
 rw [cF,a4P (ds:=[.tuple (x.fi.map dS),dS x.tk,dS r,dS (x.lf++[m])]) (aL rfl (aL rfl (aL (a8A w2) (aL (a8t rfl (a8B w2) (by simp;omega)) rfl)))) rfl];unfold Fl.wout dFl;rw [hw];rfl
def b7u {m:Mt} (hw:x.wt=m::r) (hz:x.tk.length<=1000):eA [dFl x]=some (.ok (dFl x.wth)):=by
 refine aV rfl ?_;show lV [.val (dFl x)]=_;unfold lV;have w2:op1 (cW 2) (var 0) [.val (dFl x)]=some (.ok (dS (m::r))):=by rw [<-hw];rfl
 rw [cF,a4P (ds:=[.tuple (x.fi.map dS),dS (x.tk++[m]),dS r,dS x.lf]) (aL rfl (aL (a8t rfl (a8B w2) (by simp;omega)) (aL (a8A w2) (aL rfl rfl)))) rfl];unfold Fl.wth dFl;rw [hw];rfl
def c2B (hz:x.fi.length<=1000):mE [dFl x]=some (.ok (dFl x.on)):=by
 refine aV rfl ?_;show lW [.val (dFl x)]=_;unfold lW;rw [cF,a4P (ds:=[.tuple ((x.fi++[x.tk]).map dS),dS [],dS x.lf,dS []]) (aL (cL rfl rfl (by rw [b4x,qE,if_pos (by simp;omega)];show _=some (vW ((x.fi++[x.tk]).map dS));rw [qc];rfl)) (aL rfl (aL rfl (aL rfl rfl)))) rfl];rfl
abbrev Mrk:=Nat×List Mt×List Mt×List Mt
abbrev dMk (k:Mrk):j0:=.tuple [.int (k.1:Nat),dS k.2.1,dS k.2.2.1,dS k.2.2.2]
def Fl.mrk (x:Fl):Mrk:=(x.fi.length,x.tk,x.wt,x.lf)
def b9j:oJ [dFl x]=some (.ok (dMk x.mrk)):=by
 refine aV rfl ?_;show a2v [.val (dFl x)]=_;unfold a2v;have l0:dG iQ (aC (op1 (cW 0) (var 0)) aI) [.val (dFl x)]=some (.ok (.int (x.fi.length:Nat))):=by
  rw [hV (ds:=[.tuple (x.fi.map dS)]) rfl (b2R _),qE]
 rw [cF,rN,aL l0 (aL (x:=dS x.tk) rfl (aL (x:=dS x.wt) rfl (aL (x:=dS x.lf) rfl rfl)))];rfl
end
def mG (sh:List Sf) (n:Nat):Sf:=sh.getD n (0,[])
variable {sh:List Sf}
def b7f (h:n<sh.length):ixD (dSh sh) (.int (n:Nat))=some (dSf (mG sh n)):=by
 show atI (sh.map dSf) (n:Nat)=_;rw [a5s dSf (by omega) (by omega) (0,[])];rfl
def fZ (h:Mt->Int) (sh:List Sf) (x:Fl) (m:Mt):List Fl:=
 (if h m<(mG sh x.fi.length).1/\cN h (x.lf++[m]) 0 (sh.drop (x.fi.length+1))=true then [x.wout] else [])++(if aS (x.tk++[m])<=((mG sh x.fi.length).2.length:Nat) then [x.wth] else [])
def dA (h:Mt->Int) (sh:List Sf) (x:Fl):List Fl:=match x.wt with
 | m::_=>fZ h sh x m
 | []=>if x.lf.any (λm=>decide (aS (x.tk++[m])<=((mG sh x.fi.length).2.length:Nat))) then [] else [x.on]
structure FlOk (D:j0) (h:Mt->Int) (sh:List Sf) (x:Fl):Prop where
 le:x.fi.length<=sh.length
 len:x.tk.length+x.wt.length+x.lf.length<=100
 nm:∀ m∈x.tk++x.wt++x.lf,jI m.1=true
 hw:uV D h x.wt
 hl:uV D h x.lf
section
variable {h:Mt->Int} {x:Fl}
theorem FlOk.tk (ok:FlOk D h sh x):x.tk.length<=100:=by have:=ok.len;omega
theorem FlOk.lf (ok:FlOk D h sh x):x.lf.length<=100:=by have:=ok.len;omega
abbrev wA (D:j0) (sh:List Sf) (x:Fl) (f:Sf) (e:T0l):List Ent:=[.val (dSh sh),.val D,.val (dFl x),.val (.int f.1),.val (.list (f.2.map .int)),.val (dSh (sh.drop (x.fi.length+1))),.lst e]
def a0o (ok:FlOk D h sh x) (hn:x.fi.length<sh.length) (hs:sh.length<=1000) {m:Mt} (hw:x.wt=m::r):fG [dSh sh,D,dFl x]=some (.ok (.list ((fZ h sh x m).map dFl))):=by
 refine aV rfl ?_;show iH [.val (dSh sh),.val D,.val (dFl x),.no,.no,.no,.no]=_;have z1:=ok.tk;have z2:=ok.lf;have ln:∀ a b c d,dG iQ (aC (op1 (cW 0) (var 2)) aI) [.val (dSh sh),.val D,.val (dFl x),a,b,c,d]=some (.ok (.int (x.fi.length:Nat))):=λa b c d=>by
  rw [hV (ds:=[.tuple (x.fi.map dS)]) rfl (b2R _),qE]
 have i0:∀ a b c d,op2 ixD (var 0) (dG iQ (aC (op1 (cW 0) (var 2)) aI)) [.val (dSh sh),.val D,.val (dFl x),a,b,c,d]=some (.ok (dSf (mG sh x.fi.length))):=λa b c d=>cL rfl (ln a b c d) (b7f hn);have hh:uV D h (x.lf++[m]):=λy hy=>by
  rcases jD.mp hy with hy | hy
  ·exact ok.hl y hy
  ·exact ok.hw y (by rw [hw,qL.mp hy];simp)
 have gm:mH D (.str m.1)=some (.int (h m)):=ok.hw m (by rw [hw];simp);unfold iH;generalize hf:mG sh x.fi.length=f at i0
 rw [aM (ρ':=[.val (dSh sh),.val D,.val (dFl x),.val (.int f.1),.no,.no,.no]) (by
  rw [eI,bP (cL (i0 _ _ _ _) rfl rfl)];rfl)]
 rw [aM (ρ':=[.val (dSh sh),.val D,.val (dFl x),.val (.int f.1),.val (.list (f.2.map .int)),.no,.no]) (by
  rw [eI,bP (cL (i0 _ _ _ _) rfl rfl)];rfl)]
 have sl:slE (var 0) (rY (op2 fF (dG iQ (aC (op1 (cW 0) (var 2)) aI)) (cst (.int 1)))) xH [.val (dSh sh),.val D,.val (dFl x),.val (.int f.1),.val (.list (f.2.map .int)),.no,.no]=some (.ok (dSh (sh.drop (x.fi.length+1)))):=by
  have o:rY (op2 fF (dG iQ (aC (op1 (cW 0) (var 2)) aI)) (cst (.int 1))) [.val (dSh sh),.val D,.val (dFl x),.val (.int f.1),.val (.list (f.2.map .int)),.no,.no]=some (.ok (some ((x.fi.length:Int)+1))):=by
   unfold rY;rw [cL (y:=.int 1) (ln _ _ _ _) rfl uU];rfl
  unfold slE;rw [o];show lft (some (vk (cutD (sh.map dSf) (some ((x.fi.length:Int)+1)) none)))=_;rw [a4g _ (by omega),show ((x.fi.length:Int)+1).toNat=x.fi.length+1 by omega,<-List.map_drop];rfl
 rw [aM (ρ':=[.val (dSh sh),.val D,.val (dFl x),.val (.int f.1),.val (.list (f.2.map .int)),.val (dSh (sh.drop (x.fi.length+1))),.no]) (by
  rw [eI,bP sl];rfl)]
 rw [aM (ρ':=wA D sh x f []) rfl];have t1:∀ e,gI (wA D sh x f e)=some (.ok (decide (h m<f.1/\cN h (x.lf++[m]) 0 (sh.drop (x.fi.length+1))=true))):=λe=>by
  have c1:iC ltD (op2 mH (var 1) (op2 ixD (op2 ixD (op1 (cW 2) (var 2)) (cst (.int 0))) (cst (.int 0)))) (var 3) (wA D sh x f e)=some (.ok (decide (h m<f.1))):=
   gZ (cL (y:=.str m.1) rfl (cL (x:=dM m) (y:=.int 0) (cL (y:=.int 0) (a1T rfl (show cW 2 (dFl x)=some (dS (m::r)) by rw [<-hw];rfl)) rfl (c2H _ _)) rfl rfl) gm) rfl rfl
  have c2:tO (aQ iL (aC (var 5) (aC (op1 (cW 3) (iN bW (var 2))) (aC (var 1) aI)))) (wA D sh x f e)=some (.ok (cN h (x.lf++[m]) 0 (sh.drop (x.fi.length+1)))):=by
   rw [yL,aP (aL (x:=dSh (sh.drop (x.fi.length+1))) rfl (aL (a1T (nX (ds:=[.tuple (x.fi.map dS),dS x.tk,dS x.wt,dS x.lf]) rfl (b3H hw (by omega))) (show cW 3 (dFl x.wout)=some (dS (x.lf++[m])) by unfold Fl.wout;rw [hw];rfl)) (aL (x:=D) rfl rfl))) (a4c hh (by simp;omega) _)];rfl
  show a6U _ _ _=_;rw [a5v,c1];show (if decide (h m<f.1)=true then _ else _)=_;rw [c2,xM];simp
 have t2:∀ e,gH (wA D sh x f e)=some (.ok (decide (aS (x.tk++[m])<=(f.2.length:Nat)))):=λe=>by
  refine gZ (x:=.int (aS (x.tk++[m]))) (y:=.int ((f.2.map jX).length:Nat)) (aP (aL (a1T (nX (ds:=[.tuple (x.fi.map dS),dS x.tk,dS x.wt,dS x.lf]) rfl (b7u hw (by omega))) (show cW 1 (dFl x.wth)=some (dS (x.tk++[m])) by unfold Fl.wth;rw [hw];rfl)) rfl) (a8a _ (by simp;omega))) rfl ?_;rw [qE];rfl
 have a1:∀ e:List j0,e.length<=10->a0w 6 (iN bW (var 2)) (wA D sh x f e)=some (.nx (wA D sh x f (e++[dFl x.wout]))):=λe he=>by
  rw [yD (i:=6) (ds:=e) rfl (nX (ds:=[.tuple (x.fi.map dS),dS x.tk,dS x.wt,dS x.lf]) rfl (b3H hw (by omega))) (by omega)];rfl
 have a2:∀ e:List j0,e.length<=10->a0w 6 (iN eA (var 2)) (wA D sh x f e)=some (.nx (wA D sh x f (e++[dFl x.wth]))):=λe he=>by
  rw [yD (i:=6) (ds:=e) rfl (nX (ds:=[.tuple (x.fi.map dS),dS x.tk,dS x.wt,dS x.lf]) rfl (b7u hw (by omega))) (by omega)];rfl
 generalize hW:(if h m<f.1/\cN h (x.lf++[m]) 0 (sh.drop (x.fi.length+1))=true then [x.wout] else []).map dFl=W;have s1:ifS gI (a0w 6 (iN bW (var 2))) iB (wA D sh x f [])=some (.nx (wA D sh x f W)):=by
  rw [mS,bP (t1 _),<-hW];by_cases c:h m<f.1/\cN h (x.lf++[m]) 0 (sh.drop (x.fi.length+1))=true
  ·rw [decide_eq_true c,if_pos rfl,if_pos c,a1 _ (by simp)];rfl
  ·rw [decide_eq_false c,if_neg (by decide),if_neg c];rfl
 have l1:W.length<=10:=by rw [<-hW];split<;>simp
 have s2:ifS gH (a0w 6 (iN eA (var 2))) iB (wA D sh x f W)=some (.nx (wA D sh x f ((fZ h sh x m).map dFl))):=by
  rw [mS,bP (t2 _)];unfold fZ;rw [hf,qc,hW];by_cases c:aS (x.tk++[m])<=(f.2.length:Nat)
  ·rw [decide_eq_true c,if_pos rfl,a2 _ l1,if_pos c];rfl
  ·rw [decide_eq_false c,if_neg (by decide),if_neg c];simp
 rw [aM s1,aM s2];rfl
def b0E (ok:FlOk D h sh x) (hn:x.fi.length<sh.length) (hs:sh.length<=1000):a0A [dSh sh,D,dFl x]=some (.ok (.list ((dA h sh x).map dFl))):=by
 refine aV rfl ?_;show a0h [.val (dSh sh),.val D,.val (dFl x),.no]=_;have z1:=ok.tk;have z2:=ok.lf;have z3:=ok.le;unfold a0h;cases hw:x.wt with
 | cons m r=>
  have t1:oO [.val (dSh sh),.val D,.val (dFl x),.no]=some (.ok true):=by
   show lft (a2X (dS x.wt))=_;rw [hw];rfl
  have:ifS oO (retS (aQ fG (aC (var 0) (aC (var 1) (aC (var 2) aI))))) iB [.val (dSh sh),.val D,.val (dFl x),.no]=some (.rt (.list ((dA h sh x).map dFl))):=by
   rw [mS,bP t1,if_pos rfl,cF,aP (ds:=[dSh sh,D,dFl x]) rfl (a0o ok hn hs hw)];unfold dA;rw [hw];rfl
  rw [gK this]
 | nil=>
  have t1:oO [.val (dSh sh),.val D,.val (dFl x),.no]=some (.ok false):=by
   show lft (a2X (dS x.wt))=_;rw [hw];rfl
  rw [ifF t1];have ln:dG iQ (aC (op1 (cW 0) (var 2)) aI) [.val (dSh sh),.val D,.val (dFl x),.no]=some (.ok (.int (x.fi.length:Nat))):=by
   rw [hV (ds:=[.tuple (x.fi.map dS)]) rfl (b2R _),qE]
  have i0:op2 ixD (var 0) (dG iQ (aC (op1 (cW 0) (var 2)) aI)) [.val (dSh sh),.val D,.val (dFl x),.no]=some (.ok (dSf (mG sh x.fi.length))):=cL rfl ln (b7f hn);unfold dA;rw [hw];dsimp only;generalize hf:mG sh x.fi.length=f at i0
  rw [aM (ρ':=[.val (dSh sh),.val D,.val (dFl x),.val (.list (f.2.map .int))]) (by
   rw [eI,bP (cL i0 rfl rfl)];rfl)]
  have k1:a2m [.val (dSh sh),.val D,.val (dFl x),.val (.list (f.2.map .int))]=some (.ok (.list ((x.lf.map λm=>decide (aS (x.tk++[m])<=(f.2.length:Nat))).map .bool))):=by
   rw [qT];refine dX dM (λm=>[.val (dM m),.val (dFl x),.val (.list (f.2.map .int))]) (λm=>.bool (decide (aS (x.tk++[m])<=(f.2.length:Nat)))) x.lf rfl (by omega) (λ_ _=>rfl) (λm hm=>?_);rw [b4k,aP (ds:=[dS (x.tk++[m])]) (aL (a8t (b:=[m]) rfl rfl (by simp;omega)) rfl) (a8a _ (by simp;omega))];show lft (Option.map j0.bool (leD (.int (aS (x.tk++[m]))) (.int ((f.2.map jX).length:Nat))))=_;rw [qE];rfl
  have t2:a1y [.val (dSh sh),.val D,.val (dFl x),.val (.list (f.2.map .int))]=some (.ok (x.lf.any λm=>decide (aS (x.tk++[m])<=(f.2.length:Nat)))):=by
   show tO _ _=_
   rw [yL,hV (ds:=[.list ((x.lf.map λm=>decide (aS (x.tk++[m])<=(f.2.length:Nat))).map .bool)]) (aL k1 rfl) (d:=.bool (x.lf.any λm=>decide (aS (x.tk++[m])<=(f.2.length:Nat)))) (by
    show (fK oH _).map _=_;rw [hZ (g:=j0.bool) (λb=>rfl)]
    simp [wR,Function.comp_def])]
   rfl
  have t2':=t2;cases c:(x.lf.any λm=>decide (aS (x.tk++[m])<=(f.2.length:Nat))) with
  | true=>
   rw [c] at t2;rw [gK (d:=.list []) (by rw [mS,bP t2];rfl)];rfl
  | false=>
   rw [c] at t2;rw [ifF t2,cF,b8M,aL (nX (ds:=[.tuple (x.fi.map dS),dS x.tk,dS x.wt,dS x.lf]) rfl (c2B (by omega))) rfl];rfl
end
def dn (m:Mt):Nat:=((m.2.2 - 1) / 48+1 - m.2.1 / 48).toNat
abbrev Pc3:=Int×Int×Int
def pc (m:Mt) (d:Int):Pc3:=(d,max (m.2.1 - d*48) 0,min (m.2.2 - d*48) 48)
variable {m:Mt}
def c0g {m:Mt} (h:jI m.1=true):qp (dM m)=true:=b1N (n:=1) (λd hd=>by
 have:d=.str m.1\/d=.int m.2.1\/d=.int m.2.2:=by simpa using hd
 rcases this with rfl | rfl | rfl<;>simp [jH,h]) (λd hd=>by
 have:d=.str m.1\/d=.int m.2.1\/d=.int m.2.2:=by simpa using hd
 rcases this with rfl | rfl | rfl<;>simp [kI]) (by decide)
end L2.L3
variable {sh:List L2.L3.Sf}
namespace L2.L3
open PySem PySem.Spec PyProof.Rows HS
section
variable {h:Mt->Int} {x y:Fl}
theorem FlOk.ways (ok:FlOk D h sh x) (hn:x.fi.length<sh.length) (hy:y∈dA h sh x):FlOk D h sh y:=by
 have len:=ok.len;have nm:=ok.nm;have hw:=ok.hw;have hl:=ok.hl;have le:=ok.le;obtain ⟨fi,tk,wt,lf⟩:=x;dsimp only at *;unfold dA at hy;cases wt with
 | nil=>
  dsimp only at hy;split at hy
  ·cases hy
  ·rw [qL.mp hy]
   refine ⟨by simp [Fl.on];omega,by simp [Fl.on] at *;omega,λm hm=>nm m ?_,hl,λm hm=>by simp [Fl.on] at hm⟩;simp [Fl.on] at hm ⊢;exact .inr hm
 | cons m r=>
  dsimp only at hy;have hm:mH D (.str m.1)=some (.int (h m)):=hw m (by simp);unfold fZ at hy;rcases jD.mp hy with hy | hy
  ·split at hy
   ·rw [qL.mp hy]
    refine ⟨le,by simp [Fl.wout] at *;omega,λa ha=>nm a ?_,λa ha=>hw a (qF _ ha),λa ha=>?_⟩
    ·simp [Fl.wout] at ha ⊢
     rcases ha with ha | ha | ha | ha
     ·exact .inl ha
     ·exact .inr (.inr (.inl ha))
     ·exact .inr (.inr (.inr ha))
     ·exact .inr (.inl ha)
    ·rcases jD.mp ha with ha | ha
     ·exact hl a ha
     ·rw [qL.mp ha];exact hm
   ·cases hy
  ·split at hy
   ·rw [qL.mp hy]
    refine ⟨le,by simp [Fl.wth] at *;omega,λa ha=>nm a ?_,λa ha=>hw a (qF _ ha),hl⟩;simp [Fl.wth] at ha ⊢;rcases ha with ha | ha | ha | ha
    ·exact .inl ha
    ·exact .inr (.inl ha)
    ·exact .inr (.inr (.inl ha))
    ·exact .inr (.inr (.inr ha))
   ·cases hy
end
def a8M (c:Prop) [Decidable c] (a:Fl):(if c then [a] else []).length<=1:=by split<;>simp
def b1k (h:Mt->Int) (sh:List Sf) (x:Fl):(dA h sh x).length<=2:=by
 unfold dA;split
 ·unfold fZ;rw [qf];exact Nat.add_le_add (a8M _ _) (a8M _ _)
 ·split<;>simp
variable {a b:Mt}
def b9t (e:dM a=dM b):a=b:=by
 obtain ⟨a1,a2,a3⟩:=a;obtain ⟨b1,b2,b3⟩:=b;injection e with e;injection e with h1 e;injection e with h2 e;injection e with h3 e;cases h1;cases h2;cases h3;rfl
def a8g {a b:List Mt} (e:dS a=dS b):a=b:=by
 injection e with e;exact (zO (f:=dM) λa b h=>b9t h).mp e
def b6G {a b:Mrk} (e:dMk a=dMk b):a=b:=by
 obtain ⟨a1,a2,a3,a4⟩:=a;obtain ⟨b1,b2,b3,b4⟩:=b;injection e with e;injection e with h1 e;injection e with h2 e;injection e with h3 e;injection e with h4 e;injection h1 with h1;have h1:a1=b1:=Int.ofNat.inj h1;have h2:a2=b2:=a8g h2;have h3:a3=b3:=a8g h3;have h4:a4=b4:=a8g h4;rw [h1,h2,h3,h4]
variable {ks:List Mrk}
def a9v {k:Mrk}:dMk k∈ks.map dMk↔k∈ks:=by
 constructor
 ·intro z
  obtain ⟨a,ha,e⟩:=qU.mp z;rw [<-b6G e];exact ha
 ·exact λz=>jo z
def b8Z {m:Mt} (hm:jI m.1=true):hsh 2 (dM m)=true:=by
 show [kj m.1,.int m.2.1,.int m.2.2].all (hsh 1)=true;have e1:hsh 1 (.str m.1)=true:=by unfold hsh;simp [jH,hm]
 have e2:∀ i,hsh 1 (.int i)=true:=λi=>by unfold hsh;rfl
 rw [qz,e1,qz,e2,qz,e2];rfl
variable {s:List Mt}
def a7P (hm:∀ m∈s,jI m.1=true):hsh 3 (dS s)=true:=by
 show (s.map dM).all (hsh 2)=true;rw [qe];intro d hd;obtain ⟨m,hm',rfl⟩:=qU.mp hd;exact b8Z (hm m hm')
def b8Y {x:Fl} (nm:∀ m∈x.tk++x.wt++x.lf,jI m.1=true):(hsh 4 (dMk x.mrk)&&a9J (dMk x.mrk))=true:=by
 have e:hsh 4 (dMk x.mrk)=true:=by
  show [jX (x.mrk.1:Nat),dS x.mrk.2.1,dS x.mrk.2.2.1,dS x.mrk.2.2.2].all (hsh 3)=true;have e0:hsh 3 (.int (x.mrk.1:Nat))=true:=by unfold hsh;rfl
  have e1:hsh 3 (dS x.mrk.2.1)=true:=a7P (s:=x.tk) λm hm=>nm m (by simp [hm]);have e2:hsh 3 (dS x.mrk.2.2.1)=true:=a7P (s:=x.wt) λm hm=>nm m (by simp [hm]);have e3:hsh 3 (dS x.mrk.2.2.2)=true:=a7P (s:=x.lf) λm hm=>nm m (by simp [hm]);rw [qz,e0,qz,e1,qz,e2,qz,e3];rfl
 rw [e];rfl
def addW:List Mrk×List Fl->List Fl->List Mrk×List Fl
 | p,[]=>p
 | p,y::l=>addW (if y.mrk∈p.1 then p else (p.1++[y.mrk],p.2++[y])) l
def a0Z (h:Mt->Int) (sh:List Sf):Nat->List Mrk->List Fl->Option (Option (List (List Mt)))
 | 0,_,_=>none
 | n+1,ks,st=>match st.getLast? with
  | none=>some none
  | some x=>if x.fi.length=sh.length then some (some x.fi) else a0Z h sh n (addW (ks,st.dropLast) (dA h sh x)).1 (addW (ks,st.dropLast) (dA h sh x)).2
theorem a6W:∀ (l:List Fl) (p:List Mrk×List Fl),(addW p l).1.length<=p.1.length+l.length/\(addW p l).2.length<=p.2.length+l.length
 | [],p=>⟨qN _,qN _⟩
 | y::l,p=>by
  unfold addW;have:=a6W l (if y.mrk∈p.1 then p else (p.1++[y.mrk],p.2++[y]));rw [qV];split at this
  ·rename_i c;rw [if_pos c];omega
  ·rename_i c;rw [if_neg c];simp at this;omega
theorem a6V {z:Fl}:∀ (l:List Fl) (p:List Mrk×List Fl),z∈(addW p l).2->z∈p.2\/z∈l
 | [],p,hz=>.inl hz
 | y::l,p,hz=>by
  unfold addW at hz;rcases a6V l _ hz with hz | hz
  ·split at hz
   ·exact .inl hz
   ·rcases jD.mp hz with hz | hz
    ·exact .inl hz
    ·exact .inr (by rw [qL.mp hz];simp)
  ·exact .inr (qF _ hz)
variable {k:j0}
open Classical in
theorem b8D {ks:T0l} {b:Bool} (hk:fk ρ=some (.ok k)) (hi:ρ[i]?=some (.seen w ks)) (hh:(hsh 4 k&&a9J k)=true) (hb:b=true↔k∉ks):a5W w i fk ρ=some (.ok b):=by
 unfold a5W;rw [hk];dsimp only [bnd];rw [hi];dsimp only;rw [if_pos ⟨rfl,hh⟩];congr 2;cases b with
 | true=>rw [decide_eq_false (hb.mp rfl)];rfl
 | false=>
  have:k∈ks:=vH λz=>by have:=hb.mpr z;cases this
  rw [decide_eq_true this];rfl
open Classical in
theorem b7W {ks:T0l} (hk:fk ρ=some (.ok k)) (hv:fv ρ=some (.ok d)) (hi:ρ[i]?=some (.seen w ks)) (hh:(hsh 4 k&&a9J k)=true) (ha:alone i ρ=true) (hz:ks.length<=100000) (hn:k∉ks):a3u w i fk fv ρ=some (.nx (ρ.set i (.seen w (ks++[k])))):=by
 unfold a3u;rw [hi];dsimp only;rw [if_pos rfl,bP hv,bP hk,if_pos];refine ⟨?_,hn⟩;rw [hh,ha];unfold eF;rw [decide_eq_true hz];rfl
section
variable {h:Mt->Int} {x y:Fl}
def b1G (S s D X:j0) (ks:List Mrk) (st:List Fl) (nm:∀ m∈y.tk++y.wt++y.lf,jI m.1=true) (z1:ks.length<=100000) (z2:st.length<=100000):
  hX w [.val S,.val s,.val D,.seen w (ks.map dMk),.lst (st.map dFl),.val X,.val (dFl y)]=some (.nx [.val S,.val s,.val D,.seen w ((if y.mrk∈ks then (ks,st) else (ks++[y.mrk],st++[y])).1.map dMk),.lst ((if y.mrk∈ks then (ks,st) else (ks++[y.mrk],st++[y])).2.map dFl),.val X,.val (dFl y)]):=by
 have mk:iN oJ (var 6) [.val S,.val s,.val D,.seen w (ks.map dMk),.lst (st.map dFl),.val X,.val (dFl y)]=some (.ok (dMk y.mrk)):=nX (ds:=[.tuple (y.fi.map dS),dS y.tk,dS y.wt,dS y.lf]) rfl b9j;have hk:=b8Y nm;have t:mI w [.val S,.val s,.val D,.seen w (ks.map dMk),.lst (st.map dFl),.val X,.val (dFl y)]=some (.ok (!decide (y.mrk∈ks))):=by
  refine b8D mk rfl hk ?_;rw [zW,decide_eq_false_iff_not,a9v]
 show ifS _ _ _ _=_;rw [mS,bP t];by_cases c:y.mrk∈ks
 ·rw [decide_eq_true c,if_pos c];rfl
 ·rw [decide_eq_false c,if_neg c]
  have p:a3u w 3 (iN oJ (var 6)) (cst (.bool true)) [.val S,.val s,.val D,.seen w (ks.map dMk),.lst (st.map dFl),.val X,.val (dFl y)]=some (.nx [.val S,.val s,.val D,.seen w ((ks++[y.mrk]).map dMk),.lst (st.map dFl),.val X,.val (dFl y)]):=by
   rw [b7W mk rfl rfl hk rfl (by rw [qE];exact z1) (λz=>c (a9v.mp z)),qc];rfl
  show aZ _ _ _=_;rw [aM p,yD (i:=4) (ds:=st.map dFl) rfl rfl (by rw [qE];exact z2)];rw [show (ks++[y.mrk],st++[y]).2.map dFl=st.map dFl++[dFl y] from qc];rfl
theorem a6c (S s D X:j0):∀ (l:List Fl) (ks:List Mrk) (st:List Fl) (x6:Ent),(∀ y∈l,∀ m∈y.tk++y.wt++y.lf,jI m.1=true)->ks.length+l.length<=100000->st.length+l.length<=100000 ->
  ∃ x6',bX (.nm 6) (hX w) (l.map dFl) [.val S,.val s,.val D,.seen w (ks.map dMk),.lst (st.map dFl),.val X,x6]=some (.nx [.val S,.val s,.val D,.seen w ((addW (ks,st) l).1.map dMk),.lst ((addW (ks,st) l).2.map dFl),.val X,x6'])
 | [],ks,st,x6,_,_,_=>⟨x6,rfl⟩
 | y::l,ks,st,x6,nm,z1,z2=>by
  rw [qV] at z1 z2;have e:=b1G (w:=w) S s D X ks st (nm y (by simp)) (by omega) (by omega);have l1:(if y.mrk∈ks then (ks,st) else (ks++[y.mrk],st++[y])).1.length+l.length<=100000:=by split<;>simp<;>omega
  have l2:(if y.mrk∈ks then (ks,st) else (ks++[y.mrk],st++[y])).2.length+l.length<=100000:=by split<;>simp<;>omega
  obtain ⟨x6',e2⟩:=a6c S s D X l _ _ (.val (dFl y)) (λa ha=>nm a (qF _ ha)) l1 l2;refine ⟨x6',?_⟩;rw [qI,dU (t:=.nm 6) (ρ1:=[.val S,.val s,.val D,.seen w (ks.map dMk),.lst (st.map dFl),.val X,.val (dFl y)]) rfl e];exact e2
theorem a6z (hs:sh.length<=1000) (s:j0) {r:Option (List (List Mt))}:∀ (n:Nat) (ks:List Mrk) (st:List Fl) (x5 x6:Ent),(∀ y∈st,FlOk D h sh y)->ks.length+2*n<=50000->st.length+2*n<=50000->a0Z h sh n ks st=some r ->
  (∃ fi,r=some fi/\fR dC (cE w) n [.val (dSh sh),.val s,.val D,.seen w (ks.map dMk),.lst (st.map dFl),x5,x6]=some (.rt (.tuple (fi.map dS)))) \/
  (r=none/\∃ ρ',fR dC (cE w) n [.val (dSh sh),.val s,.val D,.seen w (ks.map dMk),.lst (st.map dFl),x5,x6]=some (.nx ρ'))
 | 0,ks,st,x5,x6,_,_,_,e=>by cases e
 | n+1,ks,st,x5,x6,ok,z1,z2,e=>by
  have t3:dC [.val (dSh sh),.val s,.val D,.seen w (ks.map dMk),.lst (st.map dFl),x5,x6]=some (.ok (!(st.map dFl).isEmpty)):=b7H rfl;rw [fR];dsimp only;rw [bP t3];unfold a0Z at e;rcases List.eq_nil_or_concat st with rfl | ⟨st',x,rfl⟩
  ·cases e
   exact .inr ⟨rfl,_,rfl⟩
  ·rw [List.concat_eq_append] at *
   rw [List.getLast?_concat] at e;dsimp only at e;rw [vo] at e;have hx:=ok x (by simp);have p1:a8E 4 5 [.val (dSh sh),.val s,.val D,.seen w (ks.map dMk),.lst ((st'++[x]).map dFl),x5,x6]=some (.nx [.val (dSh sh),.val s,.val D,.seen w (ks.map dMk),.lst (st'.map dFl),.val (dFl x),x6]):=by
    rw [qc]
    show (match (st'.map dFl++[dFl x])[(st'.map dFl++[dFl x]).length - 1]? with
     | some d=>if 4≠5 then some (So.nx (([Ent.val (dSh sh),.val s,.val D,.seen w (ks.map dMk),.lst (st'.map dFl++[dFl x]),x5,x6].set 4 (.lst (st'.map dFl++[dFl x]).dropLast)).set 5 (.val d))) else none
     | none=>none)=_
    rw [show (st'.map dFl++[dFl x])[(st'.map dFl++[dFl x]).length - 1]?=some (dFl x) by simp,vo];rfl
   have t1:mK [.val (dSh sh),.val s,.val D,.seen w (ks.map dMk),.lst (st'.map dFl),.val (dFl x),x6]=some (.ok (decide (x.fi.length=sh.length))):=by
    refine gZ (x:=.int ((x.fi.map dS).length:Nat)) (y:=.int ((sh.map dSf).length:Nat)) rfl rfl ?_;rw [qE,qE,b7t];exact congrArg some (decide_eq_decide.mpr ⟨λz=>by omega,λz=>by omega⟩)
   have ne:(!((st'++[x]).map dFl).isEmpty)=true:=by simp
   rw [ne,if_pos rfl];by_cases c:x.fi.length=sh.length
   ·rw [if_pos c] at e
    cases e;refine .inl ⟨x.fi,rfl,?_⟩;have b:cE w [.val (dSh sh),.val s,.val D,.seen w (ks.map dMk),.lst ((st'++[x]).map dFl),x5,x6]=some (.rt (.tuple (x.fi.map dS))):=by
     show aZ _ _ _=_;rw [aM p1,gK (d:=.tuple (x.fi.map dS)) (by rw [mS,bP t1,decide_eq_true c];rfl)]
    rw [b]
   ·rw [if_neg c] at e
    have hn:x.fi.length<sh.length:=by have:=hx.le;omega
    have wl:=b1k h sh x;rw [qf,jg] at z2;obtain ⟨x6',e2⟩:=a6c (w:=w) (dSh sh) s D (dFl x) (dA h sh x) ks st' x6 (λy hy=>(hx.ways hn hy).nm) (by omega) (by omega);have b:cE w [.val (dSh sh),.val s,.val D,.seen w (ks.map dMk),.lst ((st'++[x]).map dFl),x5,x6]=some (.nx [.val (dSh sh),.val s,.val D,.seen w ((addW (ks,st') (dA h sh x)).1.map dMk),.lst ((addW (ks,st') (dA h sh x)).2.map dFl),.val (dFl x),x6']):=by
     show aZ _ _ _=_;rw [aM p1,ifF (by rw [t1,decide_eq_false c]),pG,fM (aP (ds:=[dSh sh,D,dFl x]) rfl (b0E hx hn hs)) rfl];exact e2
    rw [b];have al:=a6W (dA h sh x) (ks,st')
    exact a6z hs s n _ _ _ _ (λy hy=>by
     rcases a6V _ _ hy with hy | hy
     ·exact ok y (kQ _ hy)
     ·exact hx.ways hn hy) (by dsimp only at al;omega) (by dsimp only at al;omega) e
end
abbrev kH (h:Mt->Int) (m:Mt):j0:=.tuple [.int (-(h m)),.str m.1]
abbrev kN (h:Mt->Int) (m:Mt):j0:=.tuple [.int (-(h m)),dM m]
theorem a3P {fe:EF} {kf:Mt->j0}:∀ (s:List Mt),(∀ m∈s,fe [.val (dM m)]=some (.ok (kf m)))->nZ fe (s.map dM)=some (s.map kf)
 | [],_=>rfl
 | m::s,h=>by
  show (match fe [.val (dM m)] with | some (.ok k)=>(nZ fe (s.map dM)).map (k::·) | _=>none)=_;rw [h m (by simp),a3P s λa ha=>h a (qF _ ha)];rfl
def byH (h:Mt->Int) (s:List Mt):List Mt:=a4v (kH h) s
def a8d {h:Mt->Int} (hd:uV D h s) (nd:(s.map (·.1)).Nodup) (nm:∀ m∈s,jI m.1=true) (hz:s.length<64):pZ [dS s,D]=some (.ok (dS (byH h s))):=by
 refine aV rfl ?_;show uR [.val (dS s),.val D]=_;have k1:nZ (λρ1=>mR (ρ1++bY [some 1] [.val (dS s),.val D])) (s.map dM)=some (s.map (kN h)):=a3P s λm hm=>by
  show dP _ [.val (dM m),.val D]=_;rw [rN,aL (a1T (cL (y:=.str m.1) rfl rfl (hd m hm)) c0I) (aL (x:=dM m) rfl rfl)];rfl
 have e1:(s.map (kN h)).map flK=s.map (kH h):=by rw [qT];rfl
 have ndk:(s.map (kH h)).Nodup:=by
  rw [List.Nodup,kD] at nd ⊢;exact nd.imp λ{a b} n e=>n (by injection e with e;injection e with _ e;injection e with e _;injection e)
 have so:a1H (s.map dM) (s.map (kN h))=some (.list ((byH h s).map dM)):=by
  unfold a1H;rw [e1,if_pos,a8z (g:=[true,false]) (λm=>rfl) ndk];· rfl
  rw [qJ,qJ,qe];refine ⟨⟨λd hd=>?_,decide_eq_true ndk⟩,decide_eq_true (by rw [qE];exact hz)⟩;obtain ⟨m,hm,rfl⟩:=qU.mp hd;exact c0g (nm m hm)
 have so':a1J (var 0) [some 1] mR [.val (dS s),.val D]=some (.ok (.list ((byH h s).map dM))):=by
  unfold a1J
  show lft (match nZ (λρ1=>mR (ρ1++bY [some 1] [.val (dS s),.val D])) (s.map dM) with
   | some nks=>a1H (s.map dM) nks
   | none=>none)=_
  rw [k1];dsimp only;rw [so];rfl
 unfold uR
 rw [cF,hV (ds:=[.list ((byH h s).map dM)]) (aL so' rfl) (d:=dS (byH h s)) (by
  have:(byH h s).length<=100000:=by rw [show (byH h s).length=s.length from (nQ s).length_eq];omega
  unfold a7i
  simp [this])]
 rfl
def b4t (h:Mt->Int) (s:List Mt):(byH h s).Perm s:=nQ s
def fiD:Option (List (List Mt))->j0
 | some fi=>.tuple (fi.map dS)
 | none=>.none
variable {r:Option (List (List Mt))}
def b3J {h:Mt->Int} (hd:uV D h s) (nd:(s.map (·.1)).Nodup) (nm:∀ m∈s,jI m.1=true) (hz:s.length<64) (hs:sh.length<=1000) 
  (e:a0Z h sh 20000 [] [⟨[],[],byH h s,[]⟩]=some r):eB w [dSh sh,dS s,D]=some (.ok (fiD r)):=by
 refine aV rfl ?_;show iI w [.val (dSh sh),.val (dS s),.val D,.no,.no,.no,.no]=_;have hp:=b4t h s;have hl:=hp.length_eq;have ok:FlOk D h sh ⟨[],[],byH h s,[]⟩:=⟨jB _,by simp;omega,λm hm=>nm m (hp.mem_iff.mp (by simpa using hm)),λm hm=>hd m (hp.mem_iff.mp hm),λm hm=>by cases hm⟩;unfold iI;rw [aM (ρ':=[.val (dSh sh),.val (dS s),.val D,.seen w [],.no,.no,.no]) rfl];have n4:a5X 4 (aC (mkF (aC (dP aI) (aC (dP aI) (aC (aQ pZ (aC (var 1) (aC (var 2) aI))) (aC (dP aI) aI))))) aI) [.val (dSh sh),.val (dS s),.val D,.seen w [],.no,.no,.no]=some (.nx [.val (dSh sh),.val (dS s),.val D,.seen w [],.lst [dFl ⟨[],[],byH h s,[]⟩],.no,.no]):=by
  rw [b8F,bP (aL (a4P (ds:=[.tuple [],dS [],dS (byH h s),dS []]) (aL rfl (aL rfl (aL (aP (ds:=[dS s,D]) rfl (a8d hd nd nm hz)) (aL rfl rfl)))) rfl) rfl)];rfl
 rw [aM n4];rcases a6z (w:=w) (D:=D) hs (dS s) 20000 [] [⟨[],[],byH h s,[]⟩] .no .no (λy hy=>by rw [qL.mp hy];exact ok) (by decide) (by simp) e with ⟨fi,rfl,q⟩ | ⟨rfl,ρ',q⟩
 ·exact gK q
 ·rw [show aZ (fR dC (cE w) 20000) (retS (cst .none)) [.val (dSh sh),.val (dS s),.val D,.seen w [],.lst [dFl ⟨[],[],byH h s,[]⟩],.no,.no]=retS (cst .none) ρ' from aM q]
  rfl
abbrev dZ (z:T0s):j0:=.list (z.map .int)
def yT (sizes:T0s) (ab:Option Int) (l:Int):List Int:=((qm sizes.length).filter λk=>decide (l<=sizes.getD k 0)&&(match ab with | none=>true | some a=>decide (sizes.getD k 0<a))).map λ(k:Nat)=>(k:Int)
def rV (sizes:T0s):Option Int->List Int->List Sf
 | _,[]=>[]
 | ab,l::ls=>(l,yT sizes ab l)::rV sizes (some l) ls
def dQ (sizes:T0s) (h:Mt->Int) (s:List Mt):List Sf:=rV sizes none (ssI (s.map h)).reverse
def abE:Option Int->j0
 | none=>.none
 | some a=>.int a
def b6t (ms:T0s):a0Q (ms.map .int)=(qm ms.length).map λ(k:Nat)=>.tuple [.int (k:Int),.int (ms.getD k 0)]:=by
 unfold a0Q;rw [qE];refine vz λk hk=>?_;have:=jp.mp hk;simp [zw,this]
section
variable {h:Mt->Int}
def b5Z (A B C:Ent) (ab:Option Int) (l:Int) (y:Ent) (hz:sizes.length<=1000):tT [A,.val (dZ sizes),B,C,.val (abE ab),.val (.int l),y]=some (.ok (.list ((yT sizes ab l).map .int))):=by
 unfold yT;rw [qT];refine fC (λ(k:Nat)=>.tuple [.int (k:Int),.int (sizes.getD k 0)]) (λk=>[.val (.int (k:Int)),.val (.int (sizes.getD k 0)),.val (abE ab),.val (.int l)]) (λk=>decide (l<=sizes.getD k 0)&&(match ab with | none=>true | some a=>decide (sizes.getD k 0<a))) (λk=>.int (k:Int)) (qm sizes.length) ?_ (by rw [zU];omega) (λk _=>by cases ab<;>rfl) (λk _=>?_) (λk _ _=>rfl)
 ·show some (Re.ok (a0Q (sizes.map .int)))=_
  rw [b6t]
 ·rw [a5v,gZ (x:=.int l) (y:=.int (sizes.getD k 0)) rfl rfl c0P]
  show (if decide (l<=sizes.getD k 0)=true then _ else _)=_;cases ab with
  | none=>rw [<-xM];rfl
  | some a=>rw [<-xM];rfl
def b6V (A B:Ent) (done:List Sf) (ab:Option Int) (l:Int) (y:Ent) (hz:sizes.length<=1000) (hd:done.length<=1000):nK [A,.val (dZ sizes),B,.lst (done.map dSf),.val (abE ab),.val (.int l),y] =
  some (.nx [A,.val (dZ sizes),B,.lst ((done++[(l,yT sizes ab l)]).map dSf),.val (abE (some l)),.val (.int l),.val (.list ((yT sizes ab l).map .int))]):=by
 show aZ _ _ _=_;rw [aM (ρ':=[A,.val (dZ sizes),B,.lst (done.map dSf),.val (abE ab),.val (.int l),.val (.list ((yT sizes ab l).map .int))]) (by rw [eI,bP (b5Z A B (.lst (done.map dSf)) ab l y hz)];rfl)];rw [aM (yD (i:=3) (ds:=done.map dSf) (d:=dSf (l,yT sizes ab l)) rfl rfl (by rw [qE];omega)),qc];rfl
theorem a2d (A B:Ent) (hz:sizes.length<=1000):∀ (ls:T0s) (done:List Sf) (ab:Option Int) (x y:Ent),done.length+ls.length<=1000->∃ x4 x5 x6,bX (.nm 5) nK (ls.map .int) [A,.val (dZ sizes),B,.lst (done.map dSf),.val (abE ab),x,y] =
  some (.nx [A,.val (dZ sizes),B,.lst ((done++rV sizes ab ls).map dSf),x4,x5,x6])
 | [],done,ab,x,y,_=>⟨_,_,_,by rw [rV,kW];rfl⟩
 | l::ls,done,ab,x,y,hl=>by
  rw [qV] at hl;obtain ⟨x4,x5,x6,e⟩:=a2d A B hz ls (done++[(l,yT sizes ab l)]) (some l) (.val (.int l)) (.val (.list ((yT sizes ab l).map .int))) (by simp;omega);refine ⟨x4,x5,x6,?_⟩;rw [qI,dU (t:=.nm 5) (ρ1:=[A,.val (dZ sizes),B,.lst (done.map dSf),.val (abE ab),.val (.int l),y]) rfl (b6V A B done ab l y hz (by omega)),e,rV,jh];rfl
def b7Q (h:ns.length<64):a3k (.list (ns.map .int))=some (.list ((ssI ns).map .int)):=by
 unfold a3k;dsimp only;rw [oB];dsimp only;rw [if_pos h];rfl
def a3Z (hd:uV D h s) (hz:sizes.length<=1000) (hs:s.length<64):pT [dS s,dZ sizes,D]=some (.ok (dSh (dQ sizes h s))):=by
 refine aV rfl ?_;show pH [.val (dS s),.val (dZ sizes),.val D,.no,.no,.no,.no]=_;have k1:nB [.val (dS s),.val (dZ sizes),.val D,.lst [],.val .none,.no,.no]=some (.ok (.list ((s.map h).map .int))):=by
  rw [qT];exact dX dM (λm=>[.val (dM m),.val D]) (λm=>.int (h m)) s rfl (by omega) (λ_ _=>rfl) (λm hm=>cL (y:=.str m.1) rfl rfl (hd m hm))
 have sl:=a8x (s.map h);rw [qE] at sl;unfold pH;rw [aM (ρ':=[.val (dS s),.val (dZ sizes),.val D,.lst [],.no,.no,.no]) rfl,aM (ρ':=[.val (dS s),.val (dZ sizes),.val D,.lst [],.val .none,.no,.no]) rfl];have rv:b1U (op1 a3k nB) [.val (dS s),.val (dZ sizes),.val D,.lst [],.val .none,.no,.no]=some (.ok ((ssI (s.map h)).reverse.map .int)):=by
  unfold b1U;rw [a1T k1 (b7Q (by rw [qE];exact hs))];dsimp only;rw [List.map_reverse]
 obtain ⟨x4,x5,x6,e⟩:=a2d (.val (dS s)) (.val D) hz (ssI (s.map h)).reverse [] none .no .no (by simp;omega);rw [aM (ρ':=[.val (dS s),.val (dZ sizes),.val D,.lst ((dQ sizes h s).map dSf),x4,x5,x6]) (by rw [pG,rv];exact e)];rfl
end
theorem a5E (sizes:T0s):∀ (ls:T0s) (ab:Option Int),(rV sizes ab ls).length=ls.length
 | [],_=>rfl
 | l::ls,ab=>by rw [rV,qV,a5E sizes ls,qV]
def a9S (sizes:T0s) (h:Mt->Int) (s:List Mt):(dQ sizes h s).length<=s.length:=by
 unfold dQ;rw [a5E,List.length_reverse];exact qi (a8x _) (by rw [qE];exact qN _)
variable {kvs:List (Key×j0)}
def b1X {k:Key} (hi:ρ[i]?=some (.dct kvs)) (hv:fv ρ=some (.ok d)) (hk:fk ρ=some (.ok kd)) (hd:oG kd=some k) (hz:kvs.length<=100000) (hn:k∉kvs.map (·.1)):a3v i fk fv ρ=some (.nx (ρ.set i (.dct (kvs++[(k,d)])))):=by
 unfold a3v;rw [hi];dsimp only;rw [bP hv,bP hk,hd];dsimp only;rw [if_pos (by unfold eF;exact decide_eq_true hz)];unfold a0H;rw [if_neg];intro z;obtain ⟨p,hp,e⟩:=we.mp z;exact hn (qU.mpr ⟨p,hp,of_decide_eq_true e⟩)
theorem a3O:∀ kvs:List (Key×j0),a2i (kvs.map λp=>(eC p.1,p.2))=some kvs
 | []=>rfl
 | p::r=>by
  show (match oG (eC p.1),a2i (r.map λp=>(eC p.1,p.2)) with | some k,some l=>some ((k,p.2)::l) | _,_=>none)=_;rw [oF,a3O r]
theorem a1Z:∀ (more acc:List (Key×j0)),((acc++more).map (·.1)).Nodup->a2a acc more=acc++more
 | [],acc,_=>by simp [a2a]
 | (k,v)::r,acc,h=>by
  have hk:k∉acc.map (·.1):=λz=>by
   rw [qc,kE] at h;exact h.2.2 k z k (by simp) rfl
  show a2a (a0H acc k v) r=_;have e:a0H acc k v=acc++[(k,v)]:=by
   unfold a0H;rw [if_neg];intro z;obtain ⟨p,hp,e⟩:=we.mp z;exact hk (qU.mpr ⟨p,hp,of_decide_eq_true e⟩)
  rw [e,a1Z r (acc++[(k,v)]) (by simpa using h)];simp
def b1o {more:List (Key×j0)} (hi:ρ[i]?=some (.dct kvs)) (ha:fa ρ=some (.ok (fV more))) (hz:kvs.length+more.length<=100000) (nd:((kvs++more).map (·.1)).Nodup):a5A i fa ρ=some (.nx (ρ.set i (.dct (kvs++more)))):=by
 unfold a5A;rw [hi];dsimp only;rw [bP ha];unfold fV;dsimp only;rw [a3O];dsimp only;rw [if_pos (by unfold eF;exact decide_eq_true hz),a1Z _ _ nd]
def a7w (l:List (Sf×List Ly)):List (Key×j0):=l.flatMap λq=>q.2.map λp=>(.inr p.1.1,.int (q.1.2.getD p.2 0))
abbrev nmP (P:List Ly):List Key:=P.map λp=>.inr p.1.1
theorem a2e (s sz D S F M:Ent) (f:Sf):∀ (P:List Ly) (kvs:List (Key×j0)) (x8 x9:Ent),(kvs.map (·.1)++nmP P).Nodup->(∀ p∈P,p.2<f.2.length)->kvs.length+P.length<=1000 ->
  ∃ x8' x9',bX (.tp [8,9]) nM (P.map λp=>.tuple [.str p.1.1,.int (p.2:Nat)]) [s,sz,D,S,F,.dct kvs,.val (dSf f),M,x8,x9]=some (.nx [s,sz,D,S,F,.dct (kvs++P.map λp=>(.inr p.1.1,.int (f.2.getD p.2 0))),.val (dSf f),M,x8',x9'])
 | [],kvs,x8,x9,_,_,_=>⟨x8,x9,by simp [bX]⟩
 | p::P,kvs,x8,x9,nd,hl,hz=>by
  rw [qV] at hz;have hk:(jZ p.1.1:Key)∉kvs.map (·.1):=λz=>by
   rw [kE] at nd;exact nd.2.2 _ z _ (by simp [nmP]) rfl
  have hp:=hl p (by simp);have b:nM [s,sz,D,S,F,.dct kvs,.val (dSf f),M,.val (.str p.1.1),.val (.int (p.2:Nat))]=some (.nx [s,sz,D,S,F,.dct (kvs++[(.inr p.1.1,.int (f.2.getD p.2 0))]),.val (dSf f),M,.val (.str p.1.1),.val (.int (p.2:Nat))]):=by
   have ix:ixD (.list (f.2.map .int)) (.int (p.2:Nat))=some (.int (f.2.getD p.2 0)):=by
    rw [a9c (by omega) (by omega)];rfl
   show a3v 5 (var 8) (op2 ixD (op2 ixD (var 6) (cst (.int 1))) (var 9)) _=_;rw [b1X (i:=5) (k:=.inr p.1.1) (kd:=.str p.1.1) (d:=.int (f.2.getD p.2 0)) (kvs:=kvs) rfl (cL (x:=.list (f.2.map .int)) (y:=.int (p.2:Nat)) rfl rfl ix) rfl rfl (by omega) hk];rfl
  obtain ⟨x8',x9',e⟩:=a2e s sz D S F M f P (kvs++[(.inr p.1.1,.int (f.2.getD p.2 0))]) (.val (.str p.1.1)) (.val (.int (p.2:Nat))) (by simpa [nmP] using nd) (λq hq=>hl q (qF _ hq)) (by simp;omega);refine ⟨x8',x9',?_⟩;rw [qI,dU (t:=.tp [8,9]) (ρ1:=[s,sz,D,S,F,.dct kvs,.val (dSf f),M,.val (.str p.1.1),.val (.int (p.2:Nat))]) rfl b,e];simp
structure ShP (f:Sf) (ms:List Mt) (P:List Ly):Prop where
 col:cZ [dS ms]=some (.ok (gY P))
 low:∀ p∈P,p.2<f.2.length
variable {f:Sf} {P:List Ly}
def b9D {s sz D S F:Ent} {ms:List Mt} {x8 x9:Ent} (hP:ShP f ms P) (nd:(kvs.map (·.1)++nmP P).Nodup) (hz:kvs.length+P.length<=1000):
  ∃ x8' x9',nJ [s,sz,D,S,F,.dct kvs,.val (dSf f),.val (dS ms),x8,x9]=some (.nx [s,sz,D,S,F,.dct (kvs++P.map λp=>(.inr p.1.1,.int (f.2.getD p.2 0))),.val (dSf f),.val (dS ms),x8',x9']):=by
 obtain ⟨x8',x9',e⟩:=a2e s sz D S F (.val (dS ms)) f P kvs x8 x9 nd hP.low hz;refine ⟨x8',x9',?_⟩;have i:b3c cZ (aC (var 7) aI) [s,sz,D,S,F,.dct kvs,.val (dSf f),.val (dS ms),x8,x9]=some (.ok (P.map λp=>.tuple [.str p.1.1,.int (p.2:Nat)])):=by
  unfold b3c;rw [show aC (var 7) aI [s,sz,D,S,F,.dct kvs,.val (dSf f),.val (dS ms),x8,x9]=some (.ok [dS ms]) from rfl];dsimp only;rw [hP.col];unfold gY fV;dsimp only
  rw [if_pos (qe.mpr λq hq=>by
   rw [qT] at hq
   obtain ⟨p,_,rfl⟩:=qU.mp hq;rfl),qT,qT]
  rfl
 show tP _ _ _ _=_;rw [pG,bP i];exact e
theorem a3H (s sz D S F:Ent):∀ (l:List (Sf×List Mt×List Ly)) (kvs:List (Key×j0)) (x6 x7 x8 x9:Ent),(∀ q∈l,ShP q.1 q.2.1 q.2.2)->(kvs.map (·.1)++l.flatMap λq=>nmP q.2.2).Nodup->kvs.length+(l.flatMap λq=>nmP q.2.2).length<=1000 ->
  ∃ x6' x7' x8' x9',bX (.tp [6,7]) nJ (l.map λq=>.tuple [dSf q.1,dS q.2.1]) [s,sz,D,S,F,.dct kvs,x6,x7,x8,x9]=some (.nx [s,sz,D,S,F,.dct (kvs++a7w (l.map λq=>(q.1,q.2.2))),x6',x7',x8',x9'])
 | [],kvs,x6,x7,x8,x9,_,_,_=>⟨x6,x7,x8,x9,by simp [bX,a7w]⟩
 | q::l,kvs,x6,x7,x8,x9,hq,nd,hz=>by
  rw [wN] at nd hz;rw [<-jh] at nd;rw [qf] at hz;have hl:(nmP q.2.2).length=q.2.2.length:=qE _;obtain ⟨y8,y9,e1⟩:=b9D (s:=s) (sz:=sz) (D:=D) (S:=S) (F:=F) (x8:=x8) (x9:=x9) (hq q (by simp)) (kvs:=kvs) (List.Nodup.sublist (List.sublist_append_left _ _) nd) (by omega);have ek:(kvs++q.2.2.map λp=>((jZ p.1.1:Key),jX (q.1.2.getD p.2 0))).map (·.1)=kvs.map (·.1)++nmP q.2.2:=by rw [qc,qT];rfl
  obtain ⟨x6',x7',x8',x9',e2⟩:=a3H s sz D S F l (kvs++q.2.2.map λp=>(.inr p.1.1,.int (q.1.2.getD p.2 0))) (.val (dSf q.1)) (.val (dS q.2.1)) y8 y9 (λa ha=>hq a (qF _ ha)) (by rw [ek];exact nd) (by rw [qf,qE];omega);refine ⟨x6',x7',x8',x9',?_⟩;rw [qI,dU (t:=.tp [6,7]) (ρ1:=[s,sz,D,S,F,.dct kvs,.val (dSf q.1),.val (dS q.2.1),x8,x9]) rfl e1,e2,jh];rfl
section
variable {h:Mt->Int}
abbrev gA (s:List Mt) (sizes:T0s) (D:j0) (h:Mt->Int) (x4 x5:Ent):List Ent:=[.val (dS s),.val (dZ sizes),.val D,.val (dSh (dQ sizes h s)),x4,x5,.no,.no,.no,.no]
def lB (h:Mt->Int) (sizes:T0s) (s:List Mt):Option (Option (List (List Mt))):=
 if cN h s 0 (dQ sizes h s)=true then a0Z h (dQ sizes h s) 20000 [] [⟨[],[],byH h s,[]⟩] else some none
def a9n (hd:uV D h s) (nd:(s.map (·.1)).Nodup) (nm:∀ m∈s,jI m.1=true) (hs:s.length<64) (sz:Ent) (e:lB h sizes s=some r) (x5 x6 x7 x8 x9 x4:Ent):
  ifE (tO (aQ iL (aC (var 3) (aC (var 0) (aC (var 2) aI))))) (aQ (eB w) (aC (var 3) (aC (var 0) (aC (var 2) aI)))) (cst .none) [.val (dS s),sz,.val D,.val (dSh (dQ sizes h s)),x4,x5,x6,x7,x8,x9]=some (.ok (fiD r)):=by
 have t:tO (aQ iL (aC (var 3) (aC (var 0) (aC (var 2) aI)))) [.val (dS s),sz,.val D,.val (dSh (dQ sizes h s)),x4,x5,x6,x7,x8,x9]=some (.ok (cN h s 0 (dQ sizes h s))):=by
  rw [yL,aP (ds:=[dSh (dQ sizes h s),dS s,D]) rfl (a4c hd (by omega) _)];rfl
 have:=a9S sizes h s;rw [c0V,t];unfold lB at e;cases c:cN h s 0 (dQ sizes h s) with
 | true=>
  rw [if_pos c] at e;show aQ (eB w) (aC (var 3) (aC (var 0) (aC (var 2) aI))) [.val (dS s),sz,.val D,.val (dSh (dQ sizes h s)),x4,x5,x6,x7,x8,x9]=_;exact aP (ds:=[dSh (dQ sizes h s),dS s,D]) rfl (b3J hd nd nm hs (by omega) e)
 | false=>
  rw [if_neg (by rw [c];decide)] at e;cases e;rfl
def xQ (hd:uV D h s) (nd:(s.map (·.1)).Nodup) (nm:∀ m∈s,jI m.1=true) (hs:s.length<64) (hz:sizes.length<=1000) (e:lB h sizes s=some none):dI w [dS s,dZ sizes,D]=some (.ok .none):=by
 refine aV rfl ?_;show gW w [.val (dS s),.val (dZ sizes),.val D,.no,.no,.no,.no,.no,.no,.no]=_;unfold gW;rw [aM (ρ':=gA s sizes D h .no .no) (by rw [eI,bP (aP (ds:=[dS s,dZ sizes,D]) rfl (a3Z hd hz hs))];rfl)];rw [aM (ρ':=gA s sizes D h (.val .none) (.no)) (by rw [eI,bP (a9n hd nd nm hs _ e _ _ _ _ _ _)];rfl)];rfl
def pM (hd:uV D h s) (nd:(s.map (·.1)).Nodup) (nm:∀ m∈s,jI m.1=true) (hs:s.length<64) (hz:sizes.length<=1000) {l:List (Sf×List Mt×List Ly)} (e:lB h sizes s=some (some (l.map (·.2.1)))) (hl:l.map (·.1)=dQ sizes h s) (hq:∀ q∈l,ShP q.1 q.2.1 q.2.2)
  (ndP:(l.flatMap λq=>nmP q.2.2).Nodup) (hp:(l.flatMap λq=>nmP q.2.2).length<=1000):dI w [dS s,dZ sizes,D]=some (.ok (fV (a7w (l.map λq=>(q.1,q.2.2))))):=by
 refine aV rfl ?_;show gW w [.val (dS s),.val (dZ sizes),.val D,.no,.no,.no,.no,.no,.no,.no]=_;unfold gW;rw [aM (ρ':=gA s sizes D h .no .no) (by rw [eI,bP (aP (ds:=[dS s,dZ sizes,D]) rfl (a3Z hd hz hs))];rfl)];rw [aM (ρ':=gA s sizes D h (.val (.tuple ((l.map (·.2.1)).map dS))) (.no)) (by rw [eI,bP (a9n hd nd nm hs _ e _ _ _ _ _ _)];rfl)];rw [ifF (t:=tQ) rfl,aM (ρ':=gA s sizes D h (.val (.tuple ((l.map (·.2.1)).map dS))) (.dct [])) rfl];obtain ⟨x6,x7,x8,x9,e2⟩:=a3H (.val (dS s)) (.val (dZ sizes)) (.val D) (.val (dSh (dQ sizes h s))) (.val (.tuple ((l.map (·.2.1)).map dS))) l [] .no .no .no .no hq (by simpa using ndP) (by simpa using hp);have z:a3h (var 3) (var 4) (gA s sizes D h (.val (.tuple ((l.map (·.2.1)).map dS))) (.dct []))=some (.ok (l.map λq=>.tuple [dSf q.1,dS q.2.1])):=by
  rw [b1i (a:=(dQ sizes h s).map dSf) (b:=(l.map (·.2.1)).map dS) rfl rfl,<-hl,qT,qT];unfold b1j;rw [List.zip_map',qT];rfl
 rw [aM (by rw [pG,bP z];exact e2)];rfl
def a5R (s:List Mt) (A:List Mt):List Mt:=s.filter λm=>decide (m.1∈xA (A.map (·.1)))
def plD:Option (List (Key×j0))->j0
 | none=>.none
 | some kvs=>fV kvs
abbrev fA (s:List Mt) (sizes:T0s) (D:j0) (kvs:List (Key×j0)) (x4 x5:Ent):List Ent:=[.val (dS s),.val (dZ sizes),.val D,.dct kvs,x4,x5]
theorem a6f (hz:s.length<=1000) (pl:List Mt->Option (List (Key×j0))):∀ (Gs:List (List Mt)) (kvs:List (Key×j0)) (x4 x5:Ent),(∀ A∈Gs,dI w [dS (a5R s A),dZ sizes,D]=some (.ok (plD (pl A)))) ->
  (kvs.map (·.1)++Gs.flatMap λA=>((pl A).getD []).map (·.1)).Nodup->kvs.length+(Gs.flatMap λA=>((pl A).getD []).map (·.1)).length<=1000 ->
  ((∃ A∈Gs,pl A=none)->bX (.nm 4) (bD w) (Gs.map gD) (fA s sizes D kvs x4 x5)=some (.rt .none)) /\
  ((∀ A∈Gs,pl A≠none)->∃ x4' x5',bX (.nm 4) (bD w) (Gs.map gD) (fA s sizes D kvs x4 x5)=some (.nx (fA s sizes D (kvs++Gs.flatMap λA=>(pl A).getD []) x4' x5')))
 | [],kvs,x4,x5,_,_,_=>⟨λ⟨A,hA,_⟩=>(nomatch hA),λ_=>⟨x4,x5,by simp [bX]⟩⟩
 | A::Gs,kvs,x4,x5,hG,nd,hl=>by
  have s1:fT 5 (aQ (dI w) (aC (aQ lI (aC (var 0) (aC (var 4) aI))) (aC (var 1) (aC (var 2) aI)))) (fA s sizes D kvs (.val (gD A)) x5)=some (.nx (fA s sizes D kvs (.val (gD A)) (.val (plD (pl A))))):=by
   rw [eI,bP (aP (ds:=[dS (a5R s A),dZ sizes,D]) (aL (aP (ds:=[dS s,gD A]) rfl (a4a s _ hz)) rfl) (hG A (by simp)))];rfl
  rw [wN] at nd hl;rw [qI];cases c:pl A with
  | none=>
   rw [c] at s1;have b:bD w (fA s sizes D kvs (.val (gD A)) x5)=some (.rt .none):=by
    show aZ _ _ _=_;rw [aM s1,gK (d:=.none) rfl]
   refine ⟨λ_=>?_,λz=>absurd c (z A (by simp))⟩
   show (match bD w (fA s sizes D kvs (.val (gD A)) x5) with
    | some (.nx ρ2)=>bX (.nm 4) (bD w) (Gs.map gD) ρ2
    | some (.ct ρ2)=>bX (.nm 4) (bD w) (Gs.map gD) ρ2
    | some (.bk ρ2)=>some (.nx ρ2)
    | some (.rt d)=>some (.rt d)
    | some (.xc c ρ2)=>some (.xc c ρ2)
    | none=>none)=_
   rw [b]
  | some more=>
   rw [c] at s1 nd hl;rw [<-jh] at nd;rw [qf] at hl;have hm:(((some more:Option (List (Key×j0))).getD []).map (·.1)).length=more.length:=by simp
   have b:bD w (fA s sizes D kvs (.val (gD A)) x5)=some (.nx (fA s sizes D (kvs++more) (.val (gD A)) (.val (fV more)))):=by
    show aZ _ _ _=_;rw [aM s1,ifF (t:=rB) rfl,b1o (i:=3) (kvs:=kvs) (more:=more) rfl rfl (by omega) (by rw [qc];exact List.Nodup.sublist (List.sublist_append_left _ _) nd)];rfl
   obtain ⟨h1,h2⟩:=a6f hz pl Gs (kvs++more) (.val (gD A)) (.val (fV more)) (λB hB=>hG B (qF _ hB)) (by rw [qc];exact nd) (by rw [qf];omega);rw [dU (t:=.nm 4) (ρ1:=(fA s sizes D kvs (.val (gD A)) x5)) rfl b];refine ⟨λ⟨B,hB,e⟩=>?_,λz=>?_⟩
   ·rcases qG.mp hB with rfl | hB
    ·rw [c] at e;cases e
    ·exact h1 ⟨B,hB,e⟩
   ·obtain ⟨x4',x5',e⟩:=h2 λB hB=>z B (qF _ hB)
    refine ⟨x4',x5',?_⟩;rw [e,wN,c,jh];rfl
def b0H (nd:(s.map (·.1)).Nodup) (hz:s.length<64) (pl:List Mt->Option (List (Key×j0))) (hG:∀ A∈bI (cG s),dI w [dS (a5R s A),dZ sizes,D]=some (.ok (plD (pl A))))
  (nk:((bI (cG s)).flatMap λA=>((pl A).getD []).map (·.1)).Nodup) (hl:((bI (cG s)).flatMap λA=>((pl A).getD []).map (·.1)).length<=1000):
  ((∃ A∈bI (cG s),pl A=none)->aY w [dS s,dZ sizes,D]=some (.ok .none)) /\
  ((∀ A∈bI (cG s),pl A≠none)->aY w [dS s,dZ sizes,D]=some (.ok (fV ((bI (cG s)).flatMap λA=>(pl A).getD [])))):=by
 obtain ⟨h1,h2⟩:=a6f (w:=w) (sizes:=sizes) (D:=D) (s:=s) (by omega) pl (bI (cG s)) [] .no .no hG (by simpa using nk) (by simpa using hl);have g:tP (.nm 4) (fU (aQ oK (aC (var 0) aI))) (bD w) (fA s sizes D [] .no .no)=bX (.nm 4) (bD w) ((bI (cG s)).map gD) (fA s sizes D [] .no .no):=by
  rw [pG,fM (aP (ds:=[dS s]) rfl (a6C nd hz)) rfl];rfl
 have n:eQ w [.val (dS s),.val (dZ sizes),.val D,.no,.no,.no]=aZ (tP (.nm 4) (fU (aQ oK (aC (var 0) aI))) (bD w)) (a6v 3 (retS (var 3))) (fA s sizes D [] .no .no):=by
  unfold eQ;exact aM rfl
 refine ⟨λz=>aV rfl ?_,λz=>aV rfl ?_⟩
 ·show eQ w [.val (dS s),.val (dZ sizes),.val D,.no,.no,.no]=_
  rw [n,gK (g.trans (h1 z))]
 ·obtain ⟨x4,x5,e⟩:=h2 z
  show eQ w [.val (dS s),.val (dZ sizes),.val D,.no,.no,.no]=_;rw [n,aM (g.trans e)];rfl
end
theorem a3N:∀ (Q Q' P:List Ly),Q.map (·.1)=Q'.map (·.1)->fL P Q->fL P Q'->Q=Q'
 | [],[],_,_,_,_=>rfl
 | [],_::_,_,h,_,_=>by simp at h
 | _::_,[],_,h,_,_=>by simp at h
 | (m,r)::Q,(m',r')::Q',P,h,⟨⟨a1,a2⟩,a3⟩,⟨⟨b1,b2⟩,b3⟩=>by
  rw [qI,qI,kU] at h;obtain ⟨h1,h2⟩:=h;have h1:m=m':=h1;subst h1;have e:r=r':=by
   rcases wL r r' with z | z | z
   ·exact absurd (b2 r z) a1
   ·exact z
   ·exact absurd (a2 r' z) b1
  subst e;rw [a3N Q Q' (P++[(m,r)]) h2 a3 b3]
theorem LayOf.uniq {Q:List Ly} (h:LayOf s P) (h':LayOf s Q):P=Q:=a3N P Q [] (h.ord.trans h'.ord.symm) h.laid h'.laid
def c0N (h:a.2.1<b.2.1\/(a.2.1=b.2.1/\b.2.2<a.2.2)):ltT (kL b) (kL a)=false:=by
 show ltR [.int b.2.1,.int (-b.2.2),.str b.1] [.int a.2.1,.int (-a.2.2),.str a.1]=false;rcases h with h | ⟨h1,h2⟩
 ·have n1:¬b.2.1=a.2.1:=by omega
  simp [ltR,eqC,ltC,n1];omega
 ·have n1:¬b.2.2=a.2.2:=by omega
  simp [ltR,eqC,ltC,h1,n1];omega
def before (a b:Mt):Prop:=a.2.1<b.2.1\/(a.2.1=b.2.1/\b.2.2<a.2.2)
def xL (h:s.Pairwise before):cG s=s:=by
 refine (b4M (g:=[true,true,false]) b3b (λm=>rfl) (.refl s) ?_).symm;rw [a0x,kD];exact h.imp λ{a b} z=>c0N z
def a1E {l:T0s} (h:l.Pairwise (·<·)) (hm:∀ x,x∈l↔x∈ns):ssI ns=l:=by
 have a:=b7R ns;have na:(ssI ns).Nodup:=a.imp λ{x y} z=>by omega
 have nl:l.Nodup:=h.imp λ{x y} z=>by omega
 have p:(ssI ns).Perm l:=(List.perm_ext_iff_of_nodup na nl).mpr λx=>by rw [b5S,hm]
 exact List.Perm.eq_of_pairwise (λx y _ _ z1 z2=>by omega) a h p
variable {t:Int}
def bQ (h:∀ m∈L,m.2.1<=t/\t<m.2.2):aS L=(L.length:Nat):=by
 have e:aX L t=(L.length:Nat):=by
  unfold aX eJ;rw [qE,filter_all];exact λm hm=>eO.mpr (h m hm)
 have h1:=a8R L t;rcases b5O L with z | ⟨m,hm,z⟩
 ·omega
 ·have:aX L m.2.1<=(L.length:Nat):=by
   unfold aX eJ;rw [qE];have:=jr (cH m.2.1) L;omega
  omega
variable {X:Fl}
def dD {h:Mt->Int} {Y:Fl} (hn:X.fi.length≠sh.length) (hw:dA h sh X=[Y]) (hk:Y.mrk∉ks):a0Z h sh (n+1) ks [X]=a0Z h sh n (ks++[Y.mrk]) [Y]:=by
 rw [a0Z];dsimp only [List.getLast?_singleton,List.dropLast];rw [if_neg hn,hw];unfold addW;rw [if_neg hk];rfl
def a5D {h:Mt->Int} (hn:X.fi.length=sh.length):a0Z h sh (n+1) ks [X]=some (some X.fi):=by
 rw [a0Z];dsimp only [List.getLast?_singleton];rw [if_pos hn]
variable {y z:Mt} {few:Int}
section
variable {h:Mt->Int} {x:Mt} {more:Int}
def a3Y (hx:x.2.1<=t/\t<x.2.2) (hy:y.2.1<=t/\t<y.2.2) (h1:h x=more) (h2:h y=few) (hf:few<more) (n:Nat):
  a0Z h [(more,[0]),(few,[1])] (n+6) [] [⟨[],[],[x,y],[]⟩]=some (some [[x],[y]]):=by
 have m1:aS [x]=1:=bQ (t:=t) (by simpa using hx);have m2:aS [y]=1:=bQ (t:=t) (by simpa using hy);have m3:aS [x,y]=2:=bQ (t:=t) (by simpa using ⟨hx,hy⟩);have nf:¬more<=few:=by omega
 rw [dD (Y:=⟨[],[x],[y],[]⟩) (by simp) (by simp [dA,fZ,mG,Fl.wth,m1,h1]) (by simp)];rw [dD (Y:=⟨[],[x],[],[y]⟩) (by simp) (by simp [dA,fZ,mG,Fl.wout,cN,m1,m2,m3,h2,hf]) (by simp [Fl.mrk])];rw [dD (Y:=⟨[[x]],[],[y],[]⟩) (by simp) (by simp [dA,fZ,mG,Fl.on,m3]) (by simp [Fl.mrk])];rw [dD (Y:=⟨[[x]],[y],[],[]⟩) (by simp) (by simp [dA,fZ,mG,Fl.wth,m2,h2]) (by simp [Fl.mrk])];rw [dD (Y:=⟨[[x],[y]],[],[],[]⟩) (by simp) (by simp [dA,fZ,mG,Fl.on]) (by simp [Fl.mrk])];rw [a5D (by simp)]
def a6w (hx:x.2.1<=t/\t<x.2.2) (hy:y.2.1<=t/\t<y.2.2) (hz:z.2.1<=t/\t<z.2.2) (h1:h x=1) (h2:h y=few) (h3:h z=more) (hf:few<more) (hg:1<few) (n:Nat):
  a0Z h [(more,[0]),(few,[1]),(1,[2])] (n+10) [] [⟨[],[],[z,y,x],[]⟩]=some (some [[z],[y],[x]]):=by
 have m1:aS [x]=1:=bQ (t:=t) (by simpa using hx);have m2:aS [y]=1:=bQ (t:=t) (by simpa using hy);have m3:aS [z]=1:=bQ (t:=t) (by simpa using hz);have m4:aS [z,y]=2:=bQ (t:=t) (by simpa using ⟨hz,hy⟩);have m5:aS [z,x]=2:=bQ (t:=t) (by simpa using ⟨hz,hx⟩);have m6:aS [y,x]=2:=bQ (t:=t) (by simpa using ⟨hy,hx⟩);have o1:1<more:=by omega
 have o2:¬few<=1:=by omega
 have o3:1<=few:=by omega
 rw [dD (Y:=⟨[],[z],[y,x],[]⟩) (by simp) (by simp [dA,fZ,mG,Fl.wth,m3,h3]) (by simp)];rw [dD (Y:=⟨[],[z],[x],[y]⟩) (by simp) (by simp [dA,fZ,mG,Fl.wout,cN,m2,m4,h2,hf,o3]) (by simp [Fl.mrk])];rw [dD (Y:=⟨[],[z],[],[y,x]⟩) (by simp) (by simp [dA,fZ,mG,Fl.wout,cN,m2,m5,m6,h1,h2,o1,o2,o3]) (by simp [Fl.mrk])];rw [dD (Y:=⟨[[z]],[],[y,x],[]⟩) (by simp) (by simp [dA,fZ,mG,Fl.on,m4,m5]) (by simp [Fl.mrk])];rw [dD (Y:=⟨[[z]],[y],[x],[]⟩) (by simp) (by simp [dA,fZ,mG,Fl.wth,m2,h2]) (by simp [Fl.mrk])];rw [dD (Y:=⟨[[z]],[y],[],[x]⟩) (by simp) (by simp [dA,fZ,mG,Fl.wout,cN,m1,m6,h1,hg]) (by simp [Fl.mrk])];rw [dD (Y:=⟨[[z],[y]],[],[x],[]⟩) (by simp) (by simp [dA,fZ,mG,Fl.on,m6]) (by simp [Fl.mrk])];rw [dD (Y:=⟨[[z],[y]],[x],[],[]⟩) (by simp) (by simp [dA,fZ,mG,Fl.wth,m1,h1]) (by simp [Fl.mrk])];rw [dD (Y:=⟨[[z],[y],[x]],[],[],[]⟩) (by simp) (by simp [dA,fZ,mG,Fl.on]) (by simp [Fl.mrk])];rw [a5D (by simp)]
end
noncomputable abbrev oA:EF:=eT (.nm 0) [none,some 1,some 2] (fU (aQ pU (aC (var 0) (aC (var 2) aI)))) ttT (a8h eqD (op2 mH (var 1) (var 0)) (op2 mH (var 1) (var 2)))
noncomputable def iS:SF:=(retS (dG anyB (aC oA aI)))
noncomputable def iU:List j0->Mm j0:=bS 3 3 iS
abbrev a1B:TF:=dfT yO (var 1) (aQ fY (aC (var 0) aI))
abbrev uL:EF:=a6L 1 (.nm 0) [none] ttT (aQ mF (aC (var 0) aI))
abbrev a1z:TF:=b5G (tO (dG allB (aC uL aI)))
noncomputable abbrev a2l:EF:=eT (.nm 0) [none,some 1,some 0] (fU (aQ fY (aC (var 0) aI))) ttT (aQ iU (aC (var 2) (aC (var 1) (aC (var 0) aI))))
noncomputable def a0l:SF:=(aZ (ifS a1B (retS (cst (.bool false))) iB) (aZ (ifS a1z (retS (cst (.bool false))) iB) (retS (b5H (dG anyB (aC a2l aI))))))
noncomputable def tM:List j0->Mm j0:=bS 2 2 a0l
noncomputable abbrev b1F:TF:=orT (iC b0f (aQ cZ (aC (var 4) aI)) (oE [(.inr "a", (cst (.int 0))),(.inr "b", (cst (.int 1))),(.inr "c", (cst (.int 2))),(.inr "d", (cst (.int 0)))])) (isT true (.bool true) (aQ tM (aC (var 4) (aC (aQ cZ (aC (var 4) aI)) aI))))
noncomputable abbrev b1E:TF:=iC neD (aQ a1u (aC (var 4) aI)) (yZ (aC (dP (aC (cst (.str "a")) (aC (cst (.int 0)) (aC (cst (.int 1)) (aC (cst (.int 3)) aI))))) (aC (dP (aC (cst (.str "b")) (aC (cst (.int 1)) (aC (cst (.int 2)) (aC (cst (.int 3)) aI))))) (aC (dP (aC (cst (.str "c")) (aC (cst (.int 2)) (aC (cst (.int 3)) (aC (cst (.int 3)) aI))))) (aC (dP (aC (cst (.str "d")) (aC (cst (.int 0)) (aC (cst (.int 2)) (aC (cst (.int 3)) aI))))) aI)))))
noncomputable abbrev b1D:TF:=iC b0f (aQ cZ (aC (var 5) aI)) (oE [(.inr "a", (cst (.int 0))),(.inr "b", (cst (.int 0)))])
noncomputable abbrev b1C (w:World):TF:=iC b0f (aQ (aY w) (aC (var 8) (aC (yZ (aC (var 7) (aC (var 6) aI))) (aC (oE [(.inr "x", (var 6)),(.inr "y", (var 7))]) aI)))) (oE [(.inr "x", (cst (.int 1))),(.inr "y", (cst (.int 0)))])
noncomputable abbrev b1B (w:World):TF:=iC b0f (aQ (aY w) (aC (var 8) (aC (yZ (aC (var 7) (aC (var 6) aI))) (aC (oE [(.inr "x", (var 7)),(.inr "y", (var 6))]) aI)))) (oE [(.inr "x", (cst (.int 0))),(.inr "y", (cst (.int 1)))])
noncomputable abbrev b1A (w:World):TF:=isT true (.none) (aQ (aY w) (aC (var 8) (aC (yZ (aC (var 7) (aC (var 6) aI))) (aC (oE [(.inr "x", (var 7)),(.inr "y", (var 7))]) aI))))
noncomputable abbrev b1z (w:World):TF:=isT true (.none) (aQ (aY w) (aC (var 9) (aC (yZ (aC (var 7) (aC (var 7) aI))) (aC (var 10) aI))))
noncomputable def b3z (w:World):SF:=(aZ (b1q (.tp [1,2]) (dP (aC (aQ cS (aC (var 0) (aC (cst (.int 0)) (aC (cst (.int 300)) aI)))) (aC (op2 fF (cst (.int 4)) (aQ cS (aC (var 0) (aC (cst (.int 1)) (aC (cst (.int 30)) aI))))) aI)))) (aZ (fT 3 (op2 fF (var 1) (op2 yY (cst (.int 2)) (var 2)))) (aZ (fT 4 (dP (aC (dP (aC (cst (.str "a")) (aC (var 1) (aC (var 3) aI)))) (aC (dP (aC (cst (.str "b")) (aC (var 1) (aC (op2 fF (var 1) (var 2)) aI)))) (aC (dP (aC (cst (.str "c")) (aC (op2 fF (var 1) (cst (.int 1))) (aC (op2 fF (var 3) (var 2)) aI)))) (aC (dP (aC (cst (.str "d")) (aC (var 3) (aC (op2 fF (var 3) (var 2)) aI)))) aI)))))) (aZ (ifS b1F (retS (cst (.bool false))) iB) (aZ (ifS b1E (retS (cst (.bool false))) iB) (aZ (fT 5 (dP (aC (dP (aC (cst (.str "a")) (aC (var 1) (aC (var 3) aI)))) (aC (dP (aC (cst (.str "b")) (aC (op2 fF (var 3) (aQ cS (aC (var 0) (aC (cst (.int 2)) (aC (cst (.int 4)) aI))))) (aC (op2 fF (var 3) (var 2)) aI)))) aI)))) (aZ (ifS b1D (retS (cst (.bool false))) iB) (aZ (b1q (.tp [6,7]) (dP (aC (op2 fF (cst (.int 2)) (aQ cS (aC (var 0) (aC (cst (.int 3)) (aC (cst (.int 8)) aI))))) (aC (op2 fF (cst (.int 10)) (aQ cS (aC (var 0) (aC (cst (.int 4)) (aC (cst (.int 9)) aI))))) aI)))) (aZ (fT 8 (dP (aC (dP (aC (cst (.str "x")) (aC (var 1) (aC (var 3) aI)))) (aC (dP (aC (cst (.str "y")) (aC (op2 fF (var 1) (cst (.int 1))) (aC (var 3) aI)))) aI)))) (aZ (ifS (b1C w) (retS (cst (.bool false))) iB) (aZ (ifS (b1B w) (retS (cst (.bool false))) iB) (aZ (ifS (b1A w) (retS (cst (.bool false))) iB) (aZ (fT 9 (op2 fF (var 8) (dP (aC (dP (aC (cst (.str "z")) (aC (op2 fF (var 1) (cst (.int 2))) (aC (var 3) aI)))) aI)))) (aZ (fT 10 (oE [(.inr "x", (cst (.int 1))),(.inr "y", (var 6)),(.inr "z", (var 7))])) (aZ (ifS (b1z w) (retS (cst (.bool false))) iB) (retS (a8h b3E (aQ (aY w) (aC (var 9) (aC (yZ (aC (var 7) (aC (var 6) (aC (cst (.int 1)) aI)))) (aC (var 10) aI)))) (oE [(.inr "x", (cst (.int 2))),(.inr "y", (cst (.int 1))),(.inr "z", (cst (.int 0)))]))))))))))))))))))
noncomputable def F_law (w:World):List j0->Mm j0:=bS 11 1 (b3z w)
abbrev Lx:=List (Str×Int)
def dL (l:Lx):j0:=.dict (l.map λp=>(.str p.1,.int p.2))
def gL:Lx->Str->Int
 | [],_=>0
 | p::l,x=>if p.1=x then p.2 else gL l x
theorem b3u {x:Str}:∀ {l:Lx},x∈l.map (·.1)->mH (dL l) (.str x)=some (.int (gL l x))
 | [],h=>by simp at h
 | p::l,h=>by
  show (if (some (jZ p.1):Option Key)=some (jZ x) then some (jX p.2) else mH (dL l) (.str x))=_;unfold gL;by_cases c:p.1=x
  ·rw [if_pos (by rw [c]),if_pos c]
  ·rw [if_neg (λz=>c (vL (qB z))),if_neg c]
   have:x∈l.map (·.1):=by
    rcases qG.mp h with z | z
    ·exact absurd z.symm c
    ·exact z
   exact b3u this
def all_strs (l:T0q):fK a2Z (l.map .str)=some l:=hZ (g:=kj) (λ_=>rfl) l
theorem a4d:∀ (ns acc:T0q),(∀ x∈ns,x∉acc)->ns.Nodup->ns.foldl (λa n=>if n∈a then a else a++[n]) acc=acc++ns
 | [],acc,_,_=>by simp
 | n::ns,acc,h,nd=>by
  rw [kF] at nd
  rw [jt,if_neg (h n (by simp)),a4d ns (acc++[n]) (λx hx z=>by
   rcases jD.mp z with z | z
   ·exact h x (qF _ hx) z
   ·rw [qL] at z;subst z;exact nd.1 hx) nd.2]
  simp
def b0I {ns:T0q} (nd:ns.Nodup):uT ns=ns:=by
 have:=a4d ns [] (by simp) nd;simpa [uT] using this
section
variable {l:Lx}
def b4I (nd:(s.map (·.1)).Nodup) (hz:s.length<=10) (hl:l.length<=10):a1B [.val (dS s),.val (dL l)]=some (.ok (!(decide (l.length=s.length)&&l.all λp=>decide (p.1∈s.map (·.1))))):=by
 have e1:(aQ fY (aC (var 0) aI)) [.val (dS s),.val (dL l)]=some (.ok (.list ((s.map (·.1)).map .str))):=aP (ds:=[dS s]) rfl (a5d s (by omega));show dfT yO (var 1) (aQ fY (aC (var 0) aI)) [.val (dS s),.val (dL l)]=_;unfold dfT;rw [e1];have e2:yO (dL l) (.list ((s.map (·.1)).map .str))=some (!(decide (l.length=s.length)&&l.all λp=>decide (p.1∈s.map (·.1)))):=by
  show (match fK a2Z ((l.map λp=>(kj p.1,jX p.2)).map (·.1)),fK a2Z ((s.map (·.1)).map .str) with
   | some ks,some ns=>if ks.length<64/\ns.length<64 then some (!(decide (ks.length=(uT ns).length)&&ks.all λk=>decide (k∈uT ns))) else none
   | _,_=>none)=_
  rw [show ((l.map λp=>(kj p.1,jX p.2)).map (·.1))=(l.map (·.1)).map .str by rw [qT,qT];rfl,all_strs,all_strs];dsimp only;rw [if_pos (by rw [qE,qE];omega),b0I nd,qE,qE,List.all_map];rfl
 show lft (yO (dL l) _)=_;rw [e2];rfl
def a7K (l:Lx):tS (.nm 0) [.no] ttT (aQ mF (aC (var 0) aI)) (l.map λp=>.int p.2)=some (l.map λ_=>.bool true):=by
 induction l with
 | nil=>rfl
 | cons p l ih=>
  rw [qI];unfold tS;dsimp only [tgD,ttT,List.set];rw [aP (ds:=[.int p.2]) rfl (b6w p.2)];dsimp only;rw [ih];rfl
def b4H (hl:l.length<=10):a1z [.val (dS s),.val (dL l)]=some (.ok false):=by
 have k1:uL [.val (dS s),.val (dL l)]=some (.ok (.list (l.map λ_=>.bool true))):=by
  show a6L 1 (.nm 0) [none] ttT (aQ mF (aC (var 0) aI)) [.val (dS s),.val (dL l)]=_;unfold a6L;dsimp only [vQ,vP,dL];rw [show ((l.map λp=>(kj p.1,jX p.2)).map (·.2))=l.map λp=>.int p.2 by rw [qT];rfl]
  rw [if_pos (by
   rw [qJ];refine ⟨qe.mpr λd hd=>?_,by unfold eF;rw [qE];exact decide_eq_true (by omega)⟩
   obtain ⟨i,_,rfl⟩:=qU.mp hd;rfl)]
  rw [show bY [none] (noE [.val (dS s),.val (.dict (l.map λp=>(kj p.1,jX p.2)))])=[.no] from rfl,a7K];dsimp only;rw [if_pos (qe.mpr λd hd=>by obtain ⟨i,_,rfl⟩:=qU.mp hd;rfl)]
 show b5G (tO (dG allB (aC uL aI))) _=_;have a1:allB [.list (l.map λ_=>j0.bool true)]=some (.bool true):=by
  rw [show (l.map λ_=>j0.bool true)=(l.map λ_=>true).map .bool by rw [qT];rfl,all_bools];congr 2;rw [qe];intro b hb;obtain ⟨_,_,rfl⟩:=qU.mp hb;rfl
 rw [b8y,yL,hV (ds:=[.list (l.map λ_=>.bool true)]) (by rw [dH,k1];rfl) a1];rfl
def a0V (s:List Mt) (l:Lx) (m:Mt):Bool:=(prt s m).any λo=>decide (gL l o.1=gL l m.1)
def a9w {g:j0->j0->Option Bool} {x y:j0} {r:Bool} (ha:fa ρ=some (.ok x)) (hb:fb ρ=some (.ok y)) (h:g x y=some r):a8h g fa fb ρ=some (.ok (.bool r)):=by
 rw [b4k,ha,iX,hb,iX,h];rfl
def b3I (nd:(s.map (·.1)).Nodup) (hz:s.length<=10) (hk:∀ m∈s,m.1∈l.map (·.1)) {m:Mt} (hm:m∈s):iU [dS s,dL l,.str m.1]=some (.ok (.bool (a0V s l m))):=by
 have lp:(prt s m).length<=s.length:=jr _ _;have k1:oA [.val (dS s),.val (dL l),.val (.str m.1)]=some (.ok (.list (((prt s m).map λo=>decide (gL l o.1=gL l m.1)).map .bool))):=by
  rw [qT]
  exact dX (λo:Mt=>kj o.1) (λo=>[.val (.str o.1),.val (dL l),.val (.str m.1)]) (λo=>.bool (decide (gL l o.1=gL l m.1))) (prt s m) (fM (aP (ds:=[dS s,.str m.1]) rfl (a2B nd hm (by omega))) rfl) (by omega) (λo _=>rfl) (λo ho=>by
   have hos:o∈s:=(jk.mp ho).1
   exact a9w (cL (x:=dL l) (y:=.str o.1) rfl rfl (b3u (hk o hos))) (cL (x:=dL l) (y:=.str m.1) rfl rfl (b3u (hk m hm))) b7t)
 refine aV rfl ?_;show iS [.val (dS s),.val (dL l),.val (.str m.1)]=_;unfold iS a0V;rw [cF,hV (ds:=[.list (((prt s m).map λo=>decide (gL l o.1=gL l m.1)).map .bool)]) (by rw [dH,k1];rfl) (a9B _),wR];rfl
def b0G (nd:(s.map (·.1)).Nodup) (hz:s.length<=10) (hl:l.length=s.length) (ha:∀ p∈l,p.1∈s.map (·.1)) (hk:∀ m∈s,m.1∈l.map (·.1)):tM [dS s,dL l]=some (.ok (.bool (!s.any (a0V s l)))):=by
 refine aV rfl ?_;show a0l [.val (dS s),.val (dL l)]=_;unfold a0l;have t1:=b4I (s:=s) (l:=l) nd hz (by omega)
 rw [show (decide (l.length=s.length)&&l.all λp=>decide (p.1∈s.map (·.1)))=true by
  rw [qJ]
  exact ⟨decide_eq_true hl,qe.mpr λp hp=>decide_eq_true (ha p hp)⟩] at t1
 rw [aM (by rw [mS,t1];rfl),aM (by rw [mS,b4H (by omega)];rfl)];have k2:a2l [.val (dS s),.val (dL l)]=some (.ok (.list ((s.map (a0V s l)).map .bool))):=by
  rw [qT];exact dX (λo:Mt=>kj o.1) (λo=>[.val (.str o.1),.val (dL l),.val (dS s)]) (λo=>.bool (a0V s l o)) s (fM (aP (ds:=[dS s]) rfl (a5d s (by omega))) (by rw [qT];rfl)) (by omega) (λo _=>rfl) (λo ho=>aP (ds:=[dS s,dL l,.str o.1]) rfl (b3I nd hz hk ho))
 rw [cF,b8z,hV (ds:=[.list ((s.map (a0V s l)).map .bool)]) (by rw [dH,k2];rfl) (a9B _),wR];rfl
end
variable {l:List Mt}
section
variable (b L:Int)
abbrev mA:Mt:=("a", b,b+2*L)
abbrev mB:Mt:=("b", b,b+L)
abbrev mC:Mt:=("c", b+1,b+2*L+L)
abbrev mD:Mt:=("d", b+2*L,b+2*L+L)
abbrev s4:List Mt:=[mA b L,mB b L,mC b L,mD b L]
abbrev P4:List Ly:=[(mA b L,0),(mB b L,1),(mC b L,2),(mD b L,0)]
variable {b L} (hL:4<=L)
include hL
theorem c0Q:cG (s4 b L)=s4 b L:=by
 refine xL ?_;simp [before];omega
theorem nd4:((s4 b L).map (·.1)).Nodup:=by
 show (["a", "b", "c", "d"]:T0q).Nodup
 decide
theorem c0x:∀ m∈s4 b L,m.2.1<m.2.2:=by
 simp;omega
omit hL in
theorem b5v {b:Mt} (h:a.2.1<a.2.2/\b.2.1<b.2.2/\a.2.1<b.2.2/\b.2.1<a.2.2):ov a b:=by unfold ov;omega
omit hL in
theorem c0A {b:Mt} (h:b.2.2<=a.2.1):¬ov a b:=by unfold ov;omega
omit hL in
theorem b0b {b:Mt} (h:ov a b):ov b a:=by unfold ov at *;omega
theorem ov4:ov (mB b L) (mA b L)/\ov (mC b L) (mA b L)/\ov (mC b L) (mB b L)/\¬ov (mD b L) (mA b L)/\¬ov (mD b L) (mB b L)/\ov (mD b L) (mC b L):=by
 refine ⟨b5v ?_,b5v ?_,b5v ?_,c0A ?_,c0A ?_,b5v ?_⟩<;>dsimp only<;>omega
theorem b2V:LayOf (s4 b L) (P4 b L):=by
 refine ⟨(c0Q hL).symm,by simp,?_⟩;obtain ⟨o1,o2,o3,o4,o5,o6⟩:=ov4 (b:=b) hL;simp only [fL,taken,jq,vX,zE,List.filter_nil,decide_eq_true o1,decide_eq_true o2,decide_eq_true o3,decide_eq_false o4,decide_eq_false o5,decide_eq_true o6,if_true,qt,if_false,qI,vA];simp;omega
theorem b9u:cZ [dS (s4 b L)]=some (.ok (gY (P4 b L))):=by
 obtain ⟨P,h,_,e⟩:=a0p (L:=s4 b L) (nd4 hL) (by simp);rw [h.uniq (b2V hL)] at e;exact e
theorem c2x:bI (cG (s4 b L))=[s4 b L]:=by
 rw [c0Q hL];have h1:b<b+2*L:=by omega
 have h2:b+1<max (b+2*L) (b+L):=by omega
 have h3:b+2*L<max (max (b+2*L) (b+L)) (b+2*L+L):=by omega
 simp only [bI,fI];rw [if_pos h1,if_pos h2,if_pos h3];rfl
omit hL in
theorem pC {m:Mt} (h:m.2.1<=t/\t<m.2.2):aX (m::l) t=aX l t+1:=by
 unfold aX eJ;rw [qZ (eO.mpr h)];simp
omit hL in
theorem sC {m:Mt} (h:¬(m.2.1<=t/\t<m.2.2)):aX (m::l) t=aX l t:=by
 unfold aX eJ;rw [qd (λz=>h (eO.mp z))]
theorem c0M:aS (s4 b L)=3:=by
 have e1:aX (s4 b L) b=2:=by
  rw [pC (by show b<=b/\b<b+2*L;omega),pC (by show b<=b/\b<b+L;omega),sC (by show ¬(b+1<=b/\b<b+2*L+L);omega),sC (by show ¬(b+2*L<=b/\b<b+2*L+L);omega)];rfl
 have e2:aX (s4 b L) (b+1)=3:=by
  rw [pC (by show b<=b+1/\b+1<b+2*L;omega),pC (by show b<=b+1/\b+1<b+L;omega),pC (by show b+1<=b+1/\b+1<b+2*L+L;omega),sC (by show ¬(b+2*L<=b+1/\b+1<b+2*L+L);omega)];rfl
 have e3:aX (s4 b L) (b+2*L)=2:=by
  rw [sC (by show ¬(b<=b+2*L/\b+2*L<b+2*L);omega),sC (by show ¬(b<=b+2*L/\b+2*L<b+L);omega),pC (by show b+1<=b+2*L/\b+2*L<b+2*L+L;omega),pC (by show b+2*L<=b+2*L/\b+2*L<b+2*L+L;omega)];rfl
 unfold aS;rw [if_neg (by simp)];show a4Q [aX (s4 b L) b,aX (s4 b L) b,aX (s4 b L) (b+1),aX (s4 b L) (b+2*L)]=3;rw [e1,e2,e3];rfl
theorem a5w {m:Mt} (hm:m∈s4 b L):wid (s4 b L) m=3:=by
 have e:gof (s4 b L) m=s4 b L:=by
  have:=(iO (s:=s4 b L) hm).1;rw [c2x hL] at this;exact qL.mp this
 unfold wid grp;rw [e,filter_all (λa ha=>decide_eq_true ha)];exact c0M hL
theorem c2G:a1u [dS (s4 b L)]=some (.ok (.list [.tuple [.str "a", .int 0,.int 1,.int 3],.tuple [.str "b", .int 1,.int 2,.int 3],.tuple [.str "c", .int 2,.int 3,.int 3],.tuple [.str "d", .int 0,.int 2,.int 3]])):=by
 have ld:Laid (s4 b L) (P4 b L):=⟨b2V hL,c0x hL,nd4 hL⟩;rw [b6y ld (b9u hL) (by simp)];obtain ⟨o1,o2,o3,o4,o5,o6⟩:=ov4 (b:=b) hL;have pa:prt (s4 b L) (mA b L)=[mB b L,mC b L]:=by
  unfold prt;rw [qd (by simp),qZ (by show (!decide _&&decide _)=true;rw [decide_eq_true (b0b o1)];rfl),qZ (by show (!decide _&&decide _)=true;rw [decide_eq_true (b0b o2)];rfl),qd (by show ¬(!decide _&&decide _)=true;rw [decide_eq_false λz=>o4 (b0b z)];simp)];rfl
 have pb:prt (s4 b L) (mB b L)=[mA b L,mC b L]:=by
  unfold prt;rw [qZ (by show (!decide _&&decide _)=true;rw [decide_eq_true o1];rfl),qd (by simp),qZ (by show (!decide _&&decide _)=true;rw [decide_eq_true (b0b o3)];rfl),qd (by show ¬(!decide _&&decide _)=true;rw [decide_eq_false λz=>o5 (b0b z)];simp)];rfl
 have pc:prt (s4 b L) (mC b L)=[mA b L,mB b L,mD b L]:=by
  unfold prt;rw [qZ (by show (!decide _&&decide _)=true;rw [decide_eq_true o2];rfl),qZ (by show (!decide _&&decide _)=true;rw [decide_eq_true o3];rfl),qd (by simp),qZ (by show (!decide _&&decide _)=true;rw [decide_eq_true (b0b o6)];rfl)];rfl
 have pd:prt (s4 b L) (mD b L)=[mC b L]:=by
  unfold prt;rw [qd (by show ¬(!decide _&&decide _)=true;rw [decide_eq_false o4];simp),qd (by show ¬(!decide _&&decide _)=true;rw [decide_eq_false o5];simp),qZ (by show (!decide _&&decide _)=true;rw [decide_eq_true o6];rfl),qd (by simp)];rfl
 have la:lst (s4 b L) (P4 b L) (mA b L)=1:=by unfold lst;rw [a5w hL (by simp),pa];rfl
 have lb:lst (s4 b L) (P4 b L) (mB b L)=2:=by unfold lst;rw [a5w hL (by simp),pb];rfl
 have lc:lst (s4 b L) (P4 b L) (mC b L)=3:=by unfold lst;rw [a5w hL (by simp),pc];rfl
 have le:lst (s4 b L) (P4 b L) (mD b L)=2:=by unfold lst;rw [a5w hL (by simp),pd];rfl
 show some (Re.ok (vk [dB _ _ (mA b L),dB _ _ (mB b L),dB _ _ (mC b L),dB _ _ (mD b L)]))=_;unfold dB;rw [la,lb,lc,le,a5w hL (m:=mA b L) (by simp),a5w hL (m:=mB b L) (by simp),a5w hL (m:=mC b L) (by simp),a5w hL (m:=mD b L) (by simp)];rfl
abbrev l4:Lx:=[("a", 0),("b", 1),("c", 2),("d", 0)]
theorem is4:tM [dS (s4 b L),gY (P4 b L)]=some (.ok (.bool true)):=by
 have e:=b0G (s:=s4 b L) (l:=l4) (nd4 hL) (by simp) (by simp) (by simp) (by simp);have z:(!(s4 b L).any (a0V (s4 b L) l4))=true:=by
  rw [zW,wQ];intro m hm;have ld:Laid (s4 b L) (P4 b L):=⟨b2V hL,c0x hL,nd4 hL⟩;unfold a0V;rw [Bool.not_eq_true,wQ];intro o ho;rw [decide_eq_true_eq];obtain ⟨h1,h2,h3⟩:=(a8S ld hm).mp ho;have q:=ld.col_ne hm h1 (jJ h2) h3;intro z;refine q ?_;have k:∀ a∈s4 b L,gL l4 a.1=cl (P4 b L) a:=by
   intro a ha;simp only [qG,ql,or_false] at ha;rcases ha with rfl | rfl | rfl | rfl<;>rfl
  rw [<-k m hm,<-k o h1,z]
 rw [z] at e;exact e
omit hL
theorem b2S {k:Int} (hL:4<=L) (h0:0<=k) (h1:k<4):cZ [dS [mA b L,("b", b+2*L+k,b+2*L+L)]]=some (.ok (gY [(mA b L,0),(("b", b+2*L+k,b+2*L+L),0)])):=by
 obtain ⟨P,h,_,e⟩:=a0p (L:=[mA b L,("b", b+2*L+k,b+2*L+L)]) (by show (["a", "b"]:T0q).Nodup;decide) (by simp);have o:¬ov ("b", b+2*L+k,b+2*L+L) (mA b L):=by simp only [ov];omega
 have l:LayOf [mA b L,("b", b+2*L+k,b+2*L+L)] [(mA b L,0),(("b", b+2*L+k,b+2*L+L),0)]:=by
  refine ⟨(xL ?_).symm,by simp,?_⟩
  ·simp [before];omega
  ·simp only [fL,taken,jq,zE,List.filter_nil,decide_eq_false o,qt,if_false,vA]
   simp
 rw [h.uniq l] at e;exact e
end
def a4B {m:Mt} (h:0<f.2.length):ShP f [m] [(m,0)]:=by
 obtain ⟨P,hP,_,e⟩:=a0p (L:=[m]) (by simp) (by simp);have l:LayOf [m] [(m,0)]:=⟨(xL (by simp)).symm,by simp,by simp [fL,taken]⟩;rw [hP.uniq l] at e;exact ⟨e,by simpa using h⟩
section
variable {b e more:Int}
abbrev mX (b e:Int):Mt:=("x", b,e)
abbrev mY (b e:Int):Mt:=("y", b+1,e)
abbrev mZ (b e:Int):Mt:=("z", b+2,e)
def hh (p q r:Int):Mt->Int:=λm=>if m.1 = "x" then p else if m.1 = "y" then q else r
abbrev D2 (p q:Int):j0:=.dict [(.str "x", .int p),(.str "y", .int q)]
abbrev D3 (p q r:Int):j0:=.dict [(.str "x", .int p),(.str "y", .int q),(.str "z", .int r)]
def b2u:a5R s s=s:=by
 unfold a5R;exact filter_all λm hm=>decide_eq_true ((lJ _).mem_iff.mpr (jo hm))
def xP (nd:(s.map (·.1)).Nodup) (hz:s.length<64) (hg:bI (cG s)=[s]) {pl:Option (List (Key×j0))} (e:dI w [dS s,.list (sizes.map .int),D]=some (.ok (plD pl))) (nk:((pl.getD []).map (·.1)).Nodup) (hl:(pl.getD []).length<=1000):
  aY w [dS s,.list (sizes.map .int),D]=some (.ok (plD pl)):=by
 obtain ⟨h1,h2⟩:=b0H (w:=w) (sizes:=sizes) (D:=D) nd hz (λ_=>pl) (by rw [hg];intro A hA;rw [qL.mp hA,b2u];exact e) (by rw [hg];simpa using nk) (by rw [hg];simpa using hl);rw [hg] at h1 h2;cases pl with
 | none=>exact h1 ⟨s,by simp,rfl⟩
 | some kvs=>
  have:=h2 (by simp);simpa [plD] using this
variable (he:b+8<=e)
include he
theorem tX:(mX b e).2.1<=b+2/\b+2<(mX b e).2.2:=by show b<=b+2/\b+2<e;omega
theorem tY:(mY b e).2.1<=b+2/\b+2<(mY b e).2.2:=by show b+1<=b+2/\b+2<e;omega
theorem tZ:(mZ b e).2.1<=b+2/\b+2<(mZ b e).2.2:=by show b+2<=b+2/\b+2<e;omega
theorem b9a:bI (cG [mX b e,mY b e])=[[mX b e,mY b e]]:=by
 rw [xL (by simp [before];omega)];simp only [bI,fI];rw [if_pos (show b+1<e by omega)];rfl
theorem c0Y:bI (cG [mX b e,mY b e,mZ b e])=[[mX b e,mY b e,mZ b e]]:=by
 rw [xL (by simp [before];omega)];simp only [bI,fI];rw [if_pos (show b+1<e by omega),if_pos (show b+2<max e e by omega)];rfl
omit he
theorem nd2:([mX b e,mY b e].map (·.1)).Nodup:=by show (["x", "y"]:T0q).Nodup;decide
theorem nd3:([mX b e,mY b e,mZ b e].map (·.1)).Nodup:=by show (["x", "y", "z"]:T0q).Nodup;decide
theorem nm2:∀ m∈[mX b e,mY b e],jI m.1=true:=by
 intro m hm;simp only [qG,ql,or_false] at hm;rcases hm with rfl | rfl
 ·exact (by kernel_rfl:jI ("x" : Str)=true)
 ·exact (by kernel_rfl:jI ("y" : Str)=true)
theorem nm3:∀ m∈[mX b e,mY b e,mZ b e],jI m.1=true:=by
 intro m hm;simp only [qG,ql,or_false] at hm;rcases hm with rfl | rfl | rfl
 ·exact (by kernel_rfl:jI ("x" : Str)=true)
 ·exact (by kernel_rfl:jI ("y" : Str)=true)
 ·exact (by kernel_rfl:jI ("z" : Str)=true)
theorem hd2 (p q r:Int):uV (D2 p q) (hh p q r) [mX b e,mY b e]:=by
 intro m hm;simp only [qG,ql,or_false] at hm;rcases hm with rfl | rfl<;>rfl
theorem hd3 (p q r:Int):uV (D3 p q r) (hh p q r) [mX b e,mY b e,mZ b e]:=by
 intro m hm;simp only [qG,ql,or_false] at hm;rcases hm with rfl | rfl | rfl<;>rfl
theorem a6b {h:Mt->Int} {c:Mt} (z:h a<h c):ltT (kH h c) (kH h a)=true/\ltT (kH h a) (kH h c)=false:=by
 constructor
 ·show ltR [.int (-(h c)),.str c.1] [.int (-(h a)),.str a.1]=true
  have n1:¬h c=h a:=by omega
  simp [ltR,eqC,ltC,n1];omega
 ·show ltR [.int (-(h a)),.str a.1] [.int (-(h c)),.str c.1]=false
  have n1:¬h a=h c:=by omega
  simp [ltR,eqC,ltC,n1];omega
theorem by2 {h:Mt->Int} {x:Mt} (z:h x<h y):byH h [x,y]=[y,x]:=by
 show rL (kH h) x (rL (kH h) y [])=_;simp only [rL];rw [if_pos (a6b z).1]
theorem c2F {h:Mt->Int} {x:Mt} (z:h y<h x):byH h [x,y]=[x,y]:=by
 show rL (kH h) x (rL (kH h) y [])=_;simp only [rL];rw [if_neg (by rw [(a6b z).2];decide)]
theorem by3 {h:Mt->Int} {x:Mt} (h1:h x<h y) (h2:h y<h z):byH h [x,y,z]=[z,y,x]:=by
 show rL (kH h) x (rL (kH h) y (rL (kH h) z []))=_;simp only [rL];rw [if_pos (a6b h2).1];simp only [rL];rw [if_pos (a6b (show h x<h z by omega)).1,if_pos (a6b h1).1]
theorem rm2 (hf:few<more):rV [more,few] none [more,few]=[(more,[0]),(few,[1])]:=by
 have n:¬more<=few:=by omega
 simp only [rV,yT];rw [show qm ([more,few]:T0s).length=[0,1] from rfl];simp [zE,n,hf]
variable (he:b+8<=e) (hf:few<more)
include he hf
theorem b9S:aY w [dS [mX b e,mY b e],.list [.int more,.int few],D2 few more]=some (.ok (fV [(.inr "y", .int 0),(.inr "x", .int 1)])):=by
 have hx:=tX he;have hy:=tY he;refine xP (sizes:=[more,few]) nd2 (by simp) (b9a he) (pl:=some [(.inr "y", .int 0),(.inr "x", .int 1)]) ?_ (by decide) (by simp);have sh:dQ [more,few] (hh few more 0) [mX b e,mY b e]=[(more,[0]),(few,[1])]:=by
  unfold dQ;show rV _ none (ssI [few,more]).reverse=_;rw [a1E (l:=[few,more]) (by simpa using hf) (λ_=>Iff.rfl)];exact rm2 hf
 refine pM (h:=hh few more 0) (l:=[((more,[0]),[mY b e],[(mY b e,0)]),((few,[1]),[mX b e],[(mX b e,0)])]) (hd2 few more 0) nd2 nm2 (by simp) (by simp) ?_ sh.symm ?_ (by show ([.inr "y", .inr "x"]:List Key).Nodup;decide) (by show (2:Nat)<=1000;decide)
 ·unfold lB
  rw [sh,if_pos,by2 (show hh few more 0 (mX b e)<hh few more 0 (mY b e) from hf)]
  ·exact a3Y hy hx rfl rfl hf 19994
  ·have m1:aS [mY b e]=1:=bQ (t:=b+2) (by simpa using hy)
   have m2:aS [mX b e,mY b e]=2:=bQ (t:=b+2) (by simp;omega);have n:¬more<=few:=by omega
   have e1:hh few more 0 (mX b e)=few:=rfl;have e2:hh few more 0 (mY b e)=more:=rfl;have o:few<=more:=by omega
   simp [cN,e1,e2,n,m1,m2,o]
 ·intro q hq
  simp only [qG,ql,or_false] at hq;rcases hq with rfl | rfl<;>exact a4B Nat.one_pos
theorem b9R:aY w [dS [mX b e,mY b e],.list [.int more,.int few],D2 more few]=some (.ok (fV [(.inr "x", .int 0),(.inr "y", .int 1)])):=by
 have hx:=tX he;have hy:=tY he;refine xP (sizes:=[more,few]) nd2 (by simp) (b9a he) (pl:=some [(.inr "x", .int 0),(.inr "y", .int 1)]) ?_ (by decide) (by simp);have sh:dQ [more,few] (hh more few 0) [mX b e,mY b e]=[(more,[0]),(few,[1])]:=by
  unfold dQ;show rV _ none (ssI [more,few]).reverse=_;rw [a1E (l:=[few,more]) (by simpa using hf) (λx=>by simp [or_comm])];exact rm2 hf
 refine pM (h:=hh more few 0) (l:=[((more,[0]),[mX b e],[(mX b e,0)]),((few,[1]),[mY b e],[(mY b e,0)])]) (hd2 more few 0) nd2 nm2 (by simp) (by simp) ?_ sh.symm ?_ (by show ([.inr "x", .inr "y"]:List Key).Nodup;decide) (by show (2:Nat)<=1000;decide)
 ·unfold lB
  rw [sh,if_pos,c2F (show hh more few 0 (mY b e)<hh more few 0 (mX b e) from hf)]
  ·exact a3Y hx hy rfl rfl hf 19994
  ·have m1:aS [mX b e]=1:=bQ (t:=b+2) (by simpa using hx)
   have m2:aS [mX b e,mY b e]=2:=bQ (t:=b+2) (by simp;omega);have n:¬more<=few:=by omega
   have e1:hh more few 0 (mX b e)=more:=rfl;have e2:hh more few 0 (mY b e)=few:=rfl;have o:few<=more:=by omega
   simp [cN,e1,e2,n,m1,m2,o]
 ·intro q hq
  simp only [qG,ql,or_false] at hq;rcases hq with rfl | rfl<;>exact a4B Nat.one_pos
theorem b9Q:aY w [dS [mX b e,mY b e],.list [.int more,.int few],D2 more more]=some (.ok .none):=by
 have hx:=tX he;have hy:=tY he;refine xP (sizes:=[more,few]) nd2 (by simp) (b9a he) (pl:=none) ?_ (by simp) (by simp);have n:¬more<=few:=by omega
 have sh:dQ [more,few] (hh more more 0) [mX b e,mY b e]=[(more,[0])]:=by
  unfold dQ;show rV _ none (ssI [more,more]).reverse=_;rw [a1E (l:=[more]) (by simp) (λx=>by simp)];simp only [wM,wZ,jq,rV,yT];rw [show qm ([more,few]:T0s).length=[0,1] from rfl];simp [zE,n]
 refine xQ (h:=hh more more 0) (hd2 more more 0) nd2 nm2 (by simp) (by simp) ?_;unfold lB;rw [sh,if_neg];have m2:aS [mX b e,mY b e]=2:=bQ (t:=b+2) (by simp;omega);have e1:hh more more 0 (mX b e)=more:=rfl;have e2:hh more more 0 (mY b e)=more:=rfl;simp [cN,e1,e2,m2]
variable (hg:1<few)
include hg
theorem b4F:aY w [dS [mX b e,mY b e,mZ b e],.list [.int more,.int more],D3 1 few more]=some (.ok .none):=by
 have hx:=tX he;have hy:=tY he;have hz:=tZ he;refine xP (sizes:=[more,more]) nd3 (by simp) (c0Y he) (pl:=none) ?_ (by simp) (by simp);have n:¬more<=few:=by omega
 have n1:¬few<=1:=by omega
 have n2:¬more<=1:=by omega
 have o1:1<=few:=by omega
 have o2:1<=more:=by omega
 have o3:few<=more:=by omega
 have sh:dQ [more,more] (hh 1 few more) [mX b e,mY b e,mZ b e]=[(more,[0,1]),(few,[]),(1,[])]:=by
  unfold dQ;show rV _ none (ssI [1,few,more]).reverse=_;rw [a1E (l:=[1,few,more]) (by simp;omega) (λ_=>Iff.rfl)];simp only [wM,wZ,jq,vX,rV,yT];rw [show qm ([more,more]:T0s).length=[0,1] from rfl];have n3:¬more<few:=by omega
  simp [zE,n,n3]
 refine xQ (h:=hh 1 few more) (hd3 1 few more) nd3 nm3 (by simp) (by simp) ?_;unfold lB;rw [sh,if_neg];have m1:aS [mZ b e]=1:=bQ (t:=b+2) (by simpa using hz);have m2:aS [mY b e,mZ b e]=2:=bQ (t:=b+2) (by simp;omega);have m3:aS [mX b e,mY b e,mZ b e]=3:=bQ (t:=b+2) (by simp;omega);have e1:hh 1 few more (mX b e)=1:=rfl;have e2:hh 1 few more (mY b e)=few:=rfl;have e3:hh 1 few more (mZ b e)=more:=rfl;simp [cN,e1,e2,e3,m1,m2,m3,n,n1,n2,o1,o2,o3]
theorem b4E:aY w [dS [mX b e,mY b e,mZ b e],.list [.int more,.int few,.int 1],D3 1 few more]=some (.ok (fV [(.inr "z", .int 0),(.inr "y", .int 1),(.inr "x", .int 2)])):=by
 have hx:=tX he;have hy:=tY he;have hz:=tZ he;refine xP (sizes:=[more,few,1]) nd3 (by simp) (c0Y he) (pl:=some [(.inr "z", .int 0),(.inr "y", .int 1),(.inr "x", .int 2)]) ?_ (by decide) (by simp);have n:¬more<=few:=by omega
 have n1:¬few<=1:=by omega
 have n2:¬more<=1:=by omega
 have o1:1<=few:=by omega
 have o2:1<=more:=by omega
 have o3:few<=more:=by omega
 have sh:dQ [more,few,1] (hh 1 few more) [mX b e,mY b e,mZ b e]=[(more,[0]),(few,[1]),(1,[2])]:=by
  unfold dQ;show rV _ none (ssI [1,few,more]).reverse=_;rw [a1E (l:=[1,few,more]) (by simp;omega) (λ_=>Iff.rfl)];simp only [wM,wZ,jq,vX,rV,yT];rw [show qm ([more,few,1]:T0s).length=[0,1,2] from rfl];simp [zE,n,n1,n2,o1,o2,o3,hf,hg]
 refine pM (h:=hh 1 few more) (l:=[((more,[0]),[mZ b e],[(mZ b e,0)]),((few,[1]),[mY b e],[(mY b e,0)]),((1,[2]),[mX b e],[(mX b e,0)])]) (hd3 1 few more) nd3 nm3 (by simp) (by simp) ?_ sh.symm ?_ (by show ([.inr "z", .inr "y", .inr "x"]:List Key).Nodup;decide) (by show (3:Nat)<=1000;decide)
 ·unfold lB
  rw [sh,if_pos,by3 (show hh 1 few more (mX b e)<hh 1 few more (mY b e) from hg) (show hh 1 few more (mY b e)<hh 1 few more (mZ b e) from hf)]
  ·exact a6w hx hy hz rfl rfl rfl hf hg 19990
  ·have m1:aS [mZ b e]=1:=bQ (t:=b+2) (by simpa using hz)
   have m2:aS [mY b e,mZ b e]=2:=bQ (t:=b+2) (by simp;omega);have m3:aS [mX b e,mY b e,mZ b e]=3:=bQ (t:=b+2) (by simp;omega);have e1:hh 1 few more (mX b e)=1:=rfl;have e2:hh 1 few more (mY b e)=few:=rfl;have e3:hh 1 few more (mZ b e)=more:=rfl;simp [cN,e1,e2,e3,m1,m2,m3,n,n1,n2,o1,o2,o3]
 ·intro q hq
  simp only [qG,ql,or_false] at hq;rcases hq with rfl | rfl | rfl<;>exact a4B Nat.one_pos
end
def lD {ps:List (Key×EF)} {l:List (Key×j0)} (h:a2D ps ρ=some l) (nd:(l.map (·.1)).Nodup) (hz:l.length<=15):oE ps ρ=some (.ok (fV l)):=by
 unfold oE;rw [h];dsimp only;rw [if_pos (by rw [decide_eq_true nd,decide_eq_true hz];rfl)];rfl
def xF {k m:Int} (hρ:∃ r,ρ=.val (dN ns)::r) (h0:0<=k) (hm:0<m):aQ cS (aC (var 0) (aC (cst (.int k)) (aC (cst (.int m)) aI))) ρ=some (.ok (.int (pickOf ns k m))):=by
 obtain ⟨r,rfl⟩:=hρ;exact aP (ds:=[dN ns,.int k,.int m]) rfl (b9i ns k m h0 hm)
abbrev qA (N S4 S2:j0) (b L e few more:Int) (x y z:Ent):List Ent:=[.val N,.val (.int b),.val (.int L),.val (.int e),.val S4,.val S2,.val (.int few),.val (.int more),x,y,z]
def e_law (w:World) (ns:T0s) (hl:ns.length<=63):F_law w [dN ns]=some (.ok (.bool true)):=by
 refine aV rfl ?_;show b3z w [.val (dN ns),.no,.no,.no,.no,.no,.no,.no,.no,.no,.no]=_;have b0:=xE ns 0 (many:=300) (by decide);have l0:=xE ns 1 (many:=30) (by decide);have k0:=xE ns 2 (many:=4) (by decide);have k1:=a8F ns 2 (many:=4) (by decide);have f0:=xE ns 3 (many:=8) (by decide);have f1:=a8F ns 3 (many:=8) (by decide);have g0:=xE ns 4 (many:=9) (by decide);have p0:∀ r,aQ cS (aC (var 0) (aC (cst (.int 0)) (aC (cst (.int 300)) aI))) (.val (dN ns)::r)=some (.ok (.int (pickOf ns 0 300))):=λr=>xF ⟨r,rfl⟩ (by decide) (by decide);have p1:∀ r,aQ cS (aC (var 0) (aC (cst (.int 1)) (aC (cst (.int 30)) aI))) (.val (dN ns)::r)=some (.ok (.int (pickOf ns 1 30))):=λr=>xF ⟨r,rfl⟩ (by decide) (by decide);have p2:∀ r,aQ cS (aC (var 0) (aC (cst (.int 2)) (aC (cst (.int 4)) aI))) (.val (dN ns)::r)=some (.ok (.int (pickOf ns 2 4))):=λr=>xF ⟨r,rfl⟩ (by decide) (by decide);have p3:∀ r,aQ cS (aC (var 0) (aC (cst (.int 3)) (aC (cst (.int 8)) aI))) (.val (dN ns)::r)=some (.ok (.int (pickOf ns 3 8))):=λr=>xF ⟨r,rfl⟩ (by decide) (by decide);have p4:∀ r,aQ cS (aC (var 0) (aC (cst (.int 4)) (aC (cst (.int 9)) aI))) (.val (dN ns)::r)=some (.ok (.int (pickOf ns 4 9))):=λr=>xF ⟨r,rfl⟩ (by decide) (by decide);generalize pickOf ns 0 300=b at *;generalize hL:4+pickOf ns 1 30=L at *;generalize pickOf ns 2 4=k at *;generalize hF:2+pickOf ns 3 8=few at *;generalize hM:10+pickOf ns 4 9=more at *;have L4:4<=L:=by omega
 have fm:few<more:=by omega
 have f2:1<few:=by omega
 have e8:b+8<=b+2*L:=by omega
 generalize hN:dN ns=N at *;unfold b3z
 rw [aM (ρ':=[.val N,.val (.int b),.val (.int L),.no,.no,.no,.no,.no,.no,.no,.no]) (by
  rw [b1p,rN,aL (p0 _) (aL (cL rfl (p1 _) uU) rfl),hL];rfl)]
 rw [aM (ρ':=[.val N,.val (.int b),.val (.int L),.val (.int (b+2*L)),.no,.no,.no,.no,.no,.no,.no]) (by
  rw [eI,cL (x:=.int b) (y:=.int (2*L)) rfl (cL (x:=.int 2) (y:=.int L) rfl rfl (a8P (by decide) (by decide))) uU];rfl)]
 rw [aM (ρ':=[.val N,.val (.int b),.val (.int L),.val (.int (b+2*L)),.val (dS (s4 b L)),.no,.no,.no,.no,.no,.no]) rfl];have t1:b1F [.val N,.val (.int b),.val (.int L),.val (.int (b+2*L)),.val (dS (s4 b L)),.no,.no,.no,.no,.no,.no]=some (.ok false):=by
  refine c0B (gZ (aP (ds:=[dS (s4 b L)]) rfl (b9u L4)) (lD (l:=[(.inr "a", .int 0),(.inr "b", .int 1),(.inr "c", .int 2),(.inr "d", .int 0)]) rfl (by decide) (by decide)) ?_) ?_
  ·kernel_rfl
  ·rw [b3g,aP (ds:=[dS (s4 b L),gY (P4 b L)]) (aL rfl (aL (aP (ds:=[dS (s4 b L)]) rfl (b9u L4)) rfl)) (is4 L4)];rfl
 rw [ifF t1];have t2:b1E [.val N,.val (.int b),.val (.int L),.val (.int (b+2*L)),.val (dS (s4 b L)),.no,.no,.no,.no,.no,.no]=some (.ok false):=by
  refine gZ (aP (ds:=[dS (s4 b L)]) rfl (c2G L4)) (y:=.list [.tuple [.str "a", .int 0,.int 1,.int 3],.tuple [.str "b", .int 1,.int 2,.int 3],.tuple [.str "c", .int 2,.int 3,.int 3],.tuple [.str "d", .int 0,.int 2,.int 3]]) rfl ?_
  kernel_rfl
 rw [ifF t2]
 rw [aM (ρ':=[.val N,.val (.int b),.val (.int L),.val (.int (b+2*L)),.val (dS (s4 b L)),.val (dS [mA b L,("b", b+2*L+k,b+2*L+L)]),.no,.no,.no,.no,.no]) (by
  have q:op2 fF (var 3) (aQ cS (aC (var 0) (aC (cst (.int 2)) (aC (cst (.int 4)) aI)))) [.val N,.val (.int b),.val (.int L),.val (.int (b+2*L)),.val (dS (s4 b L)),.no,.no,.no,.no,.no,.no]=some (.ok (.int (b+2*L+k))):=cL rfl (p2 _) uU;have q2:dP (aC (cst (.str "b")) (aC (op2 fF (var 3) (aQ cS (aC (var 0) (aC (cst (.int 2)) (aC (cst (.int 4)) aI))))) (aC (op2 fF (var 3) (var 2)) aI))) [.val N,.val (.int b),.val (.int L),.val (.int (b+2*L)),.val (dS (s4 b L)),.no,.no,.no,.no,.no,.no]=some (.ok (dM ("b", b+2*L+k,b+2*L+L))):=by
   rw [rN,aL rfl (aL q rfl)];rfl
  rw [eI,rN,aL (x:=dM (mA b L)) rfl (aL q2 rfl)];rfl)]
 have t3:b1D [.val N,.val (.int b),.val (.int L),.val (.int (b+2*L)),.val (dS (s4 b L)),.val (dS [mA b L,("b", b+2*L+k,b+2*L+L)]),.no,.no,.no,.no,.no]=some (.ok false):=by
  refine gZ (aP (ds:=[dS [mA b L,("b", b+2*L+k,b+2*L+L)]]) rfl (b2S L4 k0 k1)) (lD (l:=[(.inr "a", .int 0),(.inr "b", .int 0)]) rfl (by decide) (by decide)) ?_
  kernel_rfl
 rw [ifF t3];generalize dS (s4 b L)=S4;generalize dS [mA b L,("b", b+2*L+k,b+2*L+L)]=S2;generalize b+2*L=e at *
 rw [aM (ρ':=(qA N S4 S2 b L e few more .no .no .no)) (by
  rw [b1p,rN,aL (cL rfl (p3 _) uU) (aL (cL rfl (p4 _) uU) rfl),hF,hM];rfl)]
 rw [aM (ρ':=(qA N S4 S2 b L e few more (.val (dS [mX b e,mY b e])) .no .no)) rfl];have t4:b1C w (qA N S4 S2 b L e few more (.val (dS [mX b e,mY b e])) .no .no)=some (.ok false):=by
  refine gZ (aP (ds:=[dS [mX b e,mY b e],.list [.int more,.int few],D2 few more]) (aL rfl (aL rfl (aL (lD (l:=[(.inr "x", .int few),(.inr "y", .int more)]) rfl (by show ([.inr "x", .inr "y"]:List Key).Nodup;decide) (by show (2:Nat)<=15;decide)) rfl))) (b9S e8 fm)) (lD (l:=[(.inr "x", .int 1),(.inr "y", .int 0)]) rfl (by decide) (by decide)) ?_
  kernel_rfl
 rw [ifF t4];have t5:b1B w (qA N S4 S2 b L e few more (.val (dS [mX b e,mY b e])) .no .no)=some (.ok false):=by
  refine gZ (aP (ds:=[dS [mX b e,mY b e],.list [.int more,.int few],D2 more few]) (aL rfl (aL rfl (aL (lD (l:=[(.inr "x", .int more),(.inr "y", .int few)]) rfl (by show ([.inr "x", .inr "y"]:List Key).Nodup;decide) (by show (2:Nat)<=15;decide)) rfl))) (b9R e8 fm)) (lD (l:=[(.inr "x", .int 0),(.inr "y", .int 1)]) rfl (by decide) (by decide)) ?_
  kernel_rfl
 rw [ifF t5];have t6:b1A w (qA N S4 S2 b L e few more (.val (dS [mX b e,mY b e])) .no .no)=some (.ok false):=by
  show isT _ _ _ _=_;rw [b3g,aP (ds:=[dS [mX b e,mY b e],.list [.int more,.int few],D2 more more]) (aL rfl (aL rfl (aL (lD (l:=[(.inr "x", .int more),(.inr "y", .int more)]) rfl (by show ([.inr "x", .inr "y"]:List Key).Nodup;decide) (by show (2:Nat)<=15;decide)) rfl))) (b9Q e8 fm)];rfl
 rw [ifF t6];rw [aM (ρ':=(qA N S4 S2 b L e few more (.val (dS [mX b e,mY b e])) (.val (dS [mX b e,mY b e,mZ b e])) .no)) rfl]
 rw [aM (ρ':=(qA N S4 S2 b L e few more (.val (dS [mX b e,mY b e])) (.val (dS [mX b e,mY b e,mZ b e])) (.val (D3 1 few more)))) (by
  rw [eI,lD (l:=[(.inr "x", .int 1),(.inr "y", .int few),(.inr "z", .int more)]) rfl (by show ([.inr "x", .inr "y", .inr "z"]:List Key).Nodup;decide) (by show (3:Nat)<=15;decide)];rfl)]
 have t7:b1z w (qA N S4 S2 b L e few more (.val (dS [mX b e,mY b e])) (.val (dS [mX b e,mY b e,mZ b e])) (.val (D3 1 few more)))=some (.ok false):=by
  show isT _ _ _ _=_;rw [b3g,aP (ds:=[dS [mX b e,mY b e,mZ b e],.list [.int more,.int more],D3 1 few more]) rfl (b4F e8 fm f2)];rfl
 rw [ifF t7,cF,a9w (aP (ds:=[dS [mX b e,mY b e,mZ b e],.list [.int more,.int few,.int 1],D3 1 few more]) rfl (b4E e8 fm f2)) (lD (l:=[(.inr "x", .int 2),(.inr "y", .int 1),(.inr "z", .int 0)]) rfl (by decide) (by decide)) (r:=true) (by kernel_rfl)];rfl
end L2.L3
namespace L2.L3
open PySem PySem.Spec PyProof.Rows
def top (i:Nat):Stmt:=PySem.Challenge.pw_daysheet_k97_whole_rooms_by_hand.main.body.getD i (.Pass ⟨0,0,0,0⟩)
structure Blt (mg:T0d):Prop where
 b_all:mg "all" = none
 b_any:mg "any" = none
 b_bool:mg "bool" = none
 b_dict:mg "dict" = none
 b_enumerate:mg "enumerate" = none
 b_int:mg "int" = none
 b_isinstance:mg "isinstance" = none
 b_len:mg "len" = none
 b_max:mg "max" = none
 b_min:mg "min" = none
 b_reversed:mg "reversed" = none
 b_set:mg "set" = none
 b_sorted:mg "sorted" = none
 b_tuple:mg "tuple" = none
 b_zip:mg "zip" = none
theorem _root_.L2.Room.m (hr:Room k A) (h:j<=k:=by decide):Room j A:=hr.mono h
section
variable (P:Program) (w:World) (K:qC) (mg:T0d) (base:Heap)
abbrev a7b:Prop:=bC P w K mg base "_law_cell" 1 ["_law_script", "_law_k"] a2O
abbrev a7a:Prop:=bC P w K mg base "_law_pick" 2 ["_law_script", "_law_k", "_law_many"] cS
abbrev iA:Prop:=bC P w K mg base "in_laying_order" 5 ["sheet"] eL
abbrev a0C:Prop:=bC P w K mg base "overlap" 1 ["one", "other"] oI
abbrev yJ:Prop:=bC P w K mg base "first_free" 1 ["taken"] pY
abbrev rJ:Prop:=bC P w K mg base "laid_meetings" 6 ["sheet"] fQ
abbrev tN:Prop:=CalleeD P w K mg base "columns" 7 ["sheet"] cZ
abbrev a2S:Prop:=bC P w K mg base "names_at" 1 ["sheet", "moment"] pV
abbrev a4o:Prop:=bC P w K mg base "load_at" 2 ["sheet", "moment"] tL
abbrev eX:Prop:=bC P w K mg base "most_at_once" 3 ["sheet"] cR
abbrev a0B:Prop:=bC P w K mg base "part_of" 1 ["sheet", "names"] lI
abbrev a2U:Prop:=bC P w K mg base "groups" 6 ["sheet"] oK
abbrev a2V:Prop:=bC P w K mg base "group_of" 7 ["sheet", "name"] pX
abbrev a2R:Prop:=bC P w K mg base "width_of" 8 ["sheet", "name"] pS
abbrev yH:Prop:=bC P w K mg base "meeting_of" 1 ["sheet", "name"] pW
abbrev uX:Prop:=bC P w K mg base "partners" 2 ["sheet", "name"] pU
abbrev a7c:Prop:=bC P w K mg base "box_of" 9 ["sheet", "laying", "name"] a2P
abbrev uY:Prop:=bC P w K mg base "names_of" 1 ["sheet"] fY
abbrev a9C:Prop:=bC P w K mg base "boxes" 10 ["sheet"] a1u
abbrev yG:Prop:=bC P w K mg base "shelves_of" 1 ["sheet", "sizes", "heads"] pT
abbrev a0D:Prop:=bC P w K mg base "may_fit" 4 ["shelves", "meetings", "heads"] iL
abbrev mT:Prop:=MethF P w K mg base "without_first" 3 bW
abbrev sP:Prop:=MethF P w K mg base "with_first" 3 eA
abbrev oM:Prop:=bC P w K mg base "ways_for_first" 5 ["shelves", "heads", "filling"] fG
abbrev sQ:Prop:=MethF P w K mg base "a_shelf_on" 3 mE
abbrev a4n:Prop:=bC P w K mg base "ways_on" 6 ["shelves", "heads", "filling"] a0A
abbrev a2W:Prop:=bC P w K mg base "by_heads" 5 ["sheet", "heads"] pZ
abbrev a6Z:Prop:=MethF P w K mg base "mark" 1 oJ
abbrev oN:Prop:=bC P w K mg base "filled_shelves" 7 ["shelves", "sheet", "heads"] (eB w)
abbrev yI:Prop:=bC P w K mg base "group_plan" 8 ["sheet", "sizes", "heads"] (dI w)
abbrev sR:Prop:=bC P w K mg base "fitting_plan" 9 ["sheet", "sizes", "heads"] (aY w)
abbrev a2T:Prop:=bC P w K mg base "is_whole" 1 ["thing"] mF
abbrev rH:Prop:=bC P w K mg base "shares_column" 3 ["sheet", "laying", "name"] iU
abbrev a4p:Prop:=bC P w K mg base "is_laid" 4 ["sheet", "laying"] tM
end
variable {c T fa:Addr}
section
variable (P:Program) (w:World) {K:qC} (base:Heap)
def fS {P:T0q} {sc:Scope} (a:sc.kind=.function:=by rfl) (b:sc.isCoroutine=false:=by rfl) (c:sc.isGenerator=false:=by rfl) (d:N.Nodup:=by decide +kernel) (e:N.take P.length=P:=by rfl) (f:∀ x∈P,sc.names.lookup x=some .local\/sc.names.lookup x=some .cell:=by decide +kernel) (g:∀ y∈sc.names,y.2≠.free:=by decide +kernel):FnScope N P sc:=⟨a,b,c,d,e,f,g⟩
def hM (r:Room k A) (h:j<=k:=by decide):Room j A:=r.mono h
abbrev a5L:Stmt:=a6O (top 27) 0
def a9V:FnScope fPs fPs (aD a5L):=fS
abbrev a1P:Stmt:=top 37
noncomputable abbrev b2D:List Str:=["_law_script", "_law_k"]
def a9W:FnScope b2D ["_law_script", "_law_k"] (aD a1P):=fS
def b4q (D:Def K mg "_law_cell" a1P) (B:Blt mg): a7b P w K mg base:=by
 refine aT 2 2 D a9W rfl rfl (λ_ _ _ _ _ _ us hl=>by obtain ⟨_,_,rfl⟩:=a1e hl;rfl) (λfa cdv A outer s H E hr=>?_);exact (aJ (eR (cI a3G (aB 1) (bJ iF B.b_len yx (aA (aB 0) aF))) (aN (aU (dO (aB 0) (aB 1)))) cY) (aJ (eR (cI (a9m hr.units) (aB 0) (nF aF)) (aN (aU aK)) cY) (aN (aU (bK cD (bK a1Y (dO (aB 0) (bK a4O (aB 1) (bJ iF B.b_len yx (aA (aB 0) aF)))) aK) (aB 1))))))
abbrev a1O:Stmt:=top 38
noncomputable abbrev b2C:List Str:=["_law_script", "_law_k", "_law_many", "_law_drawn"]
def a3q:FnScope b2C ["_law_script", "_law_k", "_law_many"] (aD a1O):=fS
def b4p (D:Def K mg "_law_pick" a1O) (B:Blt mg) (YN:a7b P w K mg base):a7a P w K mg base:=by
 refine aT 4 3 D a3q rfl rfl (λ_ _ _ _ _ _ us hl=>by obtain ⟨_,_,_,rfl⟩:=a2f hl;rfl) (λfa cdv A outer s H E hr=>?_);exact (aJ (cC 3 a3q.nd (bK a4O (bK a1Y (bK cD (aO YN hr.m (aA (aB 0) (aA (aB 1) aF))) (bK a1Y aK (bK cD (aB 1) aK))) aK) aK)) (aN (aU (bK a4O (bK a4O (bK cD (bK a1Y (aB 3) (aB 3)) (bK b9e (aB 3) aK)) aK) (aB 2)))))
abbrev gP:Stmt:=top 14
def uE:FnScope ["sheet"] ["sheet"] (aD gP):=fS
def yA (D:Def K mg "in_laying_order" gP) (B:Blt mg) (kb:K.In base) (nb:base.Ns j6 mg) (M:BM mg base) (ht:jb K "in_laying_order" = some (c,T)) (hC:kK K c T=true): iA P w K mg base:=by
 refine a0X 1 1 D uE rfl rfl kb nb ht (λ_ _ _ _ _ _ us hl=>by obtain ⟨_,rfl⟩:=xK hl;rfl) (λfa A outer s H E hr=>?_);exact (aN (aU (b4a (k:=1) (y := "meeting") (by unfold fH;simp) ht rfl rfl hC M hr.m B.b_sorted (aB 0) (by exact fS) (λf c A outer s H hr=>(bN (aA (dO (aB 0) aK) (aA (b4f (dO (aB 0) aK)) (aA (dO (aB 0) aK) aF))))))))
abbrev yR:Stmt:=top 7
def a7r:FnScope ["one", "other"] ["one", "other"] (aD yR):=fS
def b0W (D:Def K mg "overlap" yR) (B:Blt mg): a0C P w K mg base:=by
 refine aT 2 2 D a7r rfl rfl (λ_ _ _ _ _ _ us hl=>by obtain ⟨_,_,rfl⟩:=a1e hl;rfl) (λfa cdv A outer s H E hr=>?_);exact (aN (aU (a5j a3G (bJ (b2J rfl) B.b_max boot_max (aA (dO (aB 0) aK) (aA (dO (aB 1) aK) aF))) (bJ (b2H rfl) B.b_min boot_min (aA (dO (aB 0) aK) (aA (dO (aB 1) aK) aF))))))
abbrev oX:Stmt:=top 17
def mW:FnScope ["taken", "column"] ["taken"] (aD oX):=fS
def a5r (D:Def K mg "first_free" oX) (B:Blt mg): yJ P w K mg base:=by
 refine aT 2 1 D mW rfl rfl (λ_ _ _ _ _ _ us hl=>by obtain ⟨_,rfl⟩:=xK hl;rfl) (λfa cdv A outer s H E hr=>?_);exact (aJ (cC 1 mW.nd aK) (aJ (a6D 1000 jf (cI (a7O hr.units1) (aB 1) (aB 0)) (aN (b3T 1 mW.nd aK))) (aN (aU (aB 1)))))
abbrev fP:Stmt:=top 18
noncomputable abbrev rD:List Str:=["sheet", "laid", "meeting", "taken"]
def eY:FnScope rD ["sheet"] (aD fP):=fS
def a1h (D:Def K mg "laid_meetings" fP) (B:Blt mg) (YK:iA P w K mg base) (Yc:a0C P w K mg base) (YF:yJ P w K mg base):rJ P w K mg base:=by
 refine aT 4 1 D eY rfl rfl (λ_ _ _ _ _ _ us hl=>by obtain ⟨_,rfl⟩:=xK hl;rfl) (λfa cdv A outer s H E hr=>?_);have nd1:(["other", "column", "meeting"]:T0q).Nodup:=by decide +kernel
 exact (aJ (a5h 1 eY.nd aF) (aJ (nE jf rfl (cQ (aO YK hr.m (aA (aB 0) aF))) (cJ 2 eY.nd) (aJ (b3N 3 eY.nd (N':=["other", "column", "meeting"]) (cap:=[none,none,some 2]) rfl (eE (so:=aD fP) (NN:=rD) rfl rfl (by decide +kernel)) (cQ (aB 1)) rfl (λ_ _ _ _=>(pO rfl (bM 0 nd1 (bM 1 nd1 lE)))) (λ_ _ _ _=>(pN (sJ (aO Yc hr.m (aA (aB 2) (aA (aB 0) aF)))))) (λ_ _ _ _=>aB 1)) (aN (a2C 1 (bN (aA (aB 2) (aA (aO YF hr.m (aA (aB 3) aF)) aF))))))) (a2E 1 (aN (aU (aB 1))))))
abbrev sZ:Stmt:=top 19
def a7u:FnScope ["sheet"] ["sheet"] (aD sZ):=fS
def b1a (D:Def K mg "columns" sZ) (B:Blt mg) (YQ:rJ P w K mg base):tN P w K mg base:=by
 refine a6S 1 1 D a7u rfl rfl (λ_ _ _ _ _ _ us hl=>by obtain ⟨_,rfl⟩:=xK hl;rfl) rfl B.b_dict (λfa cdv A outer s H E hr=>⟨?_,rfl,rfl,rfl,rfl⟩);have nd1:(["meeting", "column"]:T0q).Nodup:=by decide +kernel
 exact (eD (N':=["meeting", "column"]) (cap:=[none,none]) rfl (eE (so:=aD sZ) (NN:=["sheet"]) rfl rfl (by decide +kernel)) (cQ (aO YQ hr.m (aA (aB 0) aF))) rfl (λ_ _ _ _=>(pO rfl (bM 0 nd1 (bM 1 nd1 lE)))) (λ_ _ _ _=>gX) (λ_ _ _ _=>(bN (aA (dO (aB 0) aK) (aA (aB 1) aF)))))
abbrev oU:Stmt:=top 9
def a5H:FnScope ["sheet", "moment"] ["sheet", "moment"] (aD oU):=fS
def a8l (D:Def K mg "names_at" oU) (B:Blt mg): a2S P w K mg base:=by
 refine aT 2 2 D a5H rfl rfl (λ_ _ _ _ _ _ us hl=>by obtain ⟨_,_,rfl⟩:=a1e hl;rfl) (λfa cdv A outer s H E hr=>?_);have nd1:(["name", "begin", "end", "moment"]:T0q).Nodup:=by decide +kernel
 exact (aN (aU (eD (N':=["name", "begin", "end", "moment"]) (cap:=[none,none,none,some 1]) rfl (eE (so:=aD oU) (NN:=["sheet", "moment"]) rfl rfl (by decide +kernel)) (cQ (aB 0)) rfl (λ_ _ _ _=>(pO rfl (bM 0 nd1 (bM 1 nd1 (bM 2 nd1 lE))))) (λ_ _ _ _=>(pN (b9n a8V a3G (aB 1) (aB 3) (aB 2)))) (λ_ _ _ _=>aB 0))))
abbrev yS:Stmt:=top 11
def a7s:FnScope ["sheet", "moment"] ["sheet", "moment"] (aD yS):=fS
def b0Y (D:Def K mg "load_at" yS) (B:Blt mg) (Ya:a2S P w K mg base):a4o P w K mg base:=by
 refine aT 2 2 D a7s rfl rfl (λ_ _ _ _ _ _ us hl=>by obtain ⟨_,_,rfl⟩:=a1e hl;rfl) (λfa cdv A outer s H E hr=>?_);exact (aN (aU (bJ iF B.b_len yx (aA (aO Ya hr.m (aA (aB 0) (aA (aB 1) aF))) aF))))
abbrev gN:Stmt:=top 12
def a1b:FnScope ["sheet"] ["sheet"] (aD gN):=fS
def a2I (D:Def K mg "most_at_once" gN) (B:Blt mg) (YR:a4o P w K mg base):eX P w K mg base:=by
 refine aT 1 1 D a1b rfl rfl (λ_ _ _ _ _ _ us hl=>by obtain ⟨_,rfl⟩:=xK hl;rfl) (λfa cdv A outer s H E hr=>?_);have nd1:(["name", "begin", "end", "sheet"]:T0q).Nodup:=by decide +kernel
 exact (aN (aU (b4g rfl B.b_max (eD (N':=["name", "begin", "end", "sheet"]) (cap:=[none,none,none,some 0]) rfl (eE (so:=aD gN) (NN:=["sheet"]) rfl rfl (by decide +kernel)) (cQ (aB 0)) rfl (λ_ _ _ _=>(pO rfl (bM 0 nd1 (bM 1 nd1 (bM 2 nd1 lE))))) (λ_ _ _ _=>gX) (λ_ _ _ _=>(aO YR hr.m (aA (aB 3) (aA (aB 1) aF))))) aK)))
abbrev sX:Stmt:=top 22
def a7q:FnScope ["sheet", "names"] ["sheet", "names"] (aD sX):=fS
def b0V (D:Def K mg "part_of" sX) (B:Blt mg): a0B P w K mg base:=by
 refine aT 2 2 D a7q rfl rfl (λ_ _ _ _ _ _ us hl=>by obtain ⟨_,_,rfl⟩:=a1e hl;rfl) (λfa cdv A outer s H E hr=>?_);have nd1:(["meeting", "names"]:T0q).Nodup:=by decide +kernel
 exact (aN (aU (a6H b1v B.b_tuple boot_tuple (aA (eD (N':=["meeting", "names"]) (cap:=[none,some 1]) rfl (eE (so:=aD sX) (NN:=["sheet", "names"]) rfl rfl (by decide +kernel)) (cQ (aB 0)) rfl (λ_ _ _ _=>cJ 0 nd1) (λ_ _ _ _=>(pN (cI (a7O hr.units1) (dO (aB 0) aK) (aB 1)))) (λ_ _ _ _=>aB 0)) aF))))
abbrev xC:Stmt:=top 15
noncomputable abbrev a5Y:List Str:=["sheet", "told", "reach", "name", "begin", "end"]
def gC:FnScope a5Y ["sheet"] (aD xC):=fS
def b4r (D:Def K mg "groups" xC) (B:Blt mg) (YK:iA P w K mg base):a2U P w K mg base:=by
 refine aT 6 1 D gC rfl rfl (λ_ _ _ _ _ _ us hl=>by obtain ⟨_,rfl⟩:=xK hl;rfl) (λfa cdv A outer s H E hr=>?_);have nd1:(["group"]:T0q).Nodup:=by decide +kernel
 exact (aJ (b6D 1 gC.nd) (aJ (cC 2 gC.nd aK) (aJ (nE jf rfl (cQ (aO YK hr.m (aA (aB 0) aF))) (pO rfl (bM 3 gC.nd (bM 4 gC.nd (bM 5 gC.nd lE)))) (aN (eR (DW.dt (a5g (b6z 1) (a1r (cI a3G (aB 4) (aB 2))))) (aJ (b3S 1 (aB 3)) (aN (cC 2 gC.nd (bJ (b2J rfl) B.b_max boot_max (aA (aB 2) (aA (aB 5) aF)))))) (aJ (b3P 1 (aA (aB 3) aF)) (aN (cC 2 gC.nd (aB 5))))))) (b6F 1 (aN (aU (eD (N':=["group"]) (cap:=[none]) rfl (eE (so:=aD xC) (NN:=a5Y) rfl rfl (by decide +kernel)) (cQ (aB 1)) rfl (λ_ _ _ _=>cJ 0 nd1) (λ_ _ _ _=>gX) (λ_ _ _ _=>(bJ b4L B.b_sorted boot_sorted (aA (aB 0) aF))))))))))
abbrev uH:Stmt:=top 16
noncomputable abbrev a7B:List Str:=["sheet", "name", "group"]
def a0G:FnScope a7B ["sheet", "name"] (aD uH):=fS
def a8n (D:Def K mg "group_of" uH) (B:Blt mg) (YJ:a2U P w K mg base):a2V P w K mg base:=by
 refine aT 3 2 D a0G rfl rfl (λ_ _ _ _ _ _ us hl=>by obtain ⟨_,_,rfl⟩:=a1e hl;rfl) (λfa cdv A outer s H E hr=>?_);exact (aJ (nE jf rfl (cQ (aO YJ hr.m (aA (aB 0) aF))) (cJ 2 a0G.nd) (aN (eR (cI (a7O hr.units1) (aB 1) (aB 2)) (aN (aU (aB 2))) cY))) (aN a6E))
abbrev uF:Stmt:=top 23
def a5F:FnScope ["sheet", "name"] ["sheet", "name"] (aD uF):=fS
def a8i (D:Def K mg "width_of" uF) (B:Blt mg) (YH:a2V P w K mg base) (Yd:a0B P w K mg base) (YZ:eX P w K mg base):a2R P w K mg base:=by
 refine aT 2 2 D a5F rfl rfl (λ_ _ _ _ _ _ us hl=>by obtain ⟨_,_,rfl⟩:=a1e hl;rfl) (λfa cdv A outer s H E hr=>?_);exact (aN (aU (aO YZ hr.m (aA (aO Yd hr.m (aA (aB 0) (aA (aO YH hr.m (aA (aB 0) (aA (aB 1) aF))) aF))) aF))))
abbrev oV:Stmt:=top 6
noncomputable abbrev a4L:List Str:=["sheet", "name", "meeting"]
def tR:FnScope a4L ["sheet", "name"] (aD oV):=fS
def a5p (D:Def K mg "meeting_of" oV) (B:Blt mg): yH P w K mg base:=by
 refine aT 3 2 D tR rfl rfl (λ_ _ _ _ _ _ us hl=>by obtain ⟨_,_,rfl⟩:=a1e hl;rfl) (λfa cdv A outer s H E hr=>?_);exact (aJ (nE jf rfl (cQ (aB 0)) (cJ 2 tR.nd) (aN (eR (cI (a9m hr.units) (dO (aB 2) aK) (aB 1)) (aN (aU (aB 2))) cY))) (aN a6E))
abbrev oR:Stmt:=top 8
noncomputable abbrev a1V:List Str:=["sheet", "name", "meeting"]
def a0F:FnScope a1V ["sheet", "name"] (aD oR):=fS
def a8j (D:Def K mg "partners" oR) (B:Blt mg) (YX:yH P w K mg base) (Yc:a0C P w K mg base):uX P w K mg base:=by
 refine aT 3 2 D a0F rfl rfl (λ_ _ _ _ _ _ us hl=>by obtain ⟨_,_,rfl⟩:=a1e hl;rfl) (λfa cdv A outer s H E hr=>?_);have nd1:(["other", "meeting", "name"]:T0q).Nodup:=by decide +kernel
 exact (aJ (cC 2 a0F.nd (aO YX hr.m (aA (aB 0) (aA (aB 1) aF)))) (aN (aU (eD (N':=["other", "meeting", "name"]) (cap:=[none,some 2,some 1]) rfl (eE (so:=aD oR) (NN:=a1V) rfl rfl (by decide +kernel)) (cQ (aB 0)) rfl (λ_ _ _ _=>cJ 0 nd1) (λ_ _ _ _=>(pN (DW.dt (a5g (cI (b7l hr.units) (dO (aB 0) aK) (aB 2)) (a1r (sJ (aO Yc hr.m (aA (aB 1) (aA (aB 0) aF))))))))) (λ_ _ _ _=>(dO (aB 0) aK))))))
abbrev rW:Stmt:=top 24
noncomputable abbrev a1X:List Str:=["sheet", "laying", "name", "first", "most", "stops"]
def sV:FnScope a1X ["sheet", "laying", "name"] (aD rW):=fS
def b4s (D:Def K mg "box_of" rW) (B:Blt mg) (Yj:a2R P w K mg base) (Ye:uX P w K mg base):a7c P w K mg base:=by
 refine aT 6 3 D sV rfl rfl (λ_ _ _ _ _ _ us hl=>by obtain ⟨_,_,_,rfl⟩:=a2f hl;rfl) (λfa cdv A outer s H E hr=>?_);have nd1:(["other", "laying"]:T0q).Nodup:=by decide +kernel
 have nd2:(["stop", "first"]:T0q).Nodup:=by decide +kernel
 exact (aJ (cC 3 sV.nd (sK (aB 1) (aB 2))) (aJ (cC 4 sV.nd (aO Yj hr.m (aA (aB 0) (aA (aB 2) aF)))) (aJ (cC 5 sV.nd (bK cD (nF (aA (aB 4) aF)) (eD (N':=["other", "laying"]) (cap:=[none,some 1]) rfl (eE (so:=aD rW) (NN:=a1X) rfl rfl (by decide +kernel)) (cQ (aO Ye hr.m (aA (aB 0) (aA (aB 2) aF)))) rfl (λ_ _ _ _=>cJ 0 nd1) (λ_ _ _ _=>gX) (λ_ _ _ _=>(sK (aB 1) (aB 0)))))) (aN (aU (bN (aA (aB 2) (aA (aB 3) (aA (bJ (b2H rfl) B.b_min boot_min (aA (eD (N':=["stop", "first"]) (cap:=[none,some 3]) rfl (eE (so:=aD rW) (NN:=a1X) rfl rfl (by decide +kernel)) (cQ (aB 5)) rfl (λ_ _ _ _=>cJ 0 nd2) (λ_ _ _ _=>(pN (cI b7r (aB 0) (aB 1)))) (λ_ _ _ _=>aB 0)) aF)) (aA (aB 4) aF))))))))))
abbrev oS:Stmt:=top 5
def a5G:FnScope ["sheet"] ["sheet"] (aD oS):=fS
def a8k (D:Def K mg "names_of" oS) (B:Blt mg): uY P w K mg base:=by
 refine aT 1 1 D a5G rfl rfl (λ_ _ _ _ _ _ us hl=>by obtain ⟨_,rfl⟩:=xK hl;rfl) (λfa cdv A outer s H E hr=>?_);have nd1:(["meeting"]:T0q).Nodup:=by decide +kernel
 exact (aN (aU (eD (N':=["meeting"]) (cap:=[none]) rfl (eE (so:=aD oS) (NN:=["sheet"]) rfl rfl (by decide +kernel)) (cQ (aB 0)) rfl (λ_ _ _ _=>cJ 0 nd1) (λ_ _ _ _=>gX) (λ_ _ _ _=>(dO (aB 0) aK)))))
abbrev a1n:Stmt:=top 25
def a5K:FnScope ["sheet", "laying"] ["sheet"] (aD a1n):=fS
def b6S (D:Def K mg "boxes" a1n) (B:Blt mg) (YD:tN P w K mg base) (Yb:uY P w K mg base) (YA:a7c P w K mg base):a9C P w K mg base:=by
 refine aT 2 1 D a5K rfl rfl (λ_ _ _ _ _ _ us hl=>by obtain ⟨_,rfl⟩:=xK hl;rfl) (λfa cdv A outer s H E hr=>?_);have nd1:(["name", "laying", "sheet"]:T0q).Nodup:=by decide +kernel
 exact (aJ (cC 1 a5K.nd (aO YD.weak hr.m (aA (aB 0) aF))) (aN (aU (eD (N':=["name", "laying", "sheet"]) (cap:=[none,some 1,some 0]) rfl (eE (so:=aD a1n) (NN:=["sheet", "laying"]) rfl rfl (by decide +kernel)) (cQ (aO Yb hr.m (aA (aB 0) aF))) rfl (λ_ _ _ _=>cJ 0 nd1) (λ_ _ _ _=>gX) (λ_ _ _ _=>(aO YA hr.m (aA (aB 2) (aA (aB 1) (aA (aB 0) aF)))))))))
abbrev gM:Stmt:=top 29
noncomputable abbrev pB:List Str:=["sheet", "sizes", "heads", "shelves", "above", "least", "rooms"]
def eG:FnScope pB ["sheet", "sizes", "heads"] (aD gM):=fS
def a5o (D:Def K mg "shelves_of" gM) (B:Blt mg): yG P w K mg base:=by
 refine aT 7 3 D eG rfl rfl (λ_ _ _ _ _ _ us hl=>by obtain ⟨_,_,_,rfl⟩:=a2f hl;rfl) (λfa cdv A outer s H E hr=>?_);have nd1:(["meeting", "heads"]:T0q).Nodup:=by decide +kernel
 have nd2:(["room", "size", "above", "least"]:T0q).Nodup:=by decide +kernel
 exact (aJ (a5h 3 eG.nd aF) (aJ (cC 4 eG.nd pQ) (aJ (nE jf rfl (b9q B.b_reversed (b3Z rfl B.b_sorted B.b_set (eD (N':=["meeting", "heads"]) (cap:=[none,some 2]) rfl (eE (so:=aD gM) (NN:=pB) rfl rfl (by decide +kernel)) (cQ (aB 0)) rfl (λ_ _ _ _=>cJ 0 nd1) (λ_ _ _ _=>gX) (λ_ _ _ _=>(sK (aB 1) (dO (aB 0) aK)))))) (cJ 5 eG.nd) (aJ (b6A 6 eG.nd (N':=["room", "size", "above", "least"]) (cap:=[none,none,some 4,some 5]) rfl (eE (so:=aD gM) (NN:=pB) rfl rfl (by decide +kernel)) (b6E B.b_enumerate (aB 1)) rfl (λ_ _ _ _=>(pO rfl (bM 0 nd2 (bM 1 nd2 lE)))) (λ_ _ _ _=>(pN (DW.dt (a5g (cI a8V (aB 3) (aB 1)) (a1r (DW.dt (b7v (uS (aB 2)) (b3L (cI a3G (aB 1) (aB 2)))))))))) (λ_ _ _ _=>aB 0)) (aJ (a2C 3 (bN (aA (aB 5) (aA (aB 6) aF)))) (aN (cC 4 eG.nd (aB 5)))))) (a2E 3 (aN (aU (aB 3)))))))
abbrev sY:Stmt:=top 30
noncomputable abbrev a3C:List Str:=["shelves", "meetings", "heads", "many", "least", "rooms"]
def lK:FnScope a3C ["shelves", "meetings", "heads"] (aD sY):=fS
def b0X (D:Def K mg "may_fit" sY) (B:Blt mg) (YZ:eX P w K mg base):a0D P w K mg base:=by
 refine aT 6 3 D lK rfl rfl (λ_ _ _ _ _ _ us hl=>by obtain ⟨_,_,_,rfl⟩:=a2f hl;rfl) (λfa cdv A outer s H E hr=>?_);have nd1:(["meeting", "heads", "least"]:T0q).Nodup:=by decide +kernel
 exact (aJ (cC 3 lK.nd aK) (aJ (nE jf rfl (cQ (aB 0)) (pO rfl (bM 4 lK.nd (bM 5 lK.nd lE))) (aJ (b3T 3 lK.nd (bJ iF B.b_len yx (aA (aB 5) aF))) (aN (eR (cI b7r (aO YZ hr.m (aA (eD (N':=["meeting", "heads", "least"]) (cap:=[none,some 2,some 4]) rfl (eE (so:=aD sY) (NN:=a3C) rfl rfl (by decide +kernel)) (cQ (aB 1)) rfl (λ_ _ _ _=>cJ 0 nd1) (λ_ _ _ _=>(pN (cI c0Z (sK (aB 1) (dO (aB 0) aK)) (aB 2)))) (λ_ _ _ _=>aB 0)) aF)) (aB 3)) (aN (aU fB)) cY)))) (aN (aU fB))))
abbrev gO:Stmt:=a6O (top 27) 2
def uD:FnScope ["self"] ["self"] (aD gO):=fS
def xZ (D:FDef K "without_first" gO) (B:Blt mg) (FC:FCls K) (YY:FMk P w K mg base 1): mT P w K mg base:=by
 refine tH 1 D uD rfl (λ_ _ _ _ _ _ us hl=>by obtain ⟨_,rfl⟩:=xK hl;rfl) (λfa cdv A outer s H E hr=>?_);exact (aN (aU (a5i YY hr.m (aA (bU 0 FC FC.n1 (aB 0)) (aA (bU 1 FC FC.n2 (aB 0)) (aA (b4d (bU 2 FC FC.n3 (aB 0)) (xS aK) xT) (aA (bK cD (bU 3 FC FC.n4 (aB 0)) (b4c (bU 2 FC FC.n3 (aB 0)) xT (xS aK))) aF)))))))
abbrev lL:Stmt:=a6O (top 27) 1
def a1c:FnScope ["self"] ["self"] (aD lL):=fS
def a2J (D:FDef K "with_first" lL) (B:Blt mg) (FC:FCls K) (YY:FMk P w K mg base 1): sP P w K mg base:=by
 refine tH 1 D a1c rfl (λ_ _ _ _ _ _ us hl=>by obtain ⟨_,rfl⟩:=xK hl;rfl) (λfa cdv A outer s H E hr=>?_);exact (aN (aU (a5i YY hr.m (aA (bU 0 FC FC.n1 (aB 0)) (aA (bK cD (bU 1 FC FC.n2 (aB 0)) (b4c (bU 2 FC FC.n3 (aB 0)) xT (xS aK))) (aA (b4d (bU 2 FC FC.n3 (aB 0)) (xS aK) xT) (aA (bU 3 FC FC.n4 (aB 0)) aF)))))))
abbrev iD:Stmt:=top 31
noncomputable abbrev yW:List Str:=["shelves", "heads", "filling", "least", "rooms", "below", "told"]
def dE:FnScope yW ["shelves", "heads", "filling"] (aD iD):=fS
def a0t (D:Def K mg "ways_for_first" iD) (B:Blt mg) (FC:FCls K) (YV:mT P w K mg base) (YW:a0D P w K mg base) (YU:sP P w K mg base) (YZ:eX P w K mg base):oM P w K mg base:=by
 refine aT 7 3 D dE rfl rfl (λ_ _ _ _ _ _ us hl=>by obtain ⟨_,_,_,rfl⟩:=a2f hl;rfl) (λfa cdv A outer s H E hr=>?_);exact (aJ (cC 3 dE.nd (dO (dO (aB 0) (bJ iF B.b_len yx (aA (bU 0 FC FC.n1 (aB 2)) aF))) aK)) (aJ (cC 4 dE.nd (dO (dO (aB 0) (bJ iF B.b_len yx (aA (bU 0 FC FC.n1 (aB 2)) aF))) aK)) (aJ (cC 5 dE.nd (b4d (aB 0) (xS (bK cD (bJ iF B.b_len yx (aA (bU 0 FC FC.n1 (aB 2)) aF)) aK)) xT)) (aJ (a5h 6 dE.nd aF) (aJ (eR (DW.dt (a5g (cI a3G (sK (aB 1) (dO (dO (bU 2 FC FC.n3 (aB 2)) aK) aK)) (aB 3)) (a1r (sJ (aO YW hr.m (aA (aB 5) (aA (bU 3 FC FC.n4 (lY FC YV hr.m (aB 2))) (aA (aB 1) aF)))))))) (aN (a2C 6 (lY FC YV hr.m (aB 2)))) cY) (aJ (eR (cI a8V (aO YZ hr.m (aA (bU 1 FC FC.n2 (lY FC YU hr.m (aB 2))) aF)) (bJ iF B.b_len yx (aA (aB 4) aF))) (aN (a2C 6 (lY FC YU hr.m (aB 2)))) cY) (a2E 6 (aN (aU (aB 6))))))))))
abbrev lM:Stmt:=a6O (top 27) 3
def a1d:FnScope ["self"] ["self"] (aD lM):=fS
def a2K (D:FDef K "a_shelf_on" lM) (B:Blt mg) (FC:FCls K) (YY:FMk P w K mg base 1): sQ P w K mg base:=by
 refine tH 1 D a1d rfl (λ_ _ _ _ _ _ us hl=>by obtain ⟨_,rfl⟩:=xK hl;rfl) (λfa cdv A outer s H E hr=>?_);exact (aN (aU (a5i YY hr.m (aA (bK cD (bU 0 FC FC.n1 (aB 0)) (bN (aA (bU 1 FC FC.n2 (aB 0)) aF))) (aA (bN aF) (aA (bU 3 FC FC.n4 (aB 0)) (aA (bN aF) aF)))))))
abbrev sW:Stmt:=top 32
noncomputable abbrev a3B:List Str:=["shelves", "heads", "filling", "rooms"]
def a1L:FnScope a3B ["shelves", "heads", "filling"] (aD sW):=fS
def b0U (D:Def K mg "ways_on" sW) (B:Blt mg) (FC:FCls K) (Yh:oM P w K mg base) (YZ:eX P w K mg base) (YS:sQ P w K mg base):a4n P w K mg base:=by
 refine aT 4 3 D a1L rfl rfl (λ_ _ _ _ _ _ us hl=>by obtain ⟨_,_,_,rfl⟩:=a2f hl;rfl) (λfa cdv A outer s H E hr=>?_);have nd1:(["meeting", "filling", "rooms"]:T0q).Nodup:=by decide +kernel
 exact (aJ (eR (sJ (bU 2 FC FC.n3 (aB 2))) (aN (aU (aO Yh hr.m (aA (aB 0) (aA (aB 1) (aA (aB 2) aF)))))) cY) (aJ (cC 3 a1L.nd (dO (dO (aB 0) (bJ iF B.b_len yx (aA (bU 0 FC FC.n1 (aB 2)) aF))) aK)) (aJ (eR (sJ (bJ (a8r rfl) B.b_any boot_any (aA (eD (N':=["meeting", "filling", "rooms"]) (cap:=[none,some 2,some 3]) rfl (eE (so:=aD sW) (NN:=a3B) rfl rfl (by decide +kernel)) (cQ (bU 3 FC FC.n4 (aB 2))) rfl (λ_ _ _ _=>cJ 0 nd1) (λ_ _ _ _=>gX) (λ_ _ _ _=>(a5j a8V (aO YZ hr.m (aA (bK cD (bU 1 FC FC.n2 (aB 1)) (bN (aA (aB 0) aF))) aF)) (bJ iF B.b_len yx (aA (aB 2) aF))))) aF))) (aN (aU (nF aF))) cY) (aN (aU (nF (aA (lY FC YS hr.m (aB 2)) aF)))))))
abbrev oY:Stmt:=top 28
def a5J:FnScope ["sheet", "heads"] ["sheet", "heads"] (aD oY):=fS
def a8o (D:Def K mg "by_heads" oY) (B:Blt mg) (kb:K.In base) (nb:base.Ns j6 mg) (M:BM mg base) (ht:jb K "by_heads" = some (c,T)) (hC:kK K c T=true): a2W P w K mg base:=by
 refine a0X 2 2 D a5J rfl rfl kb nb ht (λ_ _ _ _ _ _ us hl=>by obtain ⟨_,_,rfl⟩:=a1e hl;rfl) (λfa A outer s H E hr=>?_);exact (aN (aU (a6H b1v B.b_tuple boot_tuple (aA (b4b (k:=1) (N':=["heads"]) (cap:=[some 1]) (y := "meeting") (by unfold fH;simp) ht rfl rfl hC M hr.m B.b_sorted (aB 0) (eE (so:=aD oY) (NN:=["sheet", "heads"]) rfl rfl (by decide +kernel)) rfl rfl (by decide +kernel) rfl (λf c cl A outer s H hr=>(bN (aA (b4f (sK (aB 1) (dO (aB 0) aK))) (aA (aB 0) aF))))) aF))))
abbrev a1N:Stmt:=a6O (top 27) 4
def a9U:FnScope ["self"] ["self"] (aD a1N):=fS
def b4o (D:FDef K "mark" a1N) (B:Blt mg) (FC:FCls K): a6Z P w K mg base:=by
 refine tH 1 D a9U rfl (λ_ _ _ _ _ _ us hl=>by obtain ⟨_,rfl⟩:=xK hl;rfl) (λfa cdv A outer s H E hr=>?_);exact (aN (aU (bN (aA (bJ iF B.b_len yx (aA (bU 0 FC FC.n1 (aB 0)) aF)) (aA (bU 1 FC FC.n2 (aB 0)) (aA (bU 2 FC FC.n3 (aB 0)) (aA (bU 3 FC FC.n4 (aB 0)) aF)))))))
abbrev iE:Stmt:=top 33
noncomputable abbrev yX:List Str:=["shelves", "sheet", "heads", "seen", "stack", "filling", "way"]
def dF:FnScope yX ["shelves", "sheet", "heads"] (aD iE):=fS
def a0u (D:Def K mg "filled_shelves" iE) (B:Blt mg) (FC:FCls K) (YY:FMk P w K mg base 1) (YC:a2W P w K mg base) (Yi:a4n P w K mg base) (YT:a6Z P w K mg base):oN P w K mg base:=by
 refine aT 7 3 D dF rfl rfl (λ_ _ _ _ _ _ us hl=>by obtain ⟨_,_,_,rfl⟩:=a2f hl;rfl) (λfa cdv A outer s H E hr=>?_);exact (aJ (b3R 3 dF.nd) (aJ (a5h 4 dF.nd (aA (a5i YY hr.m (aA (bN aF) (aA (bN aF) (aA (aO YC hr.m (aA (aB 1) (aA (aB 2) aF))) (aA (bN aF) aF))))) aF)) (aJ (a6D 20000 jf (c1e (sJ (aB 4))) (aJ (b6C 4 5 dF.nd) (aJ (eR (cI (a9m hr.units) (bJ iF B.b_len yx (aA (bU 0 FC FC.n1 (aB 5)) aF)) (bJ iF B.b_len yx (aA (aB 0) aF))) (aN (aU (bU 0 FC FC.n1 (aB 5)))) cY) (aN (nE jf rfl (cQ (aO Yi hr.m (aA (aB 0) (aA (aB 2) (aA (aB 5) aF))))) (cJ 6 dF.nd) (aN (eR (b2t 3 hr.units (lY FC YT hr.m (aB 6))) (aJ (b3O 3 hr.units fB (lY FC YT hr.m (aB 6))) (aN (a2C 4 (aB 6)))) cY))))))) (aN (aU pQ)))))
abbrev oW:Stmt:=top 34
noncomputable abbrev a4M:List Str:=["sheet", "sizes", "heads", "shelves", "filled", "plan", "shelf", "meetings", "name", "column"]
def cK:FnScope a4M ["sheet", "sizes", "heads"] (aD oW):=fS
def a5q (D:Def K mg "group_plan" oW) (B:Blt mg) (Yg:yG P w K mg base) (YW:a0D P w K mg base) (YE:oN P w K mg base) (YD:tN P w K mg base):yI P w K mg base:=by
 refine aT 10 3 D cK rfl rfl (λ_ _ _ _ _ _ us hl=>by obtain ⟨_,_,_,rfl⟩:=a2f hl;rfl) (λfa cdv A outer s H E hr=>?_);exact (aJ (cC 3 cK.nd (aO Yg hr.m (aA (aB 0) (aA (aB 1) (aA (aB 2) aF))))) (aJ (cC 4 cK.nd (c1g (sJ (aO YW hr.m (aA (aB 3) (aA (aB 0) (aA (aB 2) aF))))) (aO YE hr.m (aA (aB 3) (aA (aB 0) (aA (aB 2) aF)))) pQ)) (aJ (eR (uS (aB 4)) (aN (aU pQ)) cY) (aJ (a9o 5 cK.nd) (aJ (nE jf rfl (b9p B.b_zip (aB 3) (aB 4)) (pO rfl (bM 6 cK.nd (bM 7 cK.nd lE))) (aN (nE jf rfl (b3X YD hr.m (aA (aB 7) aF)) (pO rfl (bM 8 cK.nd (bM 9 cK.nd lE))) (aN (b6B 5 hr.units (dO (dO (aB 6) aK) (aB 9)) (aB 8)))))) (a2E 5 (aN (aU (aB 5)))))))))
abbrev lN:Stmt:=top 35
noncomputable abbrev a1W:List Str:=["sheet", "sizes", "heads", "told", "group", "plan"]
def fN:FnScope a1W ["sheet", "sizes", "heads"] (aD lN):=fS
def a2L (D:Def K mg "fitting_plan" lN) (B:Blt mg) (YJ:a2U P w K mg base) (Yd:a0B P w K mg base) (YI:yI P w K mg base):sR P w K mg base:=by
 refine aT 6 3 D fN rfl rfl (λ_ _ _ _ _ _ us hl=>by obtain ⟨_,_,_,rfl⟩:=a2f hl;rfl) (λfa cdv A outer s H E hr=>?_);exact (aJ (a9o 3 fN.nd) (aJ (nE jf rfl (cQ (aO YJ hr.m (aA (aB 0) aF))) (cJ 4 fN.nd) (aJ (cC 5 fN.nd (aO YI hr.m (aA (aO Yd hr.m (aA (aB 0) (aA (aB 4) aF))) (aA (aB 1) (aA (aB 2) aF))))) (aJ (eR (uS (aB 5)) (aN (aU pQ)) cY) (aN (b9o 3 (aB 5)))))) (a2E 3 (aN (aU (aB 3))))))
abbrev uG:Stmt:=top 4
def a5I:FnScope ["thing"] ["thing"] (aD uG):=fS
def a8m (D:Def K mg "is_whole" uG) (B:Blt mg): a2T P w K mg base:=by
 refine aT 1 1 D a5I rfl rfl (λ_ _ _ _ _ _ us hl=>by obtain ⟨_,rfl⟩:=xK hl;rfl) (λfa cdv A outer s H E hr=>?_);exact (aN (aU (b9s (a4f B.b_isinstance B.b_int boot_int (aB 0)) (b9r (b4e (a4f B.b_isinstance B.b_bool boot_bool (aB 0)))))))
abbrev fO:Stmt:=top 20
noncomputable abbrev rC:List Str:=["sheet", "laying", "name"]
def yP:FnScope rC ["sheet", "laying", "name"] (aD fO):=fS
def a1g (D:Def K mg "shares_column" fO) (B:Blt mg) (Ye:uX P w K mg base):rH P w K mg base:=by
 refine aT 3 3 D yP rfl rfl (λ_ _ _ _ _ _ us hl=>by obtain ⟨_,_,_,rfl⟩:=a2f hl;rfl) (λfa cdv A outer s H E hr=>?_);have nd1:(["other", "laying", "name"]:T0q).Nodup:=by decide +kernel
 exact (aN (aU (bJ (a8r rfl) B.b_any boot_any (aA (eD (N':=["other", "laying", "name"]) (cap:=[none,some 1,some 2]) rfl (eE (so:=aD fO) (NN:=rC) rfl rfl (by decide +kernel)) (cQ (aO Ye hr.m (aA (aB 0) (aA (aB 2) aF)))) rfl (λ_ _ _ _=>cJ 0 nd1) (λ_ _ _ _=>gX) (λ_ _ _ _=>(a5j (a9m hr.units) (sK (aB 1) (aB 0)) (sK (aB 1) (aB 2))))) aF))))
abbrev nW:Stmt:=top 21
def a7t:FnScope ["sheet", "laying"] ["sheet", "laying"] (aD nW):=fS
def b0Z (D:Def K mg "is_laid" nW) (B:Blt mg) (Yb:uY P w K mg base) (YM:a2T P w K mg base) (Yf:rH P w K mg base):a4p P w K mg base:=by
 refine aT 2 2 D a7t rfl rfl (λ_ _ _ _ _ _ us hl=>by obtain ⟨_,_,rfl⟩:=a1e hl;rfl) (λfa cdv A outer s H E hr=>?_);have nd1:(["column"]:T0q).Nodup:=by decide +kernel
 have nd2:(["name", "laying", "sheet"]:T0q).Nodup:=by decide +kernel
 exact (aJ (eR (b3M rfl hr.units B.b_set (aB 1) (aO Yb hr.m (aA (aB 0) aF))) (aN (aU fB)) cY) (aJ (eR (b9m (sJ (bJ (b9G rfl) B.b_all boot_all (aA (b4h 1 (N':=["column"]) (cap:=[none]) rfl (eE (so:=aD nW) (NN:=["sheet", "laying"]) rfl rfl (by decide +kernel))  rfl (λ_ _ _ _=>cJ 0 nd1) (λ_ _ _ _=>gX) (λ_ _ _ _=>(aO YM hr.m (aA (aB 0) aF)))) aF)))) (aN (aU fB)) cY) (aN (aU (b4e (bJ (a8r rfl) B.b_any boot_any (aA (eD (N':=["name", "laying", "sheet"]) (cap:=[none,some 1,some 0]) rfl (eE (so:=aD nW) (NN:=["sheet", "laying"]) rfl rfl (by decide +kernel)) (cQ (aO Yb hr.m (aA (aB 0) aF))) rfl (λ_ _ _ _=>cJ 0 nd2) (λ_ _ _ _=>gX) (λ_ _ _ _=>(aO Yf hr.m (aA (aB 2) (aA (aB 1) (aA (aB 0) aF)))))) aF)))))))
abbrev xB:Stmt:=top 39
noncomputable abbrev c0L:List Str:=["_law_script", "_law_begin", "_law_long", "_law_end", "_law_sheet", "_law_near", "_law_few", "_law_more", "_law_two", "_law_three", "_law_heads"]
def oQ:FnScope c0L ["_law_script"] (aD xB):=fS
def c1j (Fu:Fun K "law" "law" xB fa fd) (B:Blt mg) (YO:a7a P w K mg base) (YD:tN P w K mg base) (YL:a4p P w K mg base) (YB:a9C P w K mg base) (YG:sR P w K mg base):FnOk P w K mg base CX0 11 fa fd ["_law_script"] (spD K λds d=>(F_law w) ds=some (.ok d)):=by
 refine b3y 11 1 Fu oQ rfl rfl (λcdv A outer s H E hr=>?_);exact (aJ (b3Q 1 2 rfl oQ.nd (by decide) (aA (aO YO hr.m (aA (aB 0) (aA aK (aA aK aF)))) (aA (bK cD aK (aO YO hr.m (aA (aB 0) (aA aK (aA aK aF))))) aF))) (aJ (cC 3 oQ.nd (bK cD (aB 1) (bK a1Y aK (aB 2)))) (aJ (cC 4 oQ.nd (bN (aA (bN (aA iJ (aA (aB 1) (aA (aB 3) aF)))) (aA (bN (aA iJ (aA (aB 1) (aA (bK cD (aB 1) (aB 2)) aF)))) (aA (bN (aA iJ (aA (bK cD (aB 1) aK) (aA (bK cD (aB 3) (aB 2)) aF)))) (aA (bN (aA iJ (aA (aB 3) (aA (bK cD (aB 3) (aB 2)) aF)))) aF)))))) (aJ (eR (DW.dt (b7v (cI (a4K hr.units) (aO YD.weak hr.m (aA (aB 4) aF)) (lF (.cons aK (.cons aK (.cons aK (.cons aK .nil)))))) (b3L (a3f (aO YL hr.m (aA (aB 4) (aA (aO YD.weak hr.m (aA (aB 4) aF)) aF))))))) (aN (aU fB)) cY) (aJ (eR (cI (b7l hr.units) (aO YB hr.m (aA (aB 4) aF)) (nF (aA (bN (aA iJ (aA aK (aA aK (aA aK aF))))) (aA (bN (aA iJ (aA aK (aA aK (aA aK aF))))) (aA (bN (aA iJ (aA aK (aA aK (aA aK aF))))) (aA (bN (aA iJ (aA aK (aA aK (aA aK aF))))) aF)))))) (aN (aU fB)) cY) (aJ (cC 5 oQ.nd (bN (aA (bN (aA iJ (aA (aB 1) (aA (aB 3) aF)))) (aA (bN (aA iJ (aA (bK cD (aB 3) (aO YO hr.m (aA (aB 0) (aA aK (aA aK aF))))) (aA (bK cD (aB 3) (aB 2)) aF)))) aF)))) (aJ (eR (cI (a4K hr.units) (aO YD.weak hr.m (aA (aB 5) aF)) (lF (.cons aK (.cons aK .nil)))) (aN (aU fB)) cY) (aJ (b3Q 6 7 rfl oQ.nd (by decide) (aA (bK cD aK (aO YO hr.m (aA (aB 0) (aA aK (aA aK aF))))) (aA (bK cD aK (aO YO hr.m (aA (aB 0) (aA aK (aA aK aF))))) aF))) (aJ (cC 8 oQ.nd (bN (aA (bN (aA iJ (aA (aB 1) (aA (aB 3) aF)))) (aA (bN (aA iJ (aA (bK cD (aB 1) aK) (aA (aB 3) aF)))) aF)))) (aJ (eR (cI (a4K hr.units) (aO YG hr.m (aA (aB 8) (aA (nF (aA (aB 7) (aA (aB 6) aF))) (aA (lF (.cons (aB 6) (.cons (aB 7) .nil))) aF)))) (lF (.cons aK (.cons aK .nil)))) (aN (aU fB)) cY) (aJ (eR (cI (a4K hr.units) (aO YG hr.m (aA (aB 8) (aA (nF (aA (aB 7) (aA (aB 6) aF))) (aA (lF (.cons (aB 7) (.cons (aB 6) .nil))) aF)))) (lF (.cons aK (.cons aK .nil)))) (aN (aU fB)) cY) (aJ (eR (tW (aO YG hr.m (aA (aB 8) (aA (nF (aA (aB 7) (aA (aB 6) aF))) (aA (lF (.cons (aB 7) (.cons (aB 7) .nil))) aF))))) (aN (aU fB)) cY) (aJ (cC 9 oQ.nd (bK cD (aB 8) (bN (aA (bN (aA iJ (aA (bK cD (aB 1) aK) (aA (aB 3) aF)))) aF)))) (aJ (cC 10 oQ.nd (lF (.cons aK (.cons (aB 6) (.cons (aB 7) .nil))))) (aJ (eR (tW (aO YG hr.m (aA (aB 9) (aA (nF (aA (aB 7) (aA (aB 7) aF))) (aA (aB 10) aF))))) (aN (aU fB)) cY) (aN (aU (a5j (b9g hr.units) (aO YG hr.m (aA (aB 9) (aA (nF (aA (aB 7) (aA (aB 6) (aA aK aF)))) (aA (aB 10) aF)))) (lF (.cons aK (.cons aK (.cons aK .nil))))))))))))))))))))))
end
def blt_mk {K:qC} {h:Heap} (X:K.In h) (G:h.Ns j6 mg) (z0:qv K j6 "all" = some none) (z1:qv K j6 "any" = some none) (z2:qv K j6 "bool" = some none) (z3:qv K j6 "dict" = some none) (z4:qv K j6 "enumerate" = some none) (z5:qv K j6 "int" = some none) (z6:qv K j6 "isinstance" = some none) (z7:qv K j6 "len" = some none) (z8:qv K j6 "max" = some none) (z9:qv K j6 "min" = some none) (z10:qv K j6 "reversed" = some none) (z11:qv K j6 "set" = some none) (z12:qv K j6 "sorted" = some none) (z13:qv K j6 "tuple" = some none) (z14:qv K j6 "zip" = some none): Blt mg:=
 ⟨qr X G z0,qr X G z1,qr X G z2,qr X G z3,qr X G z4,qr X G z5,qr X G z6,qr X G z7,qr X G z8,qr X G z9,qr X G z10,qr X G z11,qr X G z12,qr X G z13,qr X G z14⟩
def law_mk {l:PySem.W.OpenLaw} {K:qC} {h:Heap} {f4:Addr} (X:K.In h) (G:h.Ns j6 mg) (hfa:mg "law" = some (.ref fa)) {od4 an4:T0k} {sl4:Array (Option Value)} {oc4 kV4 dc4 pm4 cd4 ct4:Value} 
  (B:Blt mg) (D0:Def K mg "_law_cell" a1P) (D1:Def K mg "_law_pick" a1O) (D2:Def K mg "in_laying_order" gP) (D3:Def K mg "overlap" yR) (D4:Def K mg "first_free" oX) (D5:Def K mg "laid_meetings" fP) (D6:Def K mg "columns" sZ) (D7:Def K mg "names_at" oU) (D8:Def K mg "load_at" yS) (D9:Def K mg "most_at_once" gN) (D10:Def K mg "part_of" sX) (D11:Def K mg "groups" xC) (D12:Def K mg "group_of" uH) (D13:Def K mg "width_of" uF) (D14:Def K mg "meeting_of" oV) (D15:Def K mg "partners" oR) (D16:Def K mg "box_of" rW) (D17:Def K mg "names_of" oS) (D18:Def K mg "boxes" a1n) (D19:Def K mg "shelves_of" gM) (D20:Def K mg "may_fit" sY) (D21:FDef K "without_first" gO) (D22:FDef K "with_first" lL) (D23:Def K mg "ways_for_first" iD) (D24:FDef K "a_shelf_on" lM) (D25:Def K mg "ways_on" sW) (D26:Def K mg "by_heads" oY) (D27:FDef K "mark" a1N) (D28:Def K mg "filled_shelves" iE) (D29:Def K mg "group_plan" oW) (D30:Def K mg "fitting_plan" lN) (D31:Def K mg "is_whole" uG) (D32:Def K mg "shares_column" fO) (D33:Def K mg "is_laid" nW) (FC:FCls K) (FI:FIn K a5L) (tb0:jb K "in_laying_order" = some (93,89)) (hC0:kK K 93 89=true) (tb1:jb K "by_heads" = some (210,206)) (hC1:kK K 210 206=true)
  (a4:qv K j6 "law" = some (some (.ref f4))) (l4:K.lookup f4=some ⟨oc4,od4,.func (jV "law" "law" (eK xB) (bR xB) (aD xB) .none kV4 dc4 pm4 an4 cd4 ct4),sl4⟩) (c4:zA K cd4 "law" = true) (k4:jj K (.ref f4)=true):
  ∃ fd:w8,(∀ (s:Shared) (v:Value),BindsTo s fd ⟨[v],[]⟩ [("_law_script", v)])/\∀ base:Heap,K.In base->base.Ns j6 mg->BM mg base->FnOk l.prog w K mg base CX0 11 fa fd ["_law_script"] (spD K λds d=>F_law w ds=some (.ok d)):=by
 have e:=hfa.symm.trans (PySem.W.mg_of X G a4);cases e;refine ⟨jV "law" "law" (eK xB) (bR xB) (aD xB) .none kV4 dc4 pm4 an4 cd4 ct4,λs v=>.of_eq rfl,λbase kb nb M=>?_⟩;have YY:FMk l.prog w K mg base 1:=b6m X G FC FI a9V (by decide +kernel) rfl (λ_ _ _ _ _ _ us hl=>by obtain ⟨_,_,_,_,_,rfl⟩:=c2j hl;rfl);have YN:=b4q l.prog w base D0 B;have YO:=b4p l.prog w base D1 B  YN;have YK:=yA l.prog w base D2 B kb nb M tb0 hC0;have Yc:=b0W l.prog w base D3 B;have YF:=a5r l.prog w base D4 B;have YQ:=a1h l.prog w base D5 B  YK Yc YF;have YD:=b1a l.prog w base D6 B  YQ;have Ya:=a8l l.prog w base D7 B;have YR:=b0Y l.prog w base D8 B  Ya
 have YZ:=a2I l.prog w base D9 B  YR
 have Yd:=b0V l.prog w base D10 B;have YJ:=b4r l.prog w base D11 B  YK;have YH:=a8n l.prog w base D12 B  YJ;have Yj:=a8i l.prog w base D13 B  YH Yd YZ;have YX:=a5p l.prog w base D14 B;have Ye:=a8j l.prog w base D15 B  YX Yc;have YA:=b4s l.prog w base D16 B  Yj Ye;have Yb:=a8k l.prog w base D17 B;have YB:=b6S l.prog w base D18 B  YD Yb YA;have Yg:=a5o l.prog w base D19 B;have YW:=b0X l.prog w base D20 B  YZ;have YV:=xZ l.prog w base D21 B FC YY;have YU:=a2J l.prog w base D22 B FC YY;have Yh:=a0t l.prog w base D23 B FC  YV YW YU YZ;have YS:=a2K l.prog w base D24 B FC YY;have Yi:=b0U l.prog w base D25 B FC  Yh YZ YS;have YC:=a8o l.prog w base D26 B kb nb M tb1 hC1;have YT:=b4o l.prog w base D27 B FC;have YE:=a0u l.prog w base D28 B FC YY  YC Yi YT;have YI:=a5q l.prog w base D29 B  Yg YW YE YD;have YG:=a2L l.prog w base D30 B  YJ Yd YI;have YM:=a8m l.prog w base D31 B;have Yf:=a1g l.prog w base D32 B  Ye;have YL:=b0Z l.prog w base D33 B  Yb YM Yf;exact c1j l.prog w base (a4Y (st:=xB) l4 c4 k4) B YO YD YL YB YG
end L2.L3
open PySem PySem.W PyProof.Rows
namespace PySem.W.Fast
def tw8994547813860281562:True:=⟨⟩
def tw8311535811533512338:True:=⟨⟩
def tw18157836535585956223:True:=⟨⟩
def tw3292283647242730613:True:=⟨⟩
def tw639385339094707086:True:=⟨⟩
def tw12584239357465824872:True:=⟨⟩
def tw7393462854417003406:True:=⟨⟩
def tw3988702049046422794:True:=⟨⟩
def tw17182076767131276227:True:=⟨⟩
def tw3800534791168683278:True:=⟨⟩
def tw5575319540095584356:True:=⟨⟩
def tw13440815170040347087:True:=⟨⟩
def tw16471144676972108330:True:=⟨⟩
def tw13023948601639763715:True:=⟨⟩
def tw14354717888932573917:True:=⟨⟩
def tw5331261308906764978:True:=⟨⟩
def tw10188495604704903786:True:=⟨⟩
def tw90627147959991670:True:=⟨⟩
def tw16433046214477676879:True:=⟨⟩
def tw616640236692166586:True:=⟨⟩
def tw13245831469987190008:True:=⟨⟩
def tw4346323844795867761:True:=⟨⟩
def tw7250002182098370153:True:=⟨⟩
def tw15177126189355319397:True:=⟨⟩
def tw4431162993431210132:True:=⟨⟩
def tw10060185668549823305:True:=⟨⟩
def tw5097761884242073869:True:=⟨⟩
def tw733526078863578052:True:=⟨⟩
def tw9578320023025238837:True:=⟨⟩
def tw9965848968781094583:True:=⟨⟩
def tw9820216161983385721:True:=⟨⟩
def tw2705952757251667372:True:=⟨⟩
def tw14638066065642681064:True:=⟨⟩
def tw18270505294570652780:True:=⟨⟩
def tw10143114317969481831:True:=⟨⟩
def tw14270855437854924064:True:=⟨⟩
def tw15222067032258721387:True:=⟨⟩
def tw7151785637935107465:True:=⟨⟩
def tw5234804789167477438:True:=⟨⟩
def tw16914235936295479464:True:=⟨⟩
def tw1503689871611874717:True:=⟨⟩
def tw3779761882548006429:True:=⟨⟩
def tw6025336676418621304:True:=⟨⟩
def tw3122499446443822950:True:=⟨⟩
def tw8109834383573119225:True:=⟨⟩
def tw8333565183130328065:True:=⟨⟩
def tw8652352203069468425:True:=⟨⟩
def tw7576938578660467006:True:=⟨⟩
def tw4453710960603730033:True:=⟨⟩
def tw6828771965813588907:True:=⟨⟩
def tw9977747900848270650:True:=⟨⟩
def tw9273264029391138018:True:=⟨⟩
end PySem.W.Fast
set_option maxRecDepth 100000 in
set_option maxHeartbeats 0 in
theorem PySem.Challenge.cw_daysheet_k97_whole_rooms_by_hand_holds : PySem.Challenge.rw_daysheet_k97_whole_rooms_by_hand.Holds := by
 w_on;o_law;k_head;(case hw=>w_witness2)
 k_fill
 refine L2.L3.walkL (l:=zr) (k:=11) (F:=L2.L3.F_law) (x := "_law_script") [(206,L2.L3.lamQ "by_heads"),(89,L2.L3.lamQ "in_laying_order")] rfl rfl ⟨rfl,by decide,by decide⟩ (λw h Y=>PySem.W.km_in_of Y) (λw h Y=>PySem.W.km_tabs_of Y) ?cd ?ts ?F (λw ns hl=>L2.L3.e_law w ns hl)
 case cd=>exact λw=>L2.L3.all_cons ⟨⟨210,by kernel_rfl⟩,by kernel_rfl⟩ (L2.L3.all_cons ⟨⟨93,by kernel_rfl⟩,by kernel_rfl⟩ (λ_ h=>nomatch h))
 case ts=>exact λw=>L2.L3.lam_all (by kernel_rfl)
 case F=>
  intro w mg fa h KX G hmg;refine' L2.L3.law_mk KX G hmg ?B ?D0 ?D1 ?D2 ?D3 ?D4 ?D5 ?D6 ?D7 ?D8 ?D9 ?D10 ?D11 ?D12 ?D13 ?D14 ?D15 ?D16 ?D17 ?D18 ?D19 ?D20 ?D21 ?D22 ?D23 ?D24 ?D25 ?D26 ?D27 ?D28 ?D29 ?D30 ?D31 ?D32 ?D33 ?FC ?FI ?tb0 ?hC0 ?tb1 ?hC1 ?a4 ?l4 ?c4 ?k4
  (case tb0=>kernel_rfl);(case hC0=>kernel_rfl)
  (case tb1=>kernel_rfl);(case hC1=>kernel_rfl)
  (case a4=>k_is);(case l4=>k_is);(case c4=>k_is);(case k4=>k_is)
  (case B=>(refine' L2.L3.blt_mk KX G ?z0 ?z1 ?z2 ?z3 ?z4 ?z5 ?z6 ?z7 ?z8 ?z9 ?z10 ?z11 ?z12 ?z13 ?z14;(case z0=>k_is);(case z1=>k_is);(case z2=>k_is);(case z3=>k_is);(case z4=>k_is);(case z5=>k_is);(case z6=>k_is);(case z7=>k_is);(case z8=>k_is);(case z9=>k_is);(case z10=>k_is);(case z11=>k_is);(case z12=>k_is);(case z13=>k_is);(case z14=>k_is)))
  (case FC=>(refine' L2.L3.fcls_mk ?a0 ?c1 ?c2 ?c3 ?c4 ?n1 ?n2 ?n3 ?n4;(case a0=>k_is);(case c1=>k_is);(case c2=>k_is);(case c3=>k_is);(case c4=>k_is);(case n1=>k_is);(case n2=>k_is);(case n3=>k_is);(case n4=>k_is)))
  (case FI=>(refine' L2.L3.fin_mk ?a0 ?k1 ?k2 ?k3 ?k4 ?l ?c ?k;(case a0=>k_is);(case k1=>k_is);(case k2=>k_is);(case k3=>k_is);(case k4=>k_is);(case l=>k_is);(case c=>k_is);(case k=>k_is)))
  (case D0 | D1 | D2 | D3 | D4 | D5 | D6 | D7 | D8 | D9 | D10 | D11 | D12 | D13 | D14 | D15 | D16 | D17 | D18 | D19 | D20 | D23 | D25 | D26 | D28 | D29 | D30 | D31 | D32 | D33=>(refine' L2.L3.def_mk KX G ?a ?l ?c ?k;(case a=>k_is);(case l=>k_is);(case c=>k_is);(case k=>k_is)))
  (case D21=>(refine' L2.L3.fdef_mk ?a0 ?a ?i ?l ?c ?k;(case a0=>k_is);(case a=>k_is);(case i=>k_is);(case l=>k_is);(case c=>k_is);(case k=>k_is)))
  (case D22=>(refine' L2.L3.fdef_mk ?a0 ?a ?i ?l ?c ?k;(case a0=>k_is);(case a=>k_is);(case i=>k_is);(case l=>k_is);(case c=>k_is);(case k=>k_is)))
  (case D24=>(refine' L2.L3.fdef_mk ?a0 ?a ?i ?l ?c ?k;(case a0=>k_is);(case a=>k_is);(case i=>k_is);(case l=>k_is);(case c=>k_is);(case k=>k_is)))
  (case D27=>(refine' L2.L3.fdef_mk ?a0 ?a ?i ?l ?c ?k;(case a0=>k_is);(case a=>k_is);(case i=>k_is);(case l=>k_is);(case c=>k_is);(case k=>k_is)))

