import PyProof.Rows.All
import Wide.All
import OpenK.AllK
import Wide.FinOn
import Lean
import PyProof.EqAt
import PyProof.EqKinds
import PyProof.TupleCall
import PySem.Challenge.RW_daysheet_k81_whole_binders
set_option Elab.async false
set_option linter.all false
set_option maxRecDepth 100000
set_option maxHeartbeats 4000000
set_option bootstrap.genMatcherCode false
set_option genSizeOf false
set_option compiler.extract_closed false
open PySem renaming PyData->q8,wpAny_bind->j0,wpAny_pure->j3,starEach->j4,sizeLine->j5,SetTable->j6,mainGlobals->j7,backTo->j8,wpAny_Call_Name_kw->j9,wpAny_holding->k7,cellsFrom->k8,wpAny_newObj_type->k9,attributeBase->v1,rawInt->v2,wpAny_mono->v3,codeAny_builtin->v4,foldedSetIterable->v6,wpAny_call_entry->v8,behindInMarks->v9,compareOp->wa,swapsWith->wb,codeAny_mono->wc,wpAny_execs_cons->we,FuncData->wf,sysModules->wg,assignEach->wj,bootBuiltins->wl,keywordEach->wm,codeAny->wn,ofAClassStatement->wo,wpAny_callSpecial?_slot->wp,wpAny_setState_of->wq,wpAny_truthy_bool->wt,sizeLine_eq->wu,wpAny_setField_rec->ww,NameKind->wx,plainId_quiet->wy,binaryOp->wz,pickOrder->w5,wpAny_askSetting->w8,wpAny_rule->w9,wpAny_typeOf->ya,ReadsAll->yb,backToKw->yc,wpAny_pyIter_list->yd,codeAny_call_builtin->yf,wpAny_call->yg,wpAny_field->yh,wpAny_newFunctionEnv_cells->yi,wpAny_seqItems->yj,scanBound->yk,wpAny_attempt->ym,wpAny_passesOwn->yo,wpAny_specialOf->yp,pyNext->yq,tupleKind_room_in1->yr,hashByValue->yu,sliceBounds->yw,boot_len->yx,eqIsQuiet_byValue->yy,fits_of_scanBound->yz,newFunctionEnv->y3,wpAny_storeSet_of->y6,builtinLookup_eq_fast->y7,codeAny_call_function->y9,builtinsNs->ua,wpAny_forIn_list->uc,wpAny_isInstance->ud,swappedStores->uf,swapsWithSole->ug,valueAt->uh,wpAny_standAt->ui,HeapKind->uj,bindArgs->uk,wpAny_of_eq->ul,setNext->uq,TriplesOk->ur,getMethod->ut,GenState->uu,firstArgMember->ux,recursionLimit->uy,setEntries->uz,wpAny_runValue->u0,wpAny_Return_some->u4,wpAny_loadPart_at->u5,wpAny_newList->u6,PassesOwn->u7,checkBuiltinCall->u8,codeAmong->u9,lastMarks->QA,noFill_tuple_add->QB,noteFrame->QC,tupleKind->QD,wpAny_pyHash_int->QE,wpAny_pyHash_str->QF,call_meets->QG,compareChain->QH,concat_meets->QI,isInstance->QJ,pyIter->QK,setAddHashed->QL,compEnvC->QM,callerA->QN,pushCells->QO,standAt->QP,IsPart->QQ
open PyProof.Rows renaming seqObj->v7,boot_tuple->wv,envOfC->w4,get?_update_seq->yn,boot_sorted->yt,subscriptTail_builtinR->y4,sortedHeap->ub,listUpdate_at->ue,AllBare->um,listItems_at->uo,assignInOrder_cons->uw,StrsAre->u3
open Option.some renaming inj->qA
open PySem.W renaming Frag->qB,nsIn->jA,findIn->jF,mg_none_of->jM,kia_one->jX,keepIn->jY,fnOf->jg,emptyDict->jw,tabIn->kH,callWith_K->kI,instObj->kO,mg_of->kU,subIn->ky,codeIn->zD,cellsFrom_some->zP,kitOne->zV,plainGet->zW,codeHdIn->zX,hideAll_none->zZ,hasDictIn->vD,isFn->vV,hideAll->vW,tabObj->vo,lookIn->vp,plainGet_of->vt,hideAll_get->vv,of_hideAll->wB,codeRec_of->wC,plainOver->wG,methodObj->wH,kitx_list->wI,kitx_dict->wJ
open PySem.Heap renaming get?_push_of_some->qC,lt_size->qN,get?_push_size->qP,get?_update_other->qm,size_push->jW,SameBut->jx,get?_update_self->kS,get?_update_ne->ki,get?_none_of_le->zL
open List renaming length_map->qD,mem_cons_of_mem->qF,getElem?_eq_getElem->qG,map_cons->qI,mem_map->qK,mem_cons->qM,getElem?_map->qO,getElem?_eq_some_iff->qR,size_toArray->qS,getD_eq_getElem?_getD->qT,mem_singleton->qV,mem_append->qX,length_cons->qZ,mem_cons_self->qa,mem_append_right->qb,map_map->qc,length_append->qe,getElem?_append_left->qh,range->ql,all_eq_true->qp,getElem?_set_ne->qt,mem_filter->qy,getElem?_append_right->jB,map_append->jC,filter_cons_of_pos->jE,getElem?_eq_none->jG,flatten_cons->jI,pairwise_map->jK,nodup_append->jL,length_filter_le->jN,mem_range->jO,mem_append_left->jQ,getElem_mem->jR,filter_cons_of_neg->jV,all_cons->ja,toList_toArray->jc,append_nil->jd,ext_getElem?->je,pairwise_cons->jh,length_take->jj,mem_map_of_mem->jm,length_range->jo,getElem?_replicate->jt,nodup_cons->jy,mem_of_getElem?->kA,any_cons->kB,not_mem_nil->kF,lookup_cons->kG,length_nil->kP,getElem?_take_of_lt->kQ,getElem?_set->kR,flatten_nil->kY,getElem?_set_self->ke,find?_cons->kl,perm_ext_iff_of_nodup->kz,mem_iff_getElem->zC,replicate->zE,length_drop->zG,Nodup->zK,lookup->zU,of_mem_zip->zg,map_congr_left->zh,getElem?_range->zi,getD->zj,flatten_append->zl,filterMap_cons->zm,mem_filterMap->zr,lookup_append->zt,getElem?_drop->zu,find?_eq_none->zw,mem_of_find?_eq_some->vC,take_sublist->vG,length_eq_zero_iff->vK,length->vL,getElem?_cons_succ->vM,any_eq_true->vP,find?_cons_of_pos->vR,find?_cons_of_neg->vS,nil_append->vc,getElem?_toArray->vd,getElem?_of_mem->vn,filter_sublist->vy,eraseIdx_eq_take_drop_succ->wK,append_assoc->wL,map_nil->wM,nodup_range->wS,mem_flatten->wT,ext_getElem->wU
open Bool renaming and_eq_true->qE,false_ne_true->qf,false_eq_true->qi,not_eq_true'->jr,eq_iff_iff->jz,not_true->kW,noConfusion->zY,or_eq_true->vj,and_false->vq,or_false->wE
open Option renaming map_eq_some_iff->qH,isSome_map->zT
open Array renaming length_toList->qJ,getElem?_eq_getElem->qd,getElem?_toList->qk,getElem?_eq_some_iff->jf,toList_push->kE,getD->kT,getElem?_eq_none->zR,getD_eq_getD_getElem?->zo,perm_iff_toList_perm->zq,forIn_toList->zz,getElem_mem_toList->vI,any_toList->vQ,toList->wO
open Nat renaming le_refl->qQ,lt_of_lt_of_le->qU,ne_of_lt->qW,le_trans->qg,zero_le->qx,le_of_lt->jP,lt_irrefl->ji,lt_succ_of_lt->jn,ne_of_gt->kJ,lt_of_le_of_lt->kg,le_succ->kj,lt_succ_self->zF,lt_trans->vY,lt_or_ge->vZ,add_assoc->wD,not_lt_of_lt->wQ,le_add_right->wR
open PySem.SeqAt renaming shaped->qY,canLay_of_shaped->ku
open PySem.SetTable renaming below->qj,grown->zM,fresh->zf
open PySem renaming mem_of_lookup->qo,SetTable->kM,strKind->zc
open PySem.Value renaming ref->qr,bool->jv,none->kC,type->zH,builtin->vA,str->wA
open Or renaming inr->qu,inl->jT
open PySem.PyData renaming eqv->qv,str->qw,canLay0->jD,strOk->jJ,depth->jS,eqvAll->jb,depthAll->kX,int->km,canLayAll0->zd,bool->wP
open False renaming elim->qz
open Ne renaming symm->jH
open PySem.Around renaming under_plainId->jU
open Classical renaming byContradiction->jZ
open PySem.F renaming called_set->jk,slot_tuple_hash->ze,plainAttrs_list->vJ,slot_dict_get->vX,slot_list_getattribute->vf,slot_list_count->vg,plain_list_iadd->vh
open Int renaming toNat_natCast->jp,le_refl->zn,emod_lt_of_pos->zx,emod_nonneg->ve,le_of_lt->wN
open PySem.Builtin.Tuple renaming tupleHashOf->jq,tupleExact->zQ
open PySem.Builtin.List renaming listExtendWith->ju,listTooLong->vi
open PySem.Obj renaming mapSeq->kD,putSet->kr,data_mapFields->vO
open PyProof.Rows.F renaming plain_set_update_loop->kN,entry_set_update_loop->zp
open True renaming intro->kZ
open PySem.NameKind renaming free->kh,cell->vm
open PySem.Calls renaming spliced_cons->zA,spliced_nil->zJ,evalArgs_plain->zy,call_function_entry->vT,callWith_builtin->vz
open Sum renaming inr->zB
open Sum.inr renaming inj->zI
open List.cons renaming injEq->zN
open PySem.Builtin.Slice renaming slicePlaces->zO,sliceAdjust->vU
open PyProof.Rows renaming slot_tuple_getitem->zS
open PySem.Spec renaming lookup->za
open PySem.SetTable.below renaming go->zb
open PySem.Shared renaming TypeIs->vB
open PySem.Challenge renaming rw_daysheet_k81_whole_binders->vF
open PySem.Heap.SameBut renaming update->vH
open PySem.Str renaming ofString->vN
open PyProof.V renaming PairsRead->vx
open PySem.SeqAt.EqAt renaming bool_bool->wF
open PySem in abbrev T0a:=Value->Shared->Prop
open PySem in abbrev T0b:=List (Addr×Obj)
open PySem in abbrev T0d:=Str->Option Value
open PySem in abbrev T0e:=List (Option Nat)
open PySem in abbrev T0f:=List (Str×Addr)
open PySem in abbrev T0g:=List (Str×Value)
open PySem in abbrev T0k:=Option Addr
open PySem in abbrev T0l:=List q8
open PySem in abbrev T0m:=List Value
open PySem in abbrev T0n:=List Expr
open PySem in abbrev T0o:=List Addr
open PySem in abbrev T0p:=Option Value
open PySem in abbrev T0q:=List Str
open PySem in abbrev T0s:=List Int
open PySem in abbrev T0t:=List Nat
variable{a it C dx I:PySem.Addr}{o b e c tg iter value elt kx:PySem.Expr}{u doc pm cdv ct oc fl:PySem.Value}{P prog:PySem.Program}{w:PySem.World}{h' B base:PySem.Heap}{pz:List (PySem.Addr×PySem.Obj)}{s s':PySem.Shared}{t' i j k R tk k0 ep f0:Nat}{d':PySem.Drawn}{ch fp:List PySem.Addr}{N ns ps ks N' L:List PySem.Str}{M:PySem.Model}{A:PySem.Around}{E Q:PySem.Value->PySem.Shared->Prop}{pos pos' px py p tpos apos p2 cpos spos ap cp p0 pos2 np p3 xp p1:PySem.Pos}{op:PySem.CmpOp}{st:PySem.Stmt}{es ifs elts:List PySem.Expr}{g:List Bool}{vs its us:List PySem.Value}{lo hi:Option PySem.Expr}{pl js:List Nat}{body:List PySem.Stmt}{mA mg:PySem.Str->Option PySem.Value}{name qual q:PySem.Str}{kw:List (PySem.Str×PySem.Value)}{fd:wf}{O:List q8}{scope:PySem.Scope}{params:PySem.Arguments}{an od oa:Option PySem.Addr}{T:String}{sl:Array (Option PySem.Value)}{items:Array PySem.Value}{d da db dc:q8}{fr:PySem.Addr->Prop}{ops:List PySem.CmpOp}{led:Bool}{fps:List (List PySem.Addr)}{owner:Array (Option Nat)}{hs:List Int}
noncomputable section
namespace L2
open PySem PySem.Spec PyProof.Rows
noncomputable abbrev Key:=Sum Int Str
noncomputable def a1B:Key->Value->Bool|.inl k,v=>Value.isInt k v|.inr x,v=>Value.isStrOf x v
noncomputable def c5G(w:World):Key->Int|.inl k=>hashInt k|.inr x=>hashStr w x
def Q0{a b c:Nat}(h:a<=b)(k:Nat.ble (b+1) c=true):a<c:=Nat.le_trans (Nat.succ_le_succ h) (Nat.le_of_ble_eq_true k)
def Q2{a b c:Nat}(h:a<=b)(k:Nat.ble b c=true):a<=c:=Nat.le_trans h (Nat.le_of_ble_eq_true k)
def Q3{a b c:Nat}(h:a<b)(k:Nat.ble b c=true):a<c:=Nat.le_trans h (Nat.le_of_ble_eq_true k)
def Q4{a b c:Nat}(h:a<b)(k:Nat.ble b (c+1)=true):a<=c:=Nat.le_of_lt_succ (Nat.le_trans h (Nat.le_of_ble_eq_true k))
def Q5{a b c:Nat}(h:a=b)(k:b<c):a<c:=h▸k
def Q6{a b c:Nat}(h:a<=b)(k:b<c):a<c:=Nat.lt_of_le_of_lt h k
def dA:∀{k:Key}{v:Value},a1B k v=true->(∃i t,k=Sum.inl i/\v=Value.int i t)\/(∃x t,k=zB x/\v=wA x t)|.inl i,v,h=>by obtain⟨t,e⟩:=Value.isInt_shape (k:=i) (v:=v) h;exact .inl ⟨i,t,rfl,e⟩|.inr x,v,h=>by obtain⟨t,e⟩:=Value.isStrOf_shape (x:=x) (v:=v) h;exact .inr ⟨x,t,rfl,e⟩
def b2O i t:a1B (.inl i) (.int i t)=true:=by simp[a1B,Value.isInt]
def b2N x t:a1B (.inr x) (.str x t)=true:=by simp[a1B,Value.isStrOf]
def c2h a b:decide ((Sum.inl a:Key)=Sum.inl b)=(a==b):=by
 by_cases e:a=b;·subst e;simp
 ·have h:¬(Sum.inl a:Key)=Sum.inl b:=λq=>e (Sum.inl.inj q);rw[decide_eq_false h];exact(beq_eq_false_iff_ne.mpr e).symm
def c2e a b:decide ((zB a:Key)=zB b)=decide (a=b):=by
 by_cases e:a=b;·subst e;simp
 ·have h:¬(zB a:Key)=zB b:=λq=>e (zI q);rw[decide_eq_false h,decide_eq_false e]
def c2g a b:decide ((Sum.inl a:Key)=zB b)=false:=decide_eq_false (λq=>nomatch q)
def c2f a b:decide ((zB a:Key)=Sum.inl b)=false:=decide_eq_false (λq=>nomatch q)
def bI(prog:Program)(w:World):PySem.KeyKind prog w Key where
 is:=a1B;hash:=c5G w;inj:=λv a b ha hb=>by
  rcases dA ha with⟨i,t,rfl,rfl⟩|⟨x,t,rfl,rfl⟩
  ·rcases dA hb with⟨j,u,rfl,e⟩|⟨y,u,rfl,e⟩;·injection e with e1 _;rw[e1]
   ·exact nomatch e
  ·rcases dA hb with⟨j,u,rfl,e⟩|⟨y,u,rfl,e⟩;·exact nomatch e
   ·injection e with e1 _;rw[e1]
 byValue:=λk v h=>by rcases dA h with⟨i,t,rfl,rfl⟩|⟨x,t,rfl,rfl⟩<;>rfl
 pyHash:=λhv h=>by
  rcases dA hv with⟨i,t,rfl,rfl⟩|⟨x,t,rfl,rfl⟩;·exact QE h
  ·exact QF h
 eqBool:=λhu hv h=>by
  rcases dA hu with⟨i,t,rfl,rfl⟩|⟨x,t,rfl,rfl⟩
  ·rcases dA hv with⟨j,u,rfl,rfl⟩|⟨y,u,rfl,rfl⟩;·rw[c2h]at h;exact wpAny_eqBool_int h
   ·rw[c2g]at h;exact SeqAt.EqAt.int_str i t y u _ _ _ _ h
  ·rcases dA hv with⟨j,u,rfl,rfl⟩|⟨y,u,rfl,rfl⟩;·rw[c2f]at h;exact SeqAt.EqAt.str_int x t j u _ _ _ _ h
   ·rw[c2e]at h;exact wpAny_eqBool_str h
 «strs»:=λk x t v h=>by
  rcases dA h with⟨i,u,rfl,e⟩|⟨y,u,rfl,e⟩;·exact nomatch e
  ·injection e with e1 _;subst e1;cases v<;>rfl
def a9u prog w k v:(bI prog w).is k v=a1B k v:=rfl
def a1v prog w i t:(bI prog w).is (.inl i) (.int i t)=true:=b2O i t
def a1u prog w x t:(bI prog w).is (.inr x) (.str x t)=true:=b2N x t
inductive V where|non|bl(b:Bool)|int(i:Int)|str(x:Str)|byt(b:Array UInt8)|flt(b:UInt64)|ref(a:Addr)|ty(n:String)deriving DecidableEq
def RelV:V->Value->Prop|.non,u=>u=kC|.bl b,u=>u=jv b|.int i,u=>∃t,u=Value.int i t|.str x,u=>∃t,u=wA x t|.byt b,u=>∃t,u=Value.bytes b t|.flt b,u=>∃t,u=Value.float b t|.ref a,u=>u=qr a|.ty n,u=>u=zH n
abbrev bH:List V->List Value->Prop:=Paired RelV
theorem bH.length{us:T0m}(r:bH Y us):Y.length=us.length:=Paired.length r
theorem bH.get:∀{Y:List V}{us:T0m}{i:Nat}{x:V},bH Y us->Y[i]?=some x->∃u,us[i]?=some u/\RelV x u|_,_,_,_,.nil,e=>by simp at e|_,_,0,_,.cons r _,e=>by simp at e;subst e;exact⟨_,rfl,r⟩|_,_,i+1,x,.cons _ t,e=>by obtain⟨u,B,a⟩:=bH.get (i:=i) (x:=x) t (by simpa using e);exact⟨u,by simpa using B,a⟩
theorem bH.append:∀{Y ys:List V}{us a:T0m},bH Y us->bH ys a->bH (Y++ys) (us++a)|_,_,_,_,.nil,s=>s|_,_,_,_,.cons r t,s=>.cons r (bH.append t s)
theorem bH.take:∀{Y:List V}{us:T0m} n,bH Y us->bH (Y.take n) (us.take n)|_,_,0,_=>.nil|_,_,_+1,.nil=>.nil|_,_,n+1,.cons r t=>.cons r (bH.take n t)
theorem bH.drop:∀{Y:List V}{us:T0m} n,bH Y us->bH (Y.drop n) (us.drop n)|_,_,0,r=>r|_,_,_+1,.nil=>.nil|_,_,n+1,.cons _ t=>bH.drop n t
def tR:Option V->Option Value->Prop|some v,some u=>RelV v u|none,none=>True|_,_=>False
def KV{κ:Type}:List (κ×V)->List (κ×Value)->Prop:=Paired λ p q=>p.1=q.1/\RelV p.2 q.2
noncomputable def kV:Key->V|.inl i=>.int i|.inr x=>.str x
inductive HO where|lst(Y:List V)|tup(Y:List V)|dK(kvs:List (Key×V))|dT(kvs:List (List Key×V))|set(S:Int->Bool)(n:Nat)|ins(C dx:Addr)(fs:List (Str×V))|own(x:Addr)|xd(fs:List (Str×V))|met(f x:Addr)|rng(lo hi:Int)|frz(o:Obj)(u:HO)|tbl(ps:Str×Array Value)|ext(φ:Heap->Prop)
noncomputable abbrev Hp:=Addr->Option HO
noncomputable def upd(H:Hp)(a:Addr)(o:HO):Hp:=λb=>if b=a then some o else H b
variable{H:Hp}{o:HO}
def aJ:upd H a o a=some o:=by unfold upd;rw[if_pos rfl]
variable{b:Addr}
def aE(h:b≠a):upd H a o b=H b:=by unfold upd;rw[if_neg h]
def bS{u:HO}(h:H a=some o)(h':H b=some u)(d:o≠u):a≠b:=by intro e;subst e;rw[h]at h';exact d (qA h')
def aK(h:H a=some o)(h':H b=none):a≠b:=by intro e;subst e;rw[h]at h';cases h'
section
variable(P:Program)(w:World)
def cU(H:Hp)(h:Heap)(a:Addr):HO->Prop|.lst Y=>Y.length<=j5/\∃its n,bH Y its/\h.get? a=some {cls:=.type "list",data:=.seq its.toArray n}|.tup Y=>Y.length<=j5/\∃its:List Value,bH Y its/\IsTup h a its.toArray|.dK kvs=>kvs.length<=j5/\(a==wg)=false/\∃vs,KV kvs vs/\h.DictOf (bI P w) a vs|.dT kvs=>kvs.length<=j5/\(a==wg)=false/\∃Y:List (List Key×Addr×Value),Paired (λ p q=>p.1=q.1/\H q.2.1=some (.tup (p.1.map kV))/\RelV p.2 q.2.2) kvs Y/\∃o es ep,h.get? a=some o/\o.ExactDict/\o.data=.dict es ep/\es.toList=Y.map (entryOfKey (QD (bI P w)))/\(Y.map (·.1)).Nodup|.set S n=>h.SetOf (intKind P w) a S n|.ins C dx fs=>H dx=some (.own a)/\fs.length<=1000/\dx≠a/\h.get? a=some (kO C dx)/\∃mA,h.Ns1 dx mA/\(∀f,tR (fs.lookup f) (mA f))/\PySem.Within mA (fs.map (·.1))|.own _=>∃o,h.get? a=some o|.xd fs=>∃mA,h.Ns1 a mA/\∀f,tR (fs.lookup f) (mA f)|.rng lo hi=>∃t u v,h.get? a=some {cls:=.type "range",data:=.fields #[.int lo t,.int hi u,.int 1 v]}|.frz o u=>h.get? a=some o/\cU H h a u|.tbl ps=>h.get? a=some {cls:=.none,data:=.fields ps.2}|.met f x=>h.get? a=some (wH (.ref f) (.ref x))|.ext φ=>φ h/\(∃o,h.get? a=some o)/\∀B h2:Heap,φ B->(∀o,B.get? a=some o->h2.get? a=some o)->φ h2
def HOk(H:Hp)(h:Heap):Prop:=∀a o,H a=some o->cU P w H h a o
end
variable{H':Hp}
section
variable{h:Heap}
theorem cU.lt(x:cU P w H h a o):a<h.objs.size:=by cases o with|lst Y=>obtain⟨_,_,_,_,e⟩:=x;exact qN e|tup Y=>obtain⟨_,_,_,p⟩:=x;exact p.lt|dK b=>obtain⟨_,_,_,_,o,_,_,e,_⟩:=x;exact qN e|dT b=>obtain⟨_,_,_,_,o,_,_,e,_⟩:=x;exact qN e|set S n=>obtain⟨o,_,_,_,e,_⟩:=x;exact qN e|ins C j fs=>obtain⟨_,_,_,e,_⟩:=x;exact qN e|own y=>obtain⟨_,e⟩:=x;exact qN e|xd fs=>obtain⟨_,⟨_,_,_,e,_⟩,_⟩:=x;exact qN e|rng g i=>obtain⟨_,_,_,e⟩:=x;exact qN e|frz ob u=>obtain⟨e,_⟩:=x;exact qN e|tbl d=>exact qN (show h.get? a=some _ from x)|met f y=>exact qN (show h.get? a=some _ from x)|ext c=>obtain⟨_,⟨_,e⟩,_⟩:=x;exact qN e
theorem Paired.mapP:∀{d:List α}{c:List β},Paired F d c->(∀a b,F a b->G a b)->Paired G d c|_,_,.nil,_=>.nil|_,_,.cons r t,f=>.cons (f _ _ r) (Paired.mapP t f)
def cU.stay(x:cU P w H h a o)(k:∀b u,(b=a\/H b=some (.own a))->h.get? b=some u->h'.get? b=some u)(J:∀b,H b=some (.own a)->H' b=some (.own a))(I:∀b Y,H b=some (.tup Y)->H' b=some (.tup Y)):cU P w H' h' a o:=by induction o with|lst Y=>obtain⟨z,j,n,r,e⟩:=x;exact⟨z,j,n,r,k _ _ (.inl rfl) e⟩|tup Y=>obtain⟨z,j,r,ob,e,c⟩:=x;exact⟨z,j,r,ob,k _ _ (.inl rfl) e,c⟩|dK D=>obtain⟨z,y,F,r,ob,g,i,e,c⟩:=x;exact⟨z,y,F,r,ob,g,i,k _ _ (.inl rfl) e,c⟩|dT D=>obtain⟨z,y,Y,r,ob,g,i,e,c⟩:=x;exact⟨z,y,Y,Paired.mapP r λp q z=>⟨z.1,I _ _ z.2.1,z.2.2⟩,ob,g,i,k _ _ (.inl rfl) e,c⟩|set S n=>obtain⟨ob,g,i,t,e,c⟩:=x;exact⟨ob,g,i,t,k _ _ (.inl rfl) e,c⟩|ins C R fs=>obtain⟨d,z,ne,e,A,⟨s,g,i,K,c⟩,r⟩:=x;exact⟨J _ d,z,ne,k _ _ (.inl rfl) e,A,⟨s,g,i,k _ _ (.inr d) K,c⟩,r⟩|own y=>obtain⟨ob,e⟩:=x;exact⟨ob,k _ _ (.inl rfl) e⟩|xd fs=>obtain⟨A,⟨s,g,i,e,c⟩,r⟩:=x;exact⟨A,⟨s,g,i,k _ _ (.inl rfl) e,c⟩,r⟩|rng N Q=>obtain⟨t,u,v,e⟩:=x;exact⟨t,u,v,k _ _ (.inl rfl) e⟩|frz ob u G=>obtain⟨e,q⟩:=x;exact⟨k _ _ (.inl rfl) e,G q⟩|tbl M=>have e:=x;exact k a _ (.inl rfl) e|met f y=>have e:=x;exact k a _ (.inl rfl) e|ext L=>obtain⟨p,⟨o,e⟩,E⟩:=x;exact⟨E _ _ p λo q=>k _ _ (.inl rfl) q,⟨o,k _ _ (.inl rfl) e⟩,E⟩
theorem HOk.lt(x:HOk P w H h)(e:H a=some o):a<h.objs.size:=(x a o e).lt
def HOk.fresh(x:HOk P w H h)(e:h.objs.size<=a):H a=none:=by cases q:H a with|none=>rfl|some u=>exact absurd (qU (x.lt q) e) (ji _)
abbrev U9(h h':Heap):Prop:=∀b o,h.get? b=some o->h'.get? b=some o
theorem HOk.kept(x:HOk P w H h)(k:U9 h h'):HOk P w H h':=λa o e=>(x a o e).stay (λb u _ q=>k b u q) (λ_ q=>q) λ_ _ q=>q
theorem HOk.laid(x:HOk P w H h)(k:U9 h h')(i:h.objs.size<=a)(d:cU P w (upd H a o) h' a o):HOk P w (upd H a o) h':=λb u e=>by
 have f:=x.fresh i;by_cases g:b=a;·subst g;rw[aJ]at e;cases e;exact d
 ·rw[aE g]at e;exact(x b u e).stay (λc v _ q=>k c v q) (λc q=>by rwa[aE (aK q f)]) λc Y q=>by rwa[aE (aK q f)]
end
def Rd(H:Hp)(a:Addr)(u:HO):Prop:=H a=some u\/∃o,H a=some (.frz o u)
theorem Rd.ok{u:HO}(r:Rd H a u)(x:HOk P w H h):cU P w H h a u:=by
 obtain r|⟨o,r⟩:=r;·exact x a u r
 ·obtain⟨_,q⟩:=x a _ r;exact q
def Mut:Option HO->Prop|some (.lst _)=>True|some (.dK _)=>True|some (.dT _)=>True|some (.set _ _)=>True|some (.ins _ _ _)=>True|some (.ext _)=>True|_=>False
section
variable{h:Heap}{x e:Addr}{o':HO}
def HOk.write(ok:HOk P w H h)(s:Mut (H x))(t:e=x\/H e=some (.own x))(k:∀b u,b≠e->h.get? b=some u->h'.get? b=some u)(o:∃u,h'.get? e=some u)(j:cU P w (upd H x o') h' x o'):HOk P w (upd H x o') h':=λb u q=>by
 have d:∀c y,H c=some (.own y)->c≠x:=λc y r z=>by subst z;rwa[r]at s
 have f:∀c Y,H c=some (.tup Y)->c≠x:=λc Y r z=>by subst z;rwa[r]at s
 by_cases i:b=x;·subst i;rw[aJ]at q;cases q;exact j
 ·rw[aE i]at q;by_cases a:b=e
  ·have p:H b=some (.own x):=by
    obtain z|z:=t;·exact absurd (a.trans z) i
    ·rwa[a]
   rw[q]at p;cases p;obtain⟨v,A⟩:=o;exact⟨v,by rwa[a]⟩
  ·refine(ok b u q).stay (λc v g r=>k c v ?_ r) (λc r=>by rw[aE (d c b r)];exact r) λc Y r=>by rw[aE (f c Y r)];exact r
   obtain rfl|g:=g;·exact a
   ·rintro rfl;obtain z|z:=t;·exact d c b g z
    ·rw[g]at z;cases z;exact i rfl
end
structure Un(fs ex:T0o)(H H':Hp)(h h':Heap):Prop where
 keep:∀b o,h.get? b=some o->H b=none->b∉fs->b∉ex->h'.get? b=some o
 slot:∀b o,h.get? b=some o->H b=none->b∈fs->b∉ex->∃sl,h'.get? b=some {o with slots:=sl}free:∀b o,h.get? b=some o->H b=none->b∉ex->H' b=none
 there:∀b o,h.get? b=some o->b∉ex->∃o',h'.get? b=some o'
 tups:∀b Y,H b=some (.tup Y)->H' b=some (.tup Y)frzs:∀b o u,H b=some (.frz o u)->H' b=some (.frz o u)tbls:∀b ps,H b=some (.tbl ps)->∃more,H' b=some (.tbl (ps.1,ps.2++more))
section
variable{fs fs' ex ex':T0o}{H1 H2:Hp}{h h2:Heap}{x e:Addr}
theorem Un.any(u:Un fs ex H H1 h B){ob:Obj}(q:h.get? b=some ob)(n:H b=none)(hx:b∉ex):∃sl,B.get? b=some {ob with slots:=sl}:=by
 by_cases a:b∈fs;·exact u.slot b ob q n a hx
 ·exact⟨ob.slots,u.keep b ob q n a hx⟩
def Un.trans(a:Un fs ex H H1 h B)(b:Un fs ex H1 H2 B h2):Un fs ex H H2 h h2 where
 keep:=λc ob q n f d=>b.keep c ob (a.keep c ob q n f d) (a.free c ob q n d) f d;slot:=λc ob q n f d=>by obtain⟨r,e⟩:=a.slot c ob q n f d;obtain⟨g,j⟩:=b.slot c _ e (a.free c ob q n d) f d;exact⟨g,j⟩
 free:=λc ob q n d=>by obtain⟨i,e⟩:=a.there c ob q d;exact b.free c i e (a.free c ob q n d) d
 there:=λc ob q d=>by obtain⟨i,e⟩:=a.there c ob q d;exact b.there c i e d
 tups:=λc Y q=>b.tups c Y (a.tups c Y q);frzs:=λc ob Y q=>b.frzs c ob Y (a.frzs c ob Y q);tbls:=λc k q=>by obtain⟨p,e⟩:=a.tbls c k q;obtain⟨o,j⟩:=b.tbls c _ e;exact⟨p++o,by rw[j];simp⟩
def Un.kept(k:U9 h h'):Un fs ex H H h h':=⟨λb ob q _ _ _=>k b ob q,λb ob q _ _ _=>⟨ob.slots,k b ob q⟩,λ_ _ _ n _=>n,λb ob q _=>⟨ob,k b ob q⟩,λ_ _ q=>q,λ_ _ _ q=>q,λ_ a q=>⟨#[],by rw[q];simp⟩⟩
def Un.refl:Un fs ex H H h h:=Un.kept λ_ _ q=>q
def Un.laid(k:U9 h h')(d:h.objs.size<=a)(c:H a=none):Un fs ex H (upd H a o) h h' where
 keep:=λb u q _ _ _=>k b u q;slot:=λb u q _ _ _=>⟨u.slots,k b u q⟩;free:=λb u q n _=>by rwa[aE (qW (qU (qN q) d))]
 there:=λb u q _=>⟨u,k b u q⟩;tups:=λb Y q=>by rwa[aE (aK q c)]
 frzs:=λb u Y q=>by rwa[aE (aK q c)]
 tbls:=λb e q=>⟨#[],by rw[aE (aK q c),q];simp⟩
def Un.write(c:Mut (H x))(j:e=x\/H e=some (.own x))(k:∀b u,b≠e->h.get? b=some u->h'.get? b=some u)(f:∃u,h'.get? e=some u):Un fs ex H (upd H x o) h h':=by
 have g:∀b,H b=none->b≠x:=λb n z=>by subst z;rwa[n]at c
 have i:∀b,H b=none->b≠e:=λb n z=>by
  subst z;obtain r|r:=j;·exact g b n r
  ·rw[n]at r;cases r
 have d:∀b u,H b=some u->¬Mut (some u)->b≠x:=λb u q nm z=>by subst z;rw[q]at c;exact nm c
 refine⟨λb u q n _ _=>k b u (i b n) q,λb u q n _ _=>⟨u.slots,k b u (i b n) q⟩,λb u q n _=>by rwa[aE (g b n)],λb u q _=>?_,λb Y q=>by rwa[aE (d b _ q λz=>z)],λb u Y q=>by rwa[aE (d b _ q λz=>z)],λb p q=>⟨#[],by rw[aE (d b _ q λz=>z),q];rfl⟩⟩;by_cases a:b=e;·subst a;exact f
 ·exact⟨u,k b u a q⟩
def Un.mono(u:Un fs ex H H1 h B)(hs:∀b∈fs,b∈fs')(hx:∀b∈ex,b∈ex'):Un fs' ex' H H1 h B:=⟨λb ob q n c a=>u.keep b ob q n (λz=>c (hs b z)) λz=>a (hx b z),λ_ _ q n _ a=>u.any q n λz=>a (hx _ z),λb ob q n a=>u.free b ob q n λz=>a (hx b z),λb ob q a=>u.there b ob q λz=>a (hx b z),u.tups,u.frzs,u.tbls⟩
end
noncomputable def trk(h:Heap)(H:Hp):List Addr:=(ql h.objs.size).filter λa=>(H a).isSome
def a3X(h:Heap)(H:Hp):Heap:=vW h (trk h H)
def b2Q h H:(a3X h H).objs.size=h.objs.size:=PySem.W.hideAll_size _ _
def b5L{o:Obj}(e:h.get? b=some o)(n:H b=none):(a3X h H).get? b=some o:=vv _ e λa=>by have q:=(qy.mp a).2;rw[n]at q;simp at q
def b8q{o:Obj}(e:(a3X h H).get? b=some o):h.get? b=some o/\H b=none:=by have a:=wB (trk h H) e;refine⟨a,?_⟩;cases q:H b with|none=>rfl|some x=>have c:b∈trk h H:=qy.mpr ⟨jO.mpr (qN a),by simp[q]⟩;have z:(a3X h H).get? b=none:=zZ (trk h H) c;rw[z]at e;cases e
noncomputable def b9U(g h:Heap)(L:Addr):List (Addr×Obj):=(ql h.objs.size).filterMap λa=>if a=L\/(g.get? a).isSome=true then none else(h.get? a).map λo=>(a,o)
def rest(g h:Heap)(L d:Addr):List (Addr×Obj):=(b9U g h L).filter λp=>decide (p.1≠d)
structure Mod(K:qB)(mg:T0d)(base:Heap):Prop where
 kin:K.In base
 glob:base.Ns j7 mg
 blt:∃mb,base.Ns ua mb/\∀x:Str,x≠"__name__"->mb x=wl x
 nolimit:base.NoLimit
structure Cx where
 prog:Program
 w:World
 K:qB
 mg:Str->Option Value
 base:Heap
 A:Around
 N:List Str
 s₀:Shared
 H₀:Hp
 env:Env
 outer:List Env
 stack:List Env
 ex:List Addr
 fn:Str->Bool
 calm:Bool
 pn:List (Addr×Obj)xe:Value->Shared->Prop
noncomputable def frs(l:List Env):List Addr:=l.filterMap (·.frame)
abbrev Cx.fs(X:Cx):List Addr:=frs X.outer
def Vis(sc:Scope)(x:Str):Prop:=sc.names.lookup x=some .local\/sc.names.lookup x=some .cell\/sc.names.lookup x=some .free
def Loc(sc:Scope)(x:Str):Prop:=sc.names.lookup x=some .local\/sc.names.lookup x=some .cell
def Look(env:Env)(h:Heap)(m:T0d)(x:Str)(u:Value):Prop:=(env.kindOf x=some .local/\m x=some u)\/((env.kindOf x=some .cell\/env.kindOf x=some .free)/\∃c,env.cells.lookup x=some c/\h.IsCell c (some u))
structure Cx.Ok(X:Cx):Prop where
 mod:Mod X.K X.mg X.base
 kind:X.env.scope.kind=.function
 glob:X.env.globals=j7
 blt:X.env.builtins=ua
 above:X.s₀.heap.objs.size<=X.env.locals
 inj:∀x y c,X.env.cells.lookup x=some c->X.env.cells.lookup y=some c->x=y
 has:∀x,(X.env.kindOf x=some .cell\/X.env.kindOf x=some .free)->∃c,X.env.cells.lookup x=some c
 cab:∀x c,X.fn x=true->X.env.cells.lookup x=some c->X.s₀.heap.objs.size<=c
 hd:X.calm=true->X.A.handled=none
 frames:X.A.frames=some X.stack
 stk:X.stack=X.outer\/(X.stack=X.env::X.outer/\X.env.frame=some X.env.locals)exf:∀b∈X.ex,b≠X.env.locals/\∀x c,X.env.cells.lookup x=some c->c≠b
 bs:∀b o,X.base.get? b=some o->X.s₀.heap.get? b=some o/\X.H₀ b=none
 bsz:X.base.objs.size<=X.s₀.heap.objs.size
 noex:∀b o,X.base.get? b=some o->b∉X.ex
 exfs:∀b∈X.ex,b∉X.fs
 funs:X.s₀.heap.FunFrames X.base X.outer
 frf:∀b∈X.fs,X.H₀ b=none
structure Inv(X:Cx)(pz:T0b)(U:List (Option V))(H:Hp)(s:Shared):Prop where
 ok:X.Ok
 os:s.os=X.s₀.os
 bare:um s.gens
 base:Un X.fs X.ex X.H₀ H X.s₀.heap s.heap
 loc:∃m,s.heap.Ns X.env.locals m/\∀(i:Nat) x v,X.N[i]?=some x->U[i]?=some (some v)->Vis X.env.scope x->∃u,RelV v u/\Look X.env s.heap m x u
 cell:∀x c,X.env.cells.lookup x=some c->∃v,s.heap.IsCell c v
 free:H X.env.locals=none
 freeC:∀x c,X.env.cells.lookup x=some c->H c=none
 pin:∀p∈X.pn++pz,s.heap.get? p.1=some p.2/\H p.1=none/\p.1≠X.env.locals/\p.1∉X.fs/\∀v,p.2.data≠.cell v
 hok:HOk X.prog X.w H s.heap
 len:U.length=X.N.length
variable{X:Cx}{g':Array uu}{v:V}
section
variable{U:List (Option V)}
theorem Cx.Ok.nofr(ok:X.Ok){o:Obj}(e:X.base.get? b=some o):b∉X.fs:=λa=>by have:=(ok.funs.mem a).1;rw[e]at this;cases this
theorem Inv.bs(I:Inv X pz U H s):∀b o,X.base.get? b=some o->s.heap.get? b=some o/\H b=none:=λb o e=>⟨I.base.keep b o (I.ok.bs b o e).1 (I.ok.bs b o e).2 (I.ok.nofr e) (I.ok.noex b o e),I.base.free b o (I.ok.bs b o e).1 (I.ok.bs b o e).2 (I.ok.noex b o e)⟩
theorem Inv.bk(I:Inv X pz U H s):∀b o,X.base.get? b=some o->s.heap.get? b=some o:=λb o e=>(I.bs b o e).1
theorem Inv.mod(I:Inv X pz U H s):Mod X.K X.mg X.base:=I.ok.mod
theorem Inv.kIn(I:Inv X pz U H s):X.K.In s.heap:=I.ok.mod.kin.keeps I.bk
theorem Inv.lt(I:Inv X pz U H s):X.env.locals<s.heap.objs.size:=let⟨_,hn,_⟩:=I.loc;hn.lt
theorem Inv.sz(I:Inv X pz U H s):X.s₀.heap.objs.size<=s.heap.objs.size:=qg I.ok.above (jP I.lt)
theorem Inv.nofs(I:Inv X pz U H s)(h:s.heap.objs.size<=a):a∉X.fs:=λc=>by obtain⟨_,o,b,_⟩:=I.ok.funs.mem c;exact absurd (qU (qN b) (qg I.sz h)) (ji _)
theorem Inv.cne(I:Inv X pz U H s):∀x c,X.env.cells.lookup x=some c->c≠X.env.locals:=λx c e z=>by obtain⟨v,o,d,f⟩:=I.cell x c e;obtain⟨m,⟨g,i,j,a,b,_⟩,_⟩:=I.loc;rw[z,a]at d;cases d;rw[b]at f;cases f
theorem Inv.funs(I:Inv X pz U H s):s.heap.FunFrames X.base X.outer:=by
 have all:∀(l:List Env),(∀b∈frs l,b∈X.fs)->X.s₀.heap.FunFrames X.base l->s.heap.FunFrames X.base l:=by intro l;induction l with|nil=>intro _ _;trivial|cons t r g=>rintro f⟨p,⟨L,o,a,k,j,q⟩,i⟩;have d:=f L (by unfold frs;rw[zm,a];exact qa);obtain⟨u,e⟩:=I.base.slot L o j (I.ok.frf L d) d λz=>I.ok.exfs L z d;exact⟨p,⟨L,_,a,k,e,q⟩,g (λb c=>f b (by unfold frs;rw[zm,a];exact qF _ c)) i⟩
 exact all X.outer (λ_ c=>c) I.ok.funs
theorem Inv.stack(I:Inv X pz U H s):s.heap.FunFrames X.base X.stack:=by
 obtain e|⟨e,b⟩:=I.ok.stk;·rw[e];exact I.funs
 ·rw[e];obtain⟨m,a,_⟩:=I.loc;exact .cons (by rw[I.ok.kind];decide) b a (zL (qg I.ok.bsz I.ok.above)) I.funs
def Inv.stkSub(I:Inv X pz U H s):∀b∈frs X.stack,b∈X.env.locals::X.fs:=λb a=>by
 obtain e|⟨e,c⟩:=I.ok.stk;·rw[e]at a;exact qF _ a
 ·rw[e]at a;unfold frs at a;rwa[zm,c]at a
def Inv.stkFree(I:Inv X pz U H s):∀b∈frs X.stack,H b=none:=λb a=>by
 rcases qM.mp (I.stkSub b a)with e|a;·rw[e];exact I.free
 ·obtain⟨_,o,c,_⟩:=I.ok.funs.mem a;exact I.base.free b o c (I.ok.frf b a) λz=>I.ok.exfs b z a
theorem Inv.step(I:Inv X pz U H s)(g:∀b∈ch,(b∈X.ex\/X.s₀.heap.objs.size<=b)/\b≠X.env.locals/\(∀x c,X.env.cells.lookup x=some c->c≠b)/\∀p∈X.pn++pz,p.1≠b)(keep:∀b o,b≠X.env.locals->b∉X.fs->b∉ch->s.heap.get? b=some o->H b=none->h'.get? b=some o)(y:∀b o,b≠X.env.locals->b∈X.fs->b∉ch->s.heap.get? b=some o->H b=none->∃sl,h'.get? b=some {o with slots:=sl})(free:∀b o,b∉ch->s.heap.get? b=some o->H b=none->H' b=none)(there:∀b o,b∉ch->s.heap.get? b=some o->∃o',h'.get? b=some o')(D:∀b Y,H b=some (.tup Y)->H' b=some (.tup Y))(G:∀b o u,H b=some (.frz o u)->H' b=some (.frz o u))(E:∀b ps,H b=some (.tbl ps)->∃more,H' b=some (.tbl (ps.1,ps.2++more)))(ns:∀m,s.heap.Ns X.env.locals m->h'.Ns X.env.locals m)(L:HOk X.prog X.w H' h')(hg:um g'):Inv X pz U H' {s with heap:=h',gens:=g',drawn:=d',toks:=t'}:=by
 have F:∀b o,X.s₀.heap.get? b=some o->b≠X.env.locals:=λb o e=>qW (qU (qN e) I.ok.above);have t:∀b o,X.s₀.heap.get? b=some o->b∉X.ex->b∉ch:=λb o e a A=>by
  rcases(g b A).1 with z|z;·exact a z
  ·exact absurd (qU (qN e) z) (ji _)
 have j:∀x c,X.env.cells.lookup x=some c->∀v,s.heap.IsCell c v->h'.IsCell c v:=by
  rintro x c e v⟨o,C,M⟩;have f:c∉ch:=λz=>(g c z).2.2.1 x c e rfl;by_cases Q:c∈X.fs;·obtain⟨sl,q⟩:=y c o (I.cne x c e) Q f C (I.freeC x c e);exact⟨_,q,M⟩
  ·exact⟨o,keep c o (I.cne x c e) Q f C (I.freeC x c e),M⟩
 refine⟨I.ok,I.os,hg,⟨λb o e n A a=>?_,λb o e n A a=>?_,λb o e n a=>?_,λb o e a=>?_,λb Y e=>D b Y (I.base.tups b Y e),λb o Y e=>G b o Y (I.base.frzs b o Y e),λb ps e=>?_⟩,?_,λx c e=>?_,?_,λx c e=>?_,λp P=>?_,L,I.len⟩;·exact keep b o (F b o e) A (t b o e a) (I.base.keep b o e n A a) (I.base.free b o e n a)
 ·obtain⟨sl,w⟩:=I.base.slot b o e n A a;obtain⟨K,J⟩:=y b _ (F b o e) A (t b o e a) w (I.base.free b o e n a);exact⟨K,J⟩
 ·obtain⟨o',w⟩:=I.base.there b o e a;exact free b o' (t b o e a) w (I.base.free b o e n a)
 ·obtain⟨o',w⟩:=I.base.there b o e a;exact there b o' (t b o e a) w
 ·obtain⟨S,w⟩:=I.base.tbls b ps e;obtain⟨R,J⟩:=E b _ w;exact⟨S++R,by rw[J];simp⟩
 ·obtain⟨m,T,hl⟩:=I.loc;refine⟨m,ns m T,λi x v w J e3=>?_⟩;obtain⟨u,r,l⟩:=hl i x v w J e3;refine⟨u,r,?_⟩;obtain l|⟨k,c,e,z⟩:=l;·exact .inl l
  ·exact .inr ⟨k,c,e,j x c e _ z⟩
 ·obtain⟨v,z⟩:=I.cell x c e;exact⟨v,j x c e v z⟩
 ·obtain⟨m,⟨o,_,_,C,_⟩,_⟩:=I.loc;exact free _ o (λz=>(g _ z).2.1 rfl) C I.free
 ·obtain⟨v,o,C,M⟩:=I.cell x c e;exact free c o (λz=>(g c z).2.2.1 x c e rfl) C (I.freeC x c e)
 ·obtain⟨e,n,ne,N,d⟩:=I.pin p P;have f:p.1∉ch:=λz=>(g p.1 z).2.2.2 p P rfl;exact⟨keep p.1 p.2 ne N f e n,free p.1 p.2 f e n,ne,N,d⟩
theorem Inv.un(I:Inv X pz U H s)(u:Un X.fs [] H H' s.heap h')(c:HOk X.prog X.w H' h'):Inv X pz U H' {s with heap:=h',toks:=t'}:=by obtain⟨m,⟨o,w,y,i,r⟩,_⟩:=id I.loc;obtain⟨q,p⟩:=u.any i I.free (by simp);exact I.step (g':=s.gens) (d':=s.drawn) (ch:=[]) (λ_ z=>nomatch z) (λb o _ d _ e n=>u.keep b o e n d (by simp)) (λb o _ d _ e n=>u.slot b o e n d (by simp)) (λb o _ e n=>u.free b o e n (by simp)) (λb o _ e=>u.there b o e (by simp)) u.tups u.frzs u.tbls (λv k=>by obtain⟨t,f,g,a,j⟩:=k;rw[i]at a;cases a;exact⟨_,f,g,p,j⟩) c I.bare
theorem Inv.call(I:Inv X pz U H s)(u:Un (frs X.stack) ch H H' s.heap h')(g:HOk X.prog X.w H' h')(w:um g')(f:∀b∈ch,(b∈X.ex\/X.s₀.heap.objs.size<=b)/\b≠X.env.locals/\(∀x c,X.env.cells.lookup x=some c->c≠b)/\∀p∈X.pn++pz,p.1≠b):Inv X pz U H' {s with heap:=h',gens:=g',drawn:=d',toks:=t'}:=by obtain⟨m,⟨o,E,F,q,r⟩,_⟩:=id I.loc;obtain⟨A,i⟩:=u.any q I.free λz=>(f _ z).2.1 rfl;exact I.step (ch:=ch) f (λb o i y a e n=>u.keep b o e n (λz=>(qM.mp (I.stkSub b z)).elim i y) a) (λb o _ _ a e n=>u.any e n a) (λb o a e n=>u.free b o e n a) (λb o a e=>u.there b o e a) u.tups u.frzs u.tbls (λD v=>by obtain⟨C,j,k,d,t⟩:=v;rw[q]at d;cases d;exact⟨_,j,k,i,t⟩) g w
def Inv.turned(I:Inv X pz U H s)(k:∀b o,b≠it->s.heap.get? b=some o->h'.get? b=some o)(i:H it=none)(f:it≠X.env.locals)(B:it∈X.ex\/X.s₀.heap.objs.size<=it)(y:∀x c,X.env.cells.lookup x=some c->c≠it)(w:∀p∈X.pn++pz,p.1≠it):Inv X pz U H {s with heap:=h',toks:=t'}:=by
 have d:∀b u,H b=some u->b≠it:=λb u e z=>by rw[z,i]at e;cases e
 refine I.step (g':=s.gens) (d':=s.drawn) (ch:=[it]) (λb t=>?_) (λb o _ _ a e _=>k b o (λz=>a (by simp[z])) e) (λb o _ _ a e _=>⟨o.slots,k b o (λz=>a (by simp[z])) e⟩) (λ_ _ _ _ n=>n)
  (λb o a e=>⟨o,k b o (λz=>a (by simp[z])) e⟩) (λ_ _ e=>e) (λ_ _ _ e=>e) (λb D e=>⟨#[],by rw[e];simp⟩) (λm j=>?_) (λb u e=>?_) I.bare
 ·have e:b=it:=by simpa using t
  subst e;exact⟨B,f,y,w⟩
 ·obtain⟨o,A,C,g,r⟩:=j;exact⟨o,A,C,k _ o (jH f) g,r⟩
 ·refine(I.hok b u e).stay (λc v a q=>k c v ?_ q) (λ_ q=>q) λ_ _ q=>q;obtain z|z:=a;·rw[z];exact d b u e
  ·exact d c _ z
theorem Inv.tok(I:Inv X pz U H s) t:Inv X pz U H {s with toks:=t}:=I.un (h':=s.heap) (t':=t) Un.refl I.hok
theorem Inv.kept{t':Nat}(I:Inv X pz U H s)(k:U9 s.heap h'):Inv X pz U H {s with heap:=h',toks:=t'}:=I.un (Un.kept k) (I.hok.kept k)
theorem Inv.laid{a:Addr}{o:HO}{t':Nat}(I:Inv X pz U H s)(k:U9 s.heap h')(c:s.heap.objs.size<=a)(b:cU X.prog X.w (upd H a o) h' a o):Inv X pz U (upd H a o) {s with heap:=h',toks:=t'}:=I.un (Un.laid k c (I.hok.fresh c)) (I.hok.laid k c b)
theorem Inv.write{x e:Addr}{o:HO}{t':Nat}(I:Inv X pz U H s)(d:Mut (H x))(f:e=x\/H e=some (.own x))(k:∀b u,b≠e->s.heap.get? b=some u->h'.get? b=some u)(a:∃u,h'.get? e=some u)(c:cU X.prog X.w (upd H x o) h' x o):Inv X pz U (upd H x o) {s with heap:=h',toks:=t'}:=I.un (Un.write d f k a) (I.hok.write d f k a c)
def Inv.pins_of(I:Inv X pz U H s)(h:∀p∈pins',s.heap.get? p.1=some p.2/\H p.1=none/\p.1≠X.env.locals/\p.1∉X.fs/\∀v,p.2.data≠.cell v):Inv X pins' U H s:=⟨I.ok,I.os,I.bare,I.base,I.loc,I.cell,I.free,I.freeC,λp a=>(qX.mp a).elim (λz=>I.pin p (jQ _ z)) (h p),I.hok,I.len⟩
def a2S(c:N.Nodup){x:Str}(a:N[i]?=some x)(b:N[j]?=some x):i=j:=by obtain⟨B,e⟩:=qR.mp a;obtain⟨f,d⟩:=qR.mp b;exact(List.getElem_inj c).mp (e.trans d.symm)
abbrev U7(X:Cx)(x:Str):Prop:=X.fn x=true\/X.env.scope.names.lookup x=some .local
def a4s{Q:Unit->Shared->Prop}(I:Inv X pz U H s)(hN:X.N.Nodup)(R:X.N[i]?=some x)(hx:Loc X.env.scope x)(r:RelV v u)(h:∀s',Inv X pz (U.set i (some v)) H s'->(∃a,jx a s.heap s'.heap/\(a=X.env.locals\/X.env.cells.lookup x=some a))->Q () s')(hf:U7 X x:=by first|exact .inl rfl|exact .inr rfl|assumption):wpAny M A (storeName X.env x u) Q E s:=by
 obtain⟨m,hn,hl⟩:=id I.loc;have S:(X.env.scope.kind==.class||(X.env.scope.kind==.module&&X.env.locals !=X.env.globals))=false:=by rw[I.ok.kind];rfl
 have G:i<U.length:=by rw[I.len];exact(qR.mp R).1
 have cne:=I.cne;have g:∀{a:Addr}{N:Heap},(∃o,s.heap.get? a=some o/\H a=none)->jx a s.heap N->HOk X.prog X.w H N:=λ{a N}ha f b ob e=>by
  obtain⟨_,_,C⟩:=ha;refine(I.hok b ob e).stay (λc w' w q=>(f.2 c ?_).trans q) (λ_ q=>q) λ_ _ q=>q;rintro rfl;obtain rfl|w:=w;·rw[C]at e;cases e
  ·rw[C]at w;cases w
 obtain F|F:=hx
 ·refine wpAny_storeName_local F hn (λN hn' f=>?_) S;obtain⟨oL,_,_,hoL,_⟩:=id hn;refine h _ ⟨I.ok,I.os,I.bare,⟨λb o e n L hx=>?_,λb o e n L hx=>?_,I.base.free,λb o e hx=>?_,I.base.tups,I.base.frzs,I.base.tbls⟩,⟨_,hn',λj y v' t D e3=>?_⟩,λy c e=>?_,I.free,I.freeC,λp hp=>?_,g ⟨oL,hoL,I.free⟩ f,by simpa using I.len⟩ ⟨_,f,.inl rfl⟩;·exact(f.2 b (qW (qU (qN e) I.ok.above))).trans (I.base.keep b o e n L hx)
  ·obtain⟨sl,t⟩:=I.base.slot b o e n L hx;exact⟨sl,(f.2 b (qW (qU (qN e) I.ok.above))).trans t⟩
  ·obtain⟨o',t⟩:=I.base.there b o e hx;exact⟨o',(f.2 b (qW (qU (qN e) I.ok.above))).trans t⟩
  ·by_cases J:j=i;·subst J;rw[R]at t;cases t;rw[ke G]at D;cases D;exact⟨u,r,.inl ⟨F,by simp⟩⟩
   ·rw[qt (jH J)]at D;obtain⟨u',r',q⟩:=hl j y v' t D e3;refine⟨u',r',?_⟩;obtain⟨k,e⟩|⟨k,c,e,z⟩:=q;·refine .inl ⟨k,?_⟩;have:y≠x:=λe=>J (a2S hN t (e▸R));simp[this,e]
    ·exact .inr ⟨k,c,e,z.sameBut f (cne y c e)⟩
  ·obtain⟨w',z⟩:=I.cell y c e;exact⟨w',z.sameBut f (cne y c e)⟩
  ·obtain⟨e,n,ne,nf,d⟩:=I.pin p hp;exact⟨(f.2 p.1 ne).trans e,n,ne,nf,d⟩
 ·have K:X.fn x=true:=by
   obtain z|z:=hf;·exact z
   ·rw[z]at F;cases F
  obtain⟨c,w⟩:=I.ok.has x (.inl F);obtain⟨w',z⟩:=I.cell x c w;refine wpAny_storeName_cell I.ok.kind F w z (λN hc' f=>?_);obtain⟨oc,P,hocd⟩:=id z;refine h {s with heap:=N} ⟨I.ok,I.os,I.bare,⟨λb o e n L hx=>?_,λb o e n L hx=>?_,I.base.free,λb o e hx=>?_,I.base.tups,I.base.frzs,I.base.tbls⟩,⟨m,hn.sameBut f (jH (cne x c w)),λj y v' t D e3=>?_⟩,λy c' e=>?_,I.free,I.freeC,λp hp=>?_,g ⟨oc,P,I.freeC x c w⟩ f,by simpa using I.len⟩ ⟨c,f,.inr w⟩;·exact(f.2 b (qW (qU (qN e) (I.ok.cab x c K w)))).trans (I.base.keep b o e n L hx)
  ·obtain⟨sl,t⟩:=I.base.slot b o e n L hx;exact⟨sl,(f.2 b (qW (qU (qN e) (I.ok.cab x c K w)))).trans t⟩
  ·obtain⟨o',t⟩:=I.base.there b o e hx;exact⟨o',(f.2 b (qW (qU (qN e) (I.ok.cab x c K w)))).trans t⟩
  ·by_cases J:j=i;·subst J;rw[R]at t;cases t;rw[ke G]at D;cases D;exact⟨u,r,.inr ⟨.inl F,c,w,hc'⟩⟩
   ·rw[qt (jH J)]at D;obtain⟨u',r',q⟩:=hl j y v' t D e3;refine⟨u',r',?_⟩;obtain q|⟨k,c',e,z'⟩:=q;·exact .inl q
    ·refine .inr ⟨k,c',e,z'.sameBut f ?_⟩;rintro rfl;exact J (a2S hN t (I.ok.inj _ _ _ e w▸R))
  ·by_cases T:c'=c;·subst T;exact⟨_,hc'⟩
   ·obtain⟨w2,z2⟩:=I.cell y c' e;exact⟨w2,z2.sameBut f T⟩
  ·obtain⟨e,n,ne,nf,d⟩:=I.pin p hp;refine⟨(f.2 p.1 ?_).trans e,n,ne,nf,d⟩;intro q;rw[q,P]at e;have q':=qA e;exact d w' (by rwa[<-q'])
def sB{Q:Unit->Shared->Prop}(I:Inv X pz U H s)(c:X.N.Nodup)(a:X.N[i]?=some x)(hx:Loc X.env.scope x)(r:RelV v u)(h:∀s',Inv X pz (U.set i (some v)) H s'->Q () s')(b:U7 X x:=by first|exact .inl rfl|exact .inr rfl|assumption):wpAny M A (storeName X.env x u) Q E s:=a4s I c a hx r (λs' d _=>h s' d) b
def Inv.call'(I:Inv X pz U H s)(f:s'.os=s.os)(u:Un (frs X.stack) ch H H' s.heap s'.heap)(a:HOk X.prog X.w H' s'.heap)(g:um s'.gens)(d:∀b∈ch,(b∈X.ex\/X.s₀.heap.objs.size<=b)/\b≠X.env.locals/\(∀x c,X.env.cells.lookup x=some c->c≠b)/\∀p∈X.pn++pz,p.1≠b):Inv X pz U H' s':=by obtain⟨j,g',d',t',i⟩:=s';have e:=f;subst e;exact I.call (g':=g') (t':=t') (d':=d') u a g d
end
abbrev XK:=Value->Option Addr->Hp->Prop
noncomputable abbrev St:=List (Option V)
abbrev VK:=V->Hp->Prop
abbrev TE:=St->Hp->VK->Prop
abbrev TT:=St->Hp->(Bool->Hp->Prop)->Prop
abbrev TA:=St->Hp->(List V->Hp->Prop)->Prop
structure Ends where
 nx:St->Hp->Prop
 rt:VK
 bk:St->Hp->Prop:=λ_ _=>False
 ct:St->Hp->Prop:=λ_ _=>False
abbrev TS:=Ends->St->Hp->Prop
def EP(X:Cx)(pz:T0b)(U:St)(Q:VK)(u:Value)(s':Shared):Prop:=∃v H',Inv X pz U H' s'/\RelV v u/\Q v H'
def TP(X:Cx)(pz:T0b)(U:St)(Q:Bool->Hp->Prop)(b:Bool)(s':Shared):Prop:=∃H',Inv X pz U H' s'/\Q b H'
def AP(X:Cx)(pz:T0b)(U:St)(Q:List V->Hp->Prop)(us:T0m)(s':Shared):Prop:=∃vs H',Inv X pz U H' s'/\bH vs us/\Q vs H'
def SP(X:Cx)(pz:T0b)(D:Ends)(f:Flow)(s':Shared):Prop:=match f with|.next=>∃σ' H',Inv X pz σ' H' s'/\D.nx σ' H'|.brk=>∃σ' H',Inv X pz σ' H' s'/\D.bk σ' H'|.cont=>∃σ' H',Inv X pz σ' H' s'/\D.ct σ' H'|.ret u=>∃v σ' H',Inv X pz σ' H' s'/\RelV v u/\D.rt v H'
def PE(X:Cx)(e:Expr)(t:TE):Prop:=∀ pz s(U:St) H Q,Inv X pz U H s->t U H Q->wpAny (model X.prog X.w) X.A (eval e X.env) (EP X pz U Q) X.xe s
def PT(X:Cx)(e:Expr)(t:TT):Prop:=∀ pz s(U:St) H Q,Inv X pz U H s->t U H Q->wpAny (model X.prog X.w) X.A (isTrue e X.env (eval e X.env)) (TP X pz U Q) X.xe s
def PW(X:Cx)(e:Expr)(t:TT):Prop:=∀ whole pz s(U:St) H Q,Inv X pz U H s->t U H Q->wpAny (model X.prog X.w) X.A (isTrue e X.env whole) (TP X pz U Q) X.xe s
def PA(X:Cx)(es:T0n)(t:TA):Prop:=∀ pos pz s(U:St) H Q,Inv X pz U H s->t U H Q->wpAny (model X.prog X.w) X.A (spliced (j8 pos (j4 es X.env))) (AP X pz U Q) X.xe s
def PS(X:Cx)(st:Stmt)(t:TS):Prop:=∀ pz s(U:St) H D,Inv X pz U H s->t D U H->wpAny (model X.prog X.w) X.A (exec st X.env) (SP X pz D) X.xe s
def PSs(X:Cx)(st:List Stmt)(t:TS):Prop:=∀ pz s(U:St) H D,Inv X pz U H s->t D U H->wpAny (model X.prog X.w) X.A (execs st X.env) (SP X pz D) X.xe s
def thn{Q b:α->Shared->Prop}(h:wpAny M A t Q E s)(c:∀a s,Q a s->b a s):wpAny M A t b E s:=v3 h c λ_ _ x=>x
variable{U:St}{ta tb:TE}
section
noncomputable def c3t(i:Nat):TE:=λU H Q=>∃v,U[i]?=some (some v)/\Q v H
noncomputable def tC(v:V):TE:=λ_ H Q=>Q v H
abbrev U2(x:Str):Prop:=(x==("__debug__":Str))=false
abbrev U3(x:Str):Prop:=(x==("__classdict__":Str))=false
def cM(w:X.N[i]?=some x)(o:Vis X.env.scope x)(f:U2 x:=by decide)(g:U3 x:=by decide):PE X (.Name x pos) (c3t i):=by
 rintro k s U H Q I⟨v,e,h⟩;obtain⟨m,p,t⟩:=I.loc;obtain⟨u,r,l⟩:=t i x v w e o;have d:EP X k U Q u s:=⟨v,H,I,r,h⟩;obtain⟨b,q⟩|⟨b,c,j,a⟩:=l;·exact wpAny_Name (wpAny_loadName_local I.ok.kind b p q d) f
 ·obtain b|b:=b;·exact wpAny_Name (wpAny_loadName_cell I.ok.kind b j a d) f
  ·exact wpAny_Name (wpAny_loadName_free I.ok.kind b j a d g) f
def c1s{i j pos:_}:PE X (.Constant (.int i) j pos) (tC (.int i)):=λ_ _ _ H _ I h=>wpAny_Constant_int ⟨.int i,H,I.tok _,⟨_,rfl⟩,h⟩
def c3P{b j pos:_}:PE X (.Constant (.bool b) j pos) (tC (.bl b)):=λ_ _ _ H _ I h=>Constant_bool ⟨.bl b,H,I,rfl,h⟩
def c1r{j pos:_}:PE X (.Constant .none j pos) (tC .non):=λ_ _ _ H _ I h=>Constant_none ⟨.non,H,I,rfl,h⟩
def b4D{x j pos:_}:PE X (.Constant (.str x) j pos) (tC (.str x)):=λ_ _ _ H _ I h=>Calls.Constant_str ⟨.str x,H,I.tok _,⟨_,rfl⟩,h⟩
def Gl(X:Cx)(x:Str):Prop:=X.env.kindOf x=some .globalImplicit
def iN(I:Inv X pz U H s)(b:Gl X x)(a:X.mg x=some u)(h:Q u s)(c:U2 x:=by decide):wpAny (model X.prog X.w) X.A (eval (.Name x pos) X.env) Q E s:=Calls.Name_function_global I.ok.kind b (Calls.loadGlobal_global (by rw[I.ok.glob];exact I.mod.glob.keeps I.bk) a h) c
def sZ(I:Inv X pz U H s)(d:Gl X x)(c:X.mg x=none)(a:wl x=some u)(h:Q u s)(b:x≠"__name__":=by decide)(e:U2 x:=by decide):wpAny (model X.prog X.w) X.A (eval (.Name x pos) X.env) Q E s:=by obtain⟨g,B,f⟩:=I.mod.blt;exact Calls.Name_function_global I.ok.kind d (Calls.loadGlobal_builtin (by rw[I.ok.glob];exact I.mod.glob.keeps I.bk) c (by rw[I.ok.blt];exact B.keeps I.bk) ((f x b).trans a) h) e
def b0M(b:Gl X x)(a:X.mg x=some u)(r:RelV v u)(c:U2 x:=by decide):PE X (.Name x pos) (tC v):=λ_ _ _ H _ I h=>iN I b a ⟨v,H,I,r,h⟩ c
def b0O(d:Gl X x)(c:X.mg x=none)(a:wl x=some u)(r:RelV v u)(b:x≠"__name__":=by decide)(e:U2 x:=by decide):PE X (.Name x pos) (tC v):=λ_ _ _ H _ I h=>sZ I d c a ⟨v,H,I,r,h⟩ b e
variable{a b:Expr}
def PC(X:Cx)(op:CmpOp)(a b:Expr)(t:TE):Prop:=∀ pz s(U:St) H Q,Inv X pz U H s->t U H Q->wpAny (model X.prog X.w) X.A (eval a X.env) (λv s1z=>wpAny (model X.prog X.w) X.A (eval b X.env) (λu s2z=>wpAny (model X.prog X.w) X.A (wa op v u) (EP X pz U Q) X.xe s2z) X.xe s1z) X.xe s
def a7B b(h:op≠.In)(a:op≠.NotIn):v9 op b=false:=by
 have d:(op==CmpOp.In)=false:=by cases op<;>first|rfl|exact absurd rfl h
 have c:(op==CmpOp.NotIn)=false:=by cases op<;>first|rfl|exact absurd rfl a
 cases b<;>simp[v9,d,c]
noncomputable def tB(t:TE):TT:=λU H Q=>t U H λx H1=>∃c,x=.bl c/\Q c H1
def b4L(h:PC X op a b t)(B:v9 op b=false:=by first|exact a7B _ (by decide) (by decide)|rfl):PE X (.Compare a [op] [b] pos) t:=λc s U H Q I d=>wpAny_Compare1 (h c s U H Q I d) B
def a9c(h:PC X op a b t)(B:v9 op b=false:=by first|exact a7B _ (by decide) (by decide)|rfl):PT X (.Compare a [op] [b] pos) (tB t):=by intro g s U H Q I i;refine wpAny_isTrue_Compare1 (thn (h g s U H _ I i) ?_) B;rintro v w B;refine thn B ?_;rintro u r j;refine thn j ?_;rintro c p⟨x,o,k,e,f⟩;obtain⟨d,rfl,q⟩:=f;cases e;exact wt ⟨o,k,q⟩
variable{tA tB':TT}{rest:T0n}
noncomputable def c5g(t u:TT):TT:=λU H Q=>t U H λc H1=>if c=true then u U H1 Q else Q false H1
noncomputable def tOr(t u:TT):TT:=λU H Q=>t U H λc H1=>if c=true then Q true H1 else u U H1 Q
noncomputable def c4Z(t:TT):TT:=λU H Q=>t U H λc H1=>Q (!c) H1
def b7M(d:PT X a tA):PW X (.BoolOp .And [a] pos) tA:=by intro f b s U H Q I h;refine isTrue_and (thn (d b s U H Q I h) λc g e=>?_);cases c with|true=>exact isTrue_and_nil e|false=>exact e
def c1f(d:PT X a tA):PW X (.BoolOp .Or [a] pos) tA:=by intro f b s U H Q I h;refine isTrue_or (thn (d b s U H Q I h) λc g e=>?_);cases c with|false=>exact isTrue_or_nil e|true=>exact e
def c1g(o:PT X a tA)(k:PW X (.BoolOp .And (b::rest) pos) tB'):PW X (.BoolOp .And (a::b::rest) pos) (c5g tA tB'):=by intro i e s U H Q I h;refine isTrue_and (thn (o e s U H _ I h) ?_);rintro c j⟨g,f,d⟩;cases c with|true=>exact k i e j U g Q f d|false=>exact⟨g,f,d⟩
def c3O(o:PT X a tA)(k:PW X (.BoolOp .Or (b::rest) pos) tB'):PW X (.BoolOp .Or (a::b::rest) pos) (tOr tA tB'):=by intro i e s U H Q I h;refine isTrue_or (thn (o e s U H _ I h) ?_);rintro c j⟨g,f,d⟩;cases c with|true=>exact⟨g,f,d⟩|false=>exact k i e j U g Q f d
def c1k(d:PT X a tA):PT X (.UnaryOp .Not a pos) (c4Z tA):=λb s U H Q I h=>isTrue_not (d b s U H (λc e=>Q (!c) e) I h)
noncomputable def c3A(ta tb:TE):TE:=λU H Q=>ta U H λx H1=>∃c,x=.bl c/\if c=true then tb U H1 Q else Q (.bl false) H1
noncomputable def c3w(ta:TE):TE:=λU H Q=>ta U H λx H1=>∃c,x=.bl c/\Q (.bl (!c)) H1
def c1p{c:_}{t:TE}(h:PE X a t):PE X (.BoolOp c [a] pos) t:=λb s U H Q I d=>BoolOp_one (h b s U H Q I d)
def c1t(o:PE X a ta)(k:PE X (.BoolOp .And (b::rest) pos) tb):PE X (.BoolOp .And (a::b::rest) pos) (c3A ta tb):=by intro e s U H Q I h;refine BoolOp_and (thn (o e s U H _ I h) ?_);rintro v i⟨x,g,f,j,d⟩;obtain⟨c,rfl,d⟩:=d;cases j;refine wt ?_;cases c with|true=>exact k e i U g Q f d|false=>exact⟨.bl false,g,f,rfl,d⟩
def c1q(f:PE X a ta):PE X (.UnaryOp .Not a pos) (c3w ta):=by intro e s U H Q I h;refine UnaryOp_ (thn (f e s U H _ I h) ?_);rintro v j⟨x,i,g,d,b⟩;obtain⟨c,rfl,b⟩:=b;cases d;exact not_of (wt ⟨.bl (!c),i,g,rfl,b⟩)
noncomputable def tIf(t:TT)(ta tb:TE):TE:=λU H Q=>t U H λc H1=>if c=true then ta U H1 Q else tb U H1 Q
def a7w(k:PT X c tA)(p:PE X a ta)(o:PE X b tb):PE X (.IfExp c a b pos) (tIf tA ta tb):=by intro e s U H Q I h;refine wpAny_IfExp (thn (k e s U H _ I h) ?_);rintro d f⟨j,i,g⟩;cases d with|true=>exact p e f U j Q i g|false=>exact o e f U j Q i g
end
def SqL(K:qB)(H:Hp)(a:Addr)(Y:List V):Prop:=Rd H a (.lst Y)\/∃o its n,K.lookup a=some o/\o.cls=.type "list"/\o.dict=none/\o.data=.seq its n/\its.size<=j5/\bH Y its.toList
def SqT(K:qB)(H:Hp)(a:Addr)(Y:List V):Prop:=Rd H a (.tup Y)\/∃o its n,K.lookup a=some o/\o.cls=.type "tuple"/\o.data=.seq its n/\its.size<=j5/\bH Y its.toList
noncomputable def c5Z:Value->Option V|.none=>some .non|.bool b=>some (.bl b)|.int i _=>some (.int i)|.str x _=>some (.str x)|.bytes b _=>some (.byt b)|.float b _=>some (.flt b)|.ref a=>some (.ref a)|.type n=>some (.ty n)|_=>none
theorem RelV.abs(r:RelV x u):c5Z u=some x:=by cases x with|non=>cases r;rfl|bl _=>cases r;rfl|int _=>obtain⟨t,rfl⟩:=r;rfl|str _=>obtain⟨t,rfl⟩:=r;rfl|byt _=>obtain⟨t,rfl⟩:=r;rfl|flt _=>obtain⟨t,rfl⟩:=r;rfl|ref _=>cases r;rfl|ty _=>cases r;rfl
variable{y:V}
theorem RelV.inj(r:RelV x u)(q:RelV y u):x=y:=qA (r.abs.symm.trans q.abs)
theorem bH.inj:∀{Y ys:List V}{us:T0m},bH Y us->bH ys us->Y=ys|_,_,_,.nil,.nil=>rfl|_,_,_,.cons r t,.cons r' t'=>by rw[r.inj r',bH.inj t t']
variable{Y:List V}
section
variable{ys:List V}
theorem SqL.of{K:qB}(h:H a=some (.lst Y)):SqL K H a Y:=.inl (.inl h)
theorem SqT.of{K:qB}(h:H a=some (.tup Y)):SqT K H a Y:=.inl (.inl h)
theorem Inv.list(I:Inv X pz U H s)(h:SqL X.K H a Y):∃its:List Value,bH Y its/\PlainL s.heap a its.toArray/\Y.length<=j5:=by
 obtain h|⟨o,its,n,c,f,d,b,g,r⟩:=h;·obtain⟨z,its,n,r,e⟩:=h.ok I.hok;exact⟨its,r,⟨_,n,e,rfl,rfl,rfl⟩,z⟩
 ·refine⟨its.toList,r,⟨o,n,I.kIn a o c,f,d,by simpa using b⟩,?_⟩;have e:=r.length;simp only[qJ]at e;lia
def Inv.tuple(I:Inv X pz U H s)(h:SqT X.K H a Y):∃its:List Value,bH Y its/\IsTup s.heap a its.toArray/\Y.length<=j5:=by
 obtain h|⟨o,its,n,c,d,b,f,r⟩:=h;·obtain⟨z,its,r,p⟩:=h.ok I.hok;exact⟨its,r,p,z⟩
 ·refine⟨its.toList,r,⟨o,I.kIn a o c,d,n,by simpa using b⟩,?_⟩;have e:=r.length;simp only[qJ]at e;lia
def Inv.list_inj(I:Inv X pz U H s)(h:SqL X.K H a Y)(h':SqL X.K H a ys):Y=ys:=by
 obtain⟨c,r,⟨o,n,e,_,_,d⟩,_⟩:=I.list h;obtain⟨b,i,⟨j,k,f,_,_,g⟩,_⟩:=I.list h';rw[e]at f;cases f;rw[d]at g;injection g with d1 _;have:c=b:=by simpa using congrArg wO d1
 subst this;exact r.inj i
def Inv.tuple_inj(I:Inv X pz U H s)(h:SqT X.K H a Y)(h':SqT X.K H a ys):Y=ys:=by
 obtain⟨c,r,⟨o,e,_,n,d⟩,_⟩:=I.tuple h;obtain⟨b,i,⟨j,f,_,k,g⟩,_⟩:=I.tuple h';rw[e]at f;cases f;rw[d]at g;injection g with d1 _;have:c=b:=by simpa using congrArg wO d1
 subst this;exact r.inj i
end
noncomputable abbrev Cx.wish(X:Cx)(E:T0a):Cx:={X with xe:=E}
abbrev Cx.nox(X:Cx):Cx:=X.wish λ_ _=>False
theorem Cx.Ok.wish(ok:X.Ok) E:(X.wish E).Ok:=⟨ok.mod,ok.kind,ok.glob,ok.blt,ok.above,ok.inj,ok.has,ok.cab,ok.hd,ok.frames,ok.stk,ok.exf,ok.bs,ok.bsz,ok.noex,ok.exfs,ok.funs,ok.frf⟩
theorem Cx.Ok.unwish(ok:(X.wish E).Ok):X.Ok:=⟨ok.mod,ok.kind,ok.glob,ok.blt,ok.above,ok.inj,ok.has,ok.cab,ok.hd,ok.frames,ok.stk,ok.exf,ok.bs,ok.bsz,ok.noex,ok.exfs,ok.funs,ok.frf⟩
theorem Inv.wish(I:Inv X pz U H s) E:Inv (X.wish E) pz U H s:=⟨I.ok.wish E,I.os,I.bare,I.base,I.loc,I.cell,I.free,I.freeC,I.pin,I.hok,I.len⟩
theorem Inv.unwish(I:Inv (X.wish E) pz U H s):Inv X pz U H s:=⟨I.ok.unwish,I.os,I.bare,I.base,I.loc,I.cell,I.free,I.freeC,I.pin,I.hok,I.len⟩
theorem SP.unwish{c:Shared}(h:SP (X.wish E) pz D f c):SP X pz D f c:=by cases f with|next=>obtain⟨a,b,I,q⟩:=h;exact⟨a,b,I.unwish,q⟩|brk=>obtain⟨a,b,I,q⟩:=h;exact⟨a,b,I.unwish,q⟩|cont=>obtain⟨a,b,I,q⟩:=h;exact⟨a,b,I.unwish,q⟩|ret u=>obtain⟨v,a,b,I,r,q⟩:=h;exact⟨v,a,b,I.unwish,r,q⟩
theorem PSs.nox{st:List Stmt}{t:TS}(h:PSs X.nox st t):PSs X st t:=λa s U H D I b=>v3 (h a s U H D (I.wish _) b) (λ_ _ q=>q.unwish) λ_ _ z=>qz z
variable{te:TE}
section
variable{rest:List Stmt}{t u:TS}
noncomputable def c3x:TS:=λD U H=>D.nx U H
noncomputable def c4W(t u:TS):TS:=λD U H=>t {D with nx:=u D} U H
def b0G:PSs X [] c3x:=λ_ _ U H _ I h=>wpAny_execs_nil ⟨U,H,I,h⟩
def a7s(B:PS X st t)(d:PSs X rest u):PSs X (st::rest) (c4W t u):=by intro b s U H D I h;refine we (thn (B b s U H {D with nx:=u D} I h) λf c q=>?_);cases f with|next=>obtain⟨a,g,e,q⟩:=q;exact d b c a g D e q|ret v=>exact q|brk=>exact q|cont=>exact q
def a5L(B:PS X st t):PSs X [st] t:=by intro a s U H D I h;refine we (thn (B a s U H D I h) λf b q=>?_);cases f with|next=>exact wpAny_execs_nil q|ret v=>exact q|brk=>exact q|cont=>exact q
def Inv.quiet(I:Inv X pz U H s):interactive X.env=false:=by simp[interactive,I.ok.kind]
noncomputable def c3y(te:TE):TS:=λD U H=>te U H λ_ H1=>D.nx U H1
def uC(c:PE X e te)(hs:wb e none pos.line X.env=pure false:=by rfl):PS X (.Expr e pos) (c3y te):=λb s U H D I h=>wpAny_Expr_any (thn (c b s U H _ I h) (by rintro v g⟨x,f,d,i,a⟩;exact⟨U,f,d,a⟩)) I.quiet hs
noncomputable def c4X(te:TE):TS:=λD U H=>te U H D.rt
def b4t(d:PE X e te):PS X (.Return (some e) pos) (c4X te):=λc s U H D I h=>u4 (thn (d c s U H _ I h) (by rintro v i⟨x,g,f,a,b⟩;exact⟨x,U,g,f,a,b⟩))
noncomputable def c5b(c:TT)(t u:TS):TS:=λD U H=>c U H λb H1=>if b=true then t D U H1 else u D U H1
def c0d{a b:List Stmt}{tc:TT}(k:PT X c tc)(p:PSs X a t)(o:PSs X b u):PS X (.If c a b pos) (c5b tc t u):=by intro e s U H D I h;refine wpAny_If (thn (k e s U H _ I h) ?_);rintro d f⟨j,i,g⟩;cases d with|true=>exact p e f U j D i g|false=>exact o e f U j D i g
end
abbrev TG:=V->St->Hp->(St->Hp->Prop)->Prop
abbrev TGs:=List V->St->Hp->(St->Hp->Prop)->Prop
def PG(X:Cx)(target:Expr)(t:TG):Prop:=∀ pz s(U:St) H v u(Q:St->Hp->Prop),Inv X pz U H s->RelV v u->t v U H Q->wpAny (model X.prog X.w) X.A (assign target X.env u) (λ_ s'=>∃σ' H',Inv X pz σ' H' s'/\Q σ' H') X.xe s
def PGs(X:Cx)(ts:T0n)(t:TGs):Prop:=∀ pz s(U:St) H(vs:List V)(us:T0m)(Q:St->Hp->Prop),Inv X pz U H s->bH vs us->t vs U H Q->wpAny (model X.prog X.w) X.A (assignInOrder ((wj ts X.env).map (·.2)) us) (λ_ s'=>∃σ' H',Inv X pz σ' H' s'/\Q σ' H') X.xe s
variable{g:TG}
noncomputable def b5X(i:Nat):TG:=λv U H Q=>Q (U.set i (some v)) H
def b7Z(c:X.N.Nodup)(a:X.N[i]?=some x)(hx:Loc X.env.scope x)(b:U7 X x:=by first|exact .inl rfl|exact .inr rfl|assumption):PG X (.Name x pos) (b5X i):=λf s U H v u Q I r h=>wpAny_assign_Name (sB I c a hx r (λe d=>⟨_,H,d,h⟩) b)
noncomputable def c5T:TGs:=λvs U H Q=>vs=[]/\Q U H
noncomputable def c4p(t:TG)(u:TGs):TGs:=λvs U H Q=>∃v r,vs=v::r/\t v U H λσ' H'=>u r σ' H' Q
def b7X:PGs X [] c5T:=by rintro c s U H a b Q I r⟨e,h⟩;subst e;cases r;exact assignInOrder_nil ⟨U,H,I,h⟩
def b4C{e:Expr}{t:TG}{u:TGs}(B:PG X e t)(g:PGs X es u)(hs:(wj (e::es) X.env).map (·.2)=assign e X.env::(wj es X.env).map (·.2):=by rfl):PGs X (e::es) (c4p t u):=by rintro b s U H o q Q I r⟨v,p,i,h⟩;subst i;cases r with|cons r d=>rw[hs];exact uw (thn (B b s U H _ _ _ I r h) (by rintro _ c⟨a,k,j,f⟩;exact g b c a k _ _ Q j d f))
noncomputable def c5S(K:qB)(n:Nat)(t:TGs):TG:=λv U H Q=>∃a Y,v=.ref a/\SqT K H a Y/\Y.length=n/\t Y U H Q
def c1n{t:TGs}{n:Nat}(z:X.calm=true)(h:PGs X es t)(w:(wj es X.env).length=n:=by rfl)(c:(wj es X.env).findIdx? (·.1)=none:=by rfl):PG X (.Tuple es k pos) (c5S X.K n t):=by rintro f s U H v u Q I r⟨a,Y,A,q,y,j⟩;subst A;cases r;obtain⟨g,d,p,D⟩:=I.tuple q;refine assign_Tuple_tuple (I.ok.hd z) p (by simp[w,<-y,d.length]) c λE i=>?_;have C:=I.kept (t':=s.toks) λb o e=>i b o (qW (qN e)) e;exact h f _ U H Y _ Q C (by simpa using d) j
noncomputable def c0V(te:TE)(g:TG):TS:=λD U H=>te U H λx H1=>g x U H1 D.nx
def c1l(j:PE X e te)(i:PG X tg g)(hs:ug [tg] e pos.line X.env=pure false:=by rfl)(f:uf [tg] e X.env=pure none:=by rfl)(B:(wj [tg] X.env).map (·.2)=[assign tg X.env]:=by rfl):PS X (.Assign [tg] e pos) (c0V te g):=by intro a s U H D I h;refine wpAny_Assign_stores (thn (j a s U H _ I h) ?_) hs f;rintro v b⟨x,o,k,c,d⟩;rw[B];exact thn (i a b U o x v _ k c d) λ_ p q=>q
def a2H(j:X.N.Nodup)(d:X.N[i]?=some x)(hx:Loc X.env.scope x)(g:PE X e te)(hs:wb e (some (.Name x pos')) pos.line X.env=pure false:=by rfl)(f:U7 X x:=by first|exact .inl rfl|exact .inr rfl|assumption):PS X (.Assign [.Name x pos'] e pos) (c0V te (b5X i)):=by intro c s U H D I h;exact wpAny_Assign_Name (thn (g c s U H _ I h) (by rintro v r⟨y,p,o,a,b⟩;exact sB o j d hx a (λq k=>⟨_,p,k,b⟩) f)) hs
noncomputable def c4Y(i j:Nat)(ta:TA):TS:=λD U H=>ta U H λvs H1=>∃v w,vs=[v,w]/\D.nx ((U.set i (some v)).set j (some w)) H1
def b4u{x y:Str}{a b:Expr}{A:TA}{pt:Pos}{t k2 c:_}(T:X.calm=true)(F:X.N.Nodup)(S:X.N[i]?=some x)(R:X.N[j]?=some y)(z:i≠j)(hx:X.env.scope.names.lookup x=some .local)(E:X.env.scope.names.lookup y=some .local)(ha:PA X [a,b] A)(Q:uf [.Tuple [.Name x px,.Name y py] t pt] (.Tuple [a,b] k2 c) X.env=pure (some [x,y]))(hs:ug [.Tuple [.Name x px,.Name y py] t pt] (.Tuple [a,b] k2 c) pos.line X.env=pure false:=by rfl):PS X (.Assign [.Tuple [.Name x px,.Name y py] t pt] (.Tuple [a,b] k2 c) pos) (c4Y i j A):=by
 intro C s U H D I h;rw[exec_Assign_arm];refine j0 (ui ?_);rw[hs];refine j0 (j3 ?_);rw[if_neg (by decide)];refine j0 (Tuple_ (thn (ha _ C s U H _ I h) ?_));rintro K g⟨vs,J,I1,M,r⟩;obtain⟨v,w,e1,r⟩:=r;subst e1;obtain⟨f,d,rfl,L,k⟩:∃f d,K=[f,d]/\RelV v f/\RelV w d:=by cases M with|cons p q=>cases q with|cons P N=>cases N;exact⟨_,_,rfl,p,P⟩
 refine k9 ?_ (by show 2<=j5;decide);have I2:Inv X C U J {g with heap:=g.heap.push {cls:=.type "tuple",data:=.seq [f,d].toArray}}:=I1.kept (t':=g.toks) λb o e=>qC _ e;rw[Q];refine j0 (j3 ?_);refine j0 (w9 (j0 (unpackItems_tuple (items:=#[f,d]) (I.ok.hd T) (IsTup.new g.heap _) λh' u=>?_)));have I3:=I2.kept (h':=h') (t':=g.toks) λb o e=>u b o (qW (qN e)) e;refine j0 (uw (wpAny_bindName (sB I3 F R (.inl E) k (λs2 I4=>?_) (.inr E))));refine uw (wpAny_bindName (sB I4 F S (.inl hx) L (λs3 G=>assignInOrder_nil (j3 ?_)) (.inr hx)));rw[List.set_comm _ _ (jH z)]at G;exact⟨_,J,G,r⟩
structure It where
 go:Nat->Hp->Prop
 yld:Nat->Hp->V->Hp->Prop
 stop:Nat->Hp->Prop
def a1i(X:Cx)(pz:T0b)(H:Hp)(b:Addr):Prop:=H b=none/\b≠X.env.locals/\b∉X.fs/\(b∈X.ex\/X.s₀.heap.objs.size<=b)/\(∀x c,X.env.cells.lookup x=some c->c≠b)/\∀p∈X.pn++pz,p.1≠b
theorem Inv.fpOk(I:Inv X pz U H s)(a:s.heap.objs.size<=b)(f:H' b=none):a1i X pz H' b:=by
 refine⟨f,kJ (qU I.lt a),I.nofs a,.inr (qg I.sz a),λx c e z=>?_,λp d z=>?_⟩;·obtain⟨v,q⟩:=I.cell x c e;exact absurd (qU q.lt (by rwa[z])) (ji _)
 ·exact absurd (qU (qN (I.pin p d).1) (by rwa[z])) (ji _)
structure Turn(P:Program)(w:World)(K:qB)(tg:Expr)(J:It)(fp:T0o)(it:Addr)(tn:Nat->Heap->Prop):Prop where
 mem:it∈fp
 obj:∀i h,tn i h->∀b∈fp,∃o,h.get? b=some o/\∀v,o.data≠.cell v
 keep:∀i h h',tn i h->(∀b∈fp,∀o,h.get? b=some o->h'.get? b=some o)->tn i h'
 item:∀(X:Cx),X.prog=P->X.w=w->X.K=K->X.calm=true->∀ i pz s(U:St) H(E:T0a),Inv X pz U H s->(∀b∈fp,a1i X pz H b)->tn i s.heap->J.go i H->wpAny (model P w) X.A (yq (.ref it)) (λr s1=>∃u,r=some u/\wpAny (model P w) X.A (letOwnedTupleGo tg (.ref it) u) (λ_ s2=>∃x H',Inv X pz U H' s2/\RelV x u/\J.yld i H x H'/\tn (i+1) s2.heap/\∀b∈fp,H' b=none) E s1) E s
 done:∀ X,X.prog=P->X.w=w->X.K=K->X.calm=true->∀ i pz s(U:St) H(E:T0a),Inv X pz U H s->(∀b∈fp,a1i X pz H b)->tn i s.heap->J.stop i H->wpAny (model P w) X.A (yq (.ref it)) (λr s1=>r=none/\Inv X pz U H s1) E s
 self:∀ A i s(Q:T0a)(E:T0a),tn i s.heap->Q (.ref it) s->wpAny (model P w) A (QK (.ref it)) Q E s
abbrev TI:=St->Hp->(It->Hp->Prop)->Prop
def PIE(X:Cx)(pz:T0b)(U:St)(tg:Expr)(R:It->Hp->Prop)(itv:Value)(s2:Shared):Prop:=∃it fp tn J H',itv=.ref it/\Inv X pz U H' s2/\Turn X.prog X.w X.K tg J fp it tn/\tn 0 s2.heap/\(∀b∈fp,a1i X pz H' b)/\R J H'
def PI(X:Cx)(tg iter:Expr)(wi:TI):Prop:=∀ pz s(U:St) H R,Inv X pz U H s->wi U H R->wpAny (model X.prog X.w) X.A (eval iter X.env) (λv s1=>wpAny (model X.prog X.w) X.A (QK v) (PIE X pz U tg R) X.xe s1) X.xe s
def b1h{o:Obj}{n:String}{vs:Array Value}{Q:Unit->Shared->Prop}(b:s.heap.get? it=some o)(e:o.cls=.type n)(d:o.data=.fields vs)(c:["enumerate","zip","dict_itemiterator","dict_reverseitemiterator","odict_iterator","itertools.zip_longest","itertools.pairwise"].contains n=false)(a:Q () s):wpAny M A (letOwnedTupleGo tg (.ref it) u) Q E s:=by cases tg<;>first|exact j3 a|(cases u<;>first|exact j3 a|(refine j0 (wpAny_load b ?_);rw[e,d];show wpAny M A (if(["enumerate","zip","dict_itemiterator","dict_reverseitemiterator","odict_iterator","itertools.zip_longest","itertools.pairwise"].contains n&&vs[0]?==some (v2 _))=true then _ else _) Q E s;rw[if_neg (by intro h;rw[c,Bool.false_and]at h;cases h)];exact j3 a))
noncomputable def Itl(K:qB)(a:Addr):It:=⟨λi H=>∃Y x,SqL K H a Y/\Y[i]?=some x,λi H x H'=>H'=H/\∀Y,SqL K H a Y->Y[i]?=some x,λi H=>∃Y,SqL K H a Y/\Y.length<=i⟩
noncomputable def Itt(K:qB)(a:Addr):It:=⟨λi H=>∃Y x,SqT K H a Y/\Y[i]?=some x,λi H x H'=>H'=H/\∀Y,SqT K H a Y->Y[i]?=some x,λi H=>∃Y,SqT K H a Y/\Y.length<=i⟩
noncomputable def Itr(lo:Int)(n:Nat):It:=⟨λi _=>i<n,λi H x H'=>H'=H/\x=.int (lo+i),λi _=>n<=i⟩
def b1O{K:qB} a it:Turn P w K tg (Itl K a) [it] it (λi h=>h.IsListIter it a i)where
 mem:=by simp
 obj:=λi h f b g=>by
  have e:b=it:=by simpa using g
  subst e;obtain⟨o,e,c,d⟩:=f;exact⟨o,e,λv z=>by rw[d]at z;cases z⟩
 keep:=λi h G f k=>f.at λo e=>k it (by simp) o e;item:=by intro X D A F S i pz s U H E I r f C;subst D A F;obtain⟨Y,x,q,R⟩:=C;obtain⟨y,t,p,hz⟩:=I.list q;obtain⟨u,hu,ru⟩:=t.get R;obtain⟨Q,N,f2,M,L,J⟩:=r it (by simp);refine wpAny_pyNext_list_item f p.isList (x:=u) (by simpa using hu) λG j T=>?_;have I1:=I.turned (t':=s.toks) (λb o g e=>(T.2 b g).trans e) Q N M L J;obtain⟨o,e,c,d⟩:=id j;exact⟨u,rfl,b1h (s:={s with heap:=G}) e c d (by decide) ⟨x,H,I1,ru,⟨rfl,λys hy=>by rwa[I.list_inj hy q]⟩,j,λb g=>(r b g).1⟩⟩
 done:=by intro X D A F S i pz s U H E I r f C;subst D A F;obtain⟨Y,q,R⟩:=C;obtain⟨y,t,p,hz⟩:=I.list q;obtain⟨Q,N,f2,M,L,J⟩:=r it (by simp);have hl:=t.length;exact wpAny_pyNext_list_end (I.ok.hd S) f p.isList (by simp;lia) λG eb=>⟨rfl,I.turned (t':=s.toks) (λb o g e=>eb b o g e) Q N M L J⟩
 self:=λ_ _ _ _ _ f h=>wpAny_pyIter_listiter f h
def a8E{K:qB} a it:Turn P w K tg (Itt K a) [it] it (λi h=>h.IsTupleIter it a i)where
 mem:=by simp
 obj:=λi h f b j=>by
  have e:b=it:=by simpa using j
  subst e;obtain⟨o,e,c,d⟩:=f;exact⟨o,e,λv z=>by rw[d]at z;cases z⟩
 keep:=λi h G f k=>f.at λo e=>k it (by simp) o e;item:=by intro X D A F S i pz s U H E I t f C;subst D A F;obtain⟨Y,x,r,R⟩:=C;obtain⟨g,y,p,hz⟩:=I.tuple r;obtain⟨u,hu,ru⟩:=y.get R;obtain⟨Q,N,f2,M,L,J⟩:=t it (by simp);refine wpAny_pyNext_tuple_item f (show s.heap.IsTuple a g.toArray from p) (x:=u) (by simpa using hu) λG q T=>?_;have I1:=I.turned (t':=s.toks) (λb o j e=>(T.2 b j).trans e) Q N M L J;obtain⟨o,e,c,d⟩:=id q;exact⟨u,rfl,b1h (s:={s with heap:=G}) e c d (by decide) ⟨x,H,I1,ru,⟨rfl,λys hy=>by rwa[I.tuple_inj hy r]⟩,q,λb j=>(t b j).1⟩⟩
 done:=by intro X D A F S i pz s U H E I t f C;subst D A F;obtain⟨Y,r,R⟩:=C;obtain⟨g,y,p,hz⟩:=I.tuple r;obtain⟨Q,N,f2,M,L,J⟩:=t it (by simp);have hl:=y.length;exact wpAny_pyNext_tuple_end (I.ok.hd S) f (show s.heap.IsTuple a g.toArray from p) (by simp;lia) λG eb=>⟨rfl,I.turned (t':=s.toks) (λb o j e=>eb b o j e) Q N M L J⟩
 self:=λ_ _ _ _ _ f h=>wpAny_pyIter_tupleiter f h
def a8F{K:qB} it f n:Turn P w K tg (Itr f n) [it] it (λi h=>IsRangeIter h it (f+(i:Nat)*1) ((n:Int)-(i:Nat)) 1)where
 mem:=by simp
 obj:=λi h a b c=>by
  have e:b=it:=by simpa using c
  subst e;exact⟨_,a,λv z=>by have M:=z;cases M⟩
 keep:=λi h j a k=>k it (by simp) _ a;item:=by intro X u p y r i L s U H E I g a q;subst u p y;obtain⟨G,F,R,D,C,A⟩:=g it (by simp);have W:=Walks.range (prog:=X.prog) (w:=X.w) (I.ok.hd r) it f 1 n;refine W.item i s _ _ q a λv j J Q d N=>?_;obtain⟨t,rfl⟩:=Q;have T:Inv X L U H {s with heap:=j,toks:=J}:=I.turned (λb o c e=>N b o (by simpa using c) e) G F D C A;refine⟨_,rfl,b1h (s:={s with heap:=j,toks:=J}) (n:="range_iterator") d rfl rfl (by decide) ⟨.int (f+i),H,T,⟨t,?_⟩,⟨rfl,rfl⟩,d,λb c=>(g b c).1⟩⟩;rw[Int.mul_one]
 done:=by intro X u p y r i L s U H E I g a q;subst u p y;obtain⟨G,F,R,D,C,A⟩:=g it (by simp);exact wpAny_pyNext_range_end (I.ok.hd r) a (by have:n<=i:=q;lia) λj S=>⟨rfl,I.turned (t':=s.toks) (λb o c e=>S b o c e) G F D C A⟩
 self:=λ_ _ _ _ _ a h=>wpAny_pyIter_rangeiter a h
variable{tl:TE}
def c4h(K:qB)(tl:TE):TI:=λU H R=>tl U H λx H1=>∃a,x=.ref a/\(∃Y,SqL K H1 a Y)/\R (Itl K a) H1
def c5R(K:qB)(tl:TE):TI:=λU H R=>tl U H λx H1=>∃a,x=.ref a/\(∃Y,SqT K H1 a Y)/\R (Itt K a) H1
def a5P(r:PE X l tl):PI X tg l (c4h X.K tl):=by
 intro i s U H R I h;refine thn (r i s U H _ I h) ?_;rintro v c⟨x,u,d,f,g⟩;obtain⟨a,e,⟨Y,k⟩,q⟩:=g;subst e;cases f;obtain⟨j,w,p,y⟩:=d.list k;refine yd p.isList ?_;refine⟨c.heap.objs.size,[c.heap.objs.size],_,_,u,rfl,d.kept (t':=c.toks) λb o e=>qC _ e,b1O a _,⟨_,qP _ rfl,rfl,rfl⟩,λb t=>?_,q⟩;have e:b=c.heap.objs.size:=by simpa using t
 subst e;exact d.fpOk (qQ _) (d.hok.fresh (qQ _))
def c1m(r:PE X l tl):PI X tg l (c5R X.K tl):=by
 intro j s U H R I h;refine thn (r j s U H _ I h) ?_;rintro v c⟨x,u,d,g,i⟩;obtain⟨a,e,⟨Y,k⟩,q⟩:=i;subst e;cases g;obtain⟨f,w,p,y⟩:=d.tuple k;refine wpAny_pyIter_tuple (show c.heap.IsTuple a f.toArray from p) ?_;refine⟨c.heap.objs.size,[c.heap.objs.size],_,_,u,rfl,d.kept (t':=c.toks) λb o e=>qC _ e,a8E a _,⟨_,qP _ rfl,rfl,rfl⟩,λb t=>?_,q⟩;have e:b=c.heap.objs.size:=by simpa using t
 subst e;exact d.fpOk (qQ _) (d.hok.fresh (qQ _))
def b4l{R:It->Hp->Prop}{a c:Int}{t u v:Tok}(I:Inv X pz U H s)(B:-(2^62)<=a)(j:a<2^62)(i:-(2^62)<=c)(g:c<2^62)(q:R (Itr a (c-a).toNat) H):wpAny (model X.prog X.w) X.A (QK (.ref s.heap.objs.size)) (PIE X pz U tg R) E {s with heap:=s.heap.push {cls:=.type "range",data:=.fields #[.int a t,.int c u,.int 1 v]},toks:=tk}:=by
 refine wpAny_pyIter_range (IsRange.new ..) (small_one B j i g) ?_;have d:Inv X pz U H {s with heap:=s.heap.push {cls:=.type "range",data:=.fields #[.int a t,.int c u,.int 1 v]},toks:=tk}:=I.kept λb o e=>qC _ e;refine⟨(s.heap.push {cls:=.type "range",data:=.fields #[.int a t,.int c u,.int 1 v]}).objs.size,[(s.heap.push {cls:=.type "range",data:=.fields #[.int a t,.int c u,.int 1 v]}).objs.size],_,_,H,rfl,d.kept (t':=tk) λb o e=>qC _ e,a8F _ a (c-a).toNat,?_,λb f=>?_,q⟩
 ·have p:a+((0:Nat):Int)*1=a:=by simp
  have k:(((c-a).toNat:Nat):Int)-((0:Nat):Int)=Builtin.Range.rangeSize a c 1:=by rw[rangeSize_one];split<;>lia
  rw[p,k];exact qP _ rfl
 ·have e:b=(s.heap.push {cls:=.type "range",data:=.fields #[.int a t,.int c u,.int 1 v]}).objs.size:=by simpa using f
  subst e;exact d.fpOk (qQ _) (d.hok.fresh (qQ _))
def c4g(ta:TA):TI:=λU H R=>ta U H λvs H1=>∃j:Int,vs=[.int j]/\-(2^62)<=j/\j<2^62/\R (Itr 0 j.toNat) H1
def b2t{a:Expr}{c:TA}(o:Gl X "range")(k:X.mg "range"=none)(u:PA X [a] c)(hs:j4 [a] X.env=[(false,eval a X.env)]:=by rfl):PI X tg (.Call (.Name "range" p) [a] [] pos) (c4g c):=by intro i s U H R I h;refine Call_ (sZ I o k boot_range (PyProof.Rows.callWith_type1 (thn (u pos i s U H _ I h) ?_) hs rfl));rintro y z⟨w,A,v,f,b⟩;obtain⟨j,e,b,g,q⟩:=b;subst e;cases f with|cons r d=>cases d;obtain⟨t,rfl⟩:=r;exact call_range_1 (b4l v (by lia) (by lia) b g (by simpa using q))
def c5d(wi:TI)(g:TG)(tb:TS):TS:=λD U H=>wi U H λJ H1=>∃W:Nat->Nat->St->Hp->Prop,(∃m,W 0 m U H1)/\∀i m U H,W i m U H->(J.stop i H/\D.nx U H)\/(J.go i H/\∃N:St->Hp->Prop,(∀σ' H',N σ' H'->∃m',m'<m/\W (i+1) m' σ' H')/\∀x H',J.yld i H x H'->g x U H' λσ2 H2=>tb {D with nx:=N,ct:=N,bk:=D.nx} σ2 H2)
noncomputable def a2K(fp:T0o)(h:Heap):List (Addr×Obj):=fp.filterMap λb=>(h.get? b).map λo=>(b,o)
def pP{o:Obj}(a:b∈fp)(e:h.get? b=some o):(b,o)∈a2K fp h:=zr.mpr ⟨b,a,by rw[e];rfl⟩
def b2v{p:Addr×Obj}(a:p∈a2K fp h):p.1∈fp/\h.get? p.1=some p.2:=by obtain⟨b,c,e⟩:=zr.mp a;cases q:h.get? b with|none=>rw[q]at e;cases e|some o=>rw[q]at e;have d:=qA e;subst d;exact⟨c,q⟩
def Inv.pinned(I:Inv X pz U H s)(i:∀b∈fp,a1i X pz H b)(g:∀b∈fp,∃o,s.heap.get? b=some o/\∀v,o.data≠.cell v):Inv X (pz++a2K fp s.heap) U H s:=I.pins_of λp f=>(qX.mp f).elim (λz=>I.pin p (qb _ z)) λz=>by obtain⟨a,e⟩:=b2v z;obtain⟨q,k,j,_⟩:=i p.1 a;obtain⟨o,c,d⟩:=g p.1 a;rw[e]at c;cases c;exact⟨e,q,k,j,d⟩
def Inv.unpinned{pl:T0b}(I:Inv X (pz++pl) U H s):Inv X pz U H s:=I.pins_of λp a=>I.pin p (qb _ (jQ _ a))
def b4v{tb:TS}(L:u7 (model X.prog X.w) X.A X.env X.xe)(hc:X.calm=true)(hi:PI X tg iter wi)(hg:PG X tg g)(p:PSs X body tb)(hs:∀x,v6 iter X.env x=pure x:=by intro _;rfl):PS X (.For tg iter body [] pos) (c5d wi g tb):=by
 intro C s U H D I h;refine wpAny_For (thn (hi C s U H _ I h) λv s1 B=>thn B λitv s2 h2=>?_) hs;obtain⟨it,P,tn,J,H2,e,I2,T,S,f2,W,⟨m0,w0⟩,E⟩:=h2;subst e--what stays true of the iterator's objects through the loop
 have k:∀{y:Hp},(∀b∈P,y b=none)->∀b∈P,a1i X C y b:=λhn b p=>⟨hn b p,(f2 b p).2⟩;refine codeAny_forLoop_any (λn s'=>∃i j y,Inv X C j y s'/\tn i s'.heap/\(∀b∈P,y b=none)/\W i n j y) ?_ m0 ⟨0,U,H2,I2,S,λb p=>(f2 b p).1,w0⟩;rintro n s3⟨i,c,Q,I3,G,M,w3⟩;obtain⟨F,qn⟩|⟨go,N,hN,step⟩:=E i n c Q w3;·refine yo L (thn (T.done X rfl rfl rfl hc i C s3 c Q X.xe I3 (k M) G F) ?_);rintro r s4⟨hr,I4⟩;subst hr;exact wpAny_execs_nil ⟨c,Q,I4,qn⟩
 ·refine yo L (thn (T.item X rfl rfl rfl hc i C s3 c Q X.xe I3 (k M) G go) ?_);rintro r s4⟨u,hr,h4⟩;subst hr;refine yo L (thn h4 ?_);rintro _ s5⟨x,H5,I5,r5,y5,A,fr5⟩;have I5':=I5.pinned (k fr5) (T.obj _ _ A);refine yo L (thn (hg _ s5 c H5 x u _ I5' r5 (step x H5 y5)) ?_);rintro _ s6⟨R,H6,I6,q6⟩;refine yo L (thn (p _ s6 R H6 _ I6 q6) λf s7 z=>?_);have q:∀{a:St}{w:Hp},Inv X (C++a2K P s5.heap) a w s7->N a w->∃m,m<n/\∃i j y,Inv X C j y s7/\tn i s7.heap/\(∀b∈P,y b=none)/\W i m j y:=λ{a w}t K=>by obtain⟨m',hm,w7⟩:=hN a w K;refine⟨m',hm,i+1,a,w,t.unpinned,T.keep _ _ _ A λb p o e=>(t.pin (b,o) (qb _ (qb _ (pP p e)))).1,λb p=>?_,w7⟩;obtain⟨o,e,d⟩:=T.obj _ _ A b p;exact(t.pin (b,o) (qb _ (qb _ (pP p e)))).2.1
  cases f with|next=>obtain⟨a,w,t,K⟩:=z;exact q t K|cont=>obtain⟨a,w,t,K⟩:=z;exact q t K|brk=>obtain⟨a,w,t,z⟩:=z;exact⟨a,w,t.unpinned,z⟩|ret v=>obtain⟨x7,a,w,t,r7,z⟩:=z;exact⟨x7,a,w,t.unpinned,r7,z⟩
abbrev R2:=V->V->Hp->VK->Prop
def OpR(X:Cx)(f:Value->Value->Sem Value)(r:R2):Prop:=∀ pz s(U:St) H x y v u Q,Inv X pz U H s->RelV x v->RelV y u->r x y H Q->wpAny (model X.prog X.w) X.A (f v u) (EP X pz U Q) X.xe s
def lK(X:Cx)(f:Value)(r:List V->Hp->VK->Prop):Prop:=∀ pz s(U:St) H Y(us:T0m) Q,Inv X pz U H s->bH Y us->r Y H Q->wpAny (model X.prog X.w) X.A (call f us) (EP X pz U Q) X.xe s
def c6a(X:Cx)(r:V->Hp->(Bool->Hp->Prop)->Prop):Prop:=∀ pz s(U:St) H x v Q,Inv X pz U H s->RelV x v->r x H Q->wpAny (model X.prog X.w) X.A (truthy v) (TP X pz U Q) X.xe s
noncomputable def tOp(r:R2)(ta tb:TE):TE:=λU H Q=>ta U H λx H1=>tb U H1 λy H2=>r x y H2 Q
noncomputable def rI(C:Int->Int->Prop)(g:Int->Int->V):R2:=λx y H Q=>∃i j,x=.int i/\y=.int j/\C i j/\Q (g i j) H
noncomputable def rI0(g:Int->Int->V):R2:=λx y H Q=>∃i j,x=.int i/\y=.int j/\Q (g i j) H
variable{tc:TE}{r:R2}
section
variable{a b:Expr}
def c3f(r:PE X a ta)(q:PE X b tb){R:V->V->Hp->Prop}(I:Inv X pz U H s)(h:ta U H λx H1=>tb U H1 λy H2=>R x y H2){f:Value->Value->Sem Value}(p:∀v u c x y H2,Inv X pz U H2 c->RelV x v->RelV y u->R x y H2->wpAny (model X.prog X.w) X.A (f v u) Q X.xe c):wpAny (model X.prog X.w) X.A (eval a X.env) (λv e=>wpAny (model X.prog X.w) X.A (eval b X.env) (λu d=>wpAny (model X.prog X.w) X.A (f v u) Q X.xe d) X.xe e) X.xe s:=by refine thn (r pz s U H _ I h) ?_;rintro v g⟨x,H1,w,j,o⟩;exact thn (q pz g U H1 _ w o) (by rintro u c⟨y,H2,t,i,k⟩;exact p v u c x y H2 t j i k)
def c0f{c:Operator}(i:OpR X (wz c) r)(k:PE X a ta)(j:PE X b tb):PE X (.BinOp a c b pos) (tOp r ta tb):=λg s U H Q I h=>wpAny_BinOp (c3f k j I h λv u d x y p o f e q=>i g d U p x y v u Q o f e q)
def opI{C:Int->Int->Prop}{g:Int->Int->Int}(a:∀ i j t u s(Q:T0a)(E:T0a),C i j->Q (.int (g i j) s.toks) {s with toks:=s.toks+1}->wpAny (model X.prog X.w) X.A (f (.int i t) (.int j u)) Q E s):OpR X f (rI C λi j=>.int (g i j)):=by rintro k s U H x y v u Q I d c⟨i,j,rfl,rfl,e,q⟩;obtain⟨t,rfl⟩:=d;obtain⟨b,rfl⟩:=c;exact a i j t b s _ _ e ⟨.int (g i j),H,I.tok _,⟨_,rfl⟩,q⟩
def c3V{g:Int->Int->Int}(a:∀ i j t u s(Q:T0a)(E:T0a),Q (.int (g i j) s.toks) {s with toks:=s.toks+1}->wpAny (model X.prog X.w) X.A (f (.int i t) (.int j u)) Q E s):OpR X f (rI0 λi j=>.int (g i j)):=by rintro e s U H x y v u Q I d c⟨i,j,rfl,rfl,q⟩;obtain⟨t,rfl⟩:=d;obtain⟨b,rfl⟩:=c;exact a i j t b s _ _ ⟨.int (g i j),H,I.tok _,⟨_,rfl⟩,q⟩
def b8n{g:Int->Int->Bool}(a:∀ i j t u s(Q:T0a)(E:T0a),Q (.bool (g i j)) s->wpAny (model X.prog X.w) X.A (f (.int i t) (.int j u)) Q E s):OpR X f (rI0 λi j=>.bl (g i j)):=by rintro e s U H x y v u Q I d c⟨i,j,rfl,rfl,q⟩;obtain⟨t,rfl⟩:=d;obtain⟨b,rfl⟩:=c;exact a i j t b s _ _ ⟨.bl (g i j),H,I,rfl,q⟩
def c6f(i j:Int):Prop:=0<j/\j<1073741824
def c3l(i j:Int):Prop:=(-(2^64)<i/\i<2^64)\/(-(2^64)<j/\j<2^64)
theorem c3l.ok{i j:Int}(h:c3l i j):IntMulOk i j:=by
 obtain⟨B,a⟩|⟨B,a⟩:=h;·exact .of_left (intBits_le_64 B a)
 ·exact .of_right (intBits_le_64 B a)
def c1I:OpR X (wz .Add) (rI0 λi j=>.int (i+j)):=c3V λ_ _ _ _ _ _ _ q=>add_int q
def c1z:OpR X (wz .Sub) (rI0 λi j=>.int (i-j)):=c3V λ_ _ _ _ _ _ _ q=>sub_int q
def c1C:OpR X (wz .Mult) (rI c3l λi j=>.int (i*j)):=opI λ_ _ _ _ _ _ _ a q=>mul_int q a.ok
def b8k:OpR X (wz .FloorDiv) (rI c6f λi j=>.int (i/j)):=opI λi j _ _ _ _ _ a q=>by have B:=a.1;have b:=a.2;exact floordiv_int (by lia) (by rwa[Int.fdiv_eq_ediv_of_nonneg i (by lia)]) (.inl (PyProof.noPylong_small (by omega)))
def c1D:OpR X (wz .Mod) (rI (λ_ j=>0<j) λi j=>.int (i%j)):=opI λi j _ _ _ _ _ a q=>by have B:=a;exact mod_int' (by lia) (by rwa[Int.fmod_eq_emod_of_nonneg i (by lia)])
end
noncomputable def c3D:V->V->Bool|.non,.non=>true|.non,.int _=>true|.int _,.non=>true|.non,.bl _=>true|.bl _,.non=>true|.non,.str _=>true|.str _,.non=>true|.int _,.int _=>true|.bl _,.bl _=>true|.str _,.str _=>true|.byt _,.byt _=>true|.int _,.str _=>true|.str _,.int _=>true|.bl _,.str _=>true|.str _,.bl _=>true|_,_=>false
def rEq:R2:=λx y H Q=>c3D x y=true/\Q (.bl (decide (x=y))) H
def rNe:R2:=λx y H Q=>c3D x y=true/\Q (.bl (!decide (x=y))) H
def b1y{i j:Int}:decide (V.int i=V.int j)=(i==j):=by rw[jz];simp
def b6x{i j:Bool}:decide (V.bl i=V.bl j)=(i==j):=by rw[jz];simp
def b1x{i j:Str}:decide (V.str i=V.str j)=(i==j):=by rw[jz];simp
def b1z{i j:Array UInt8}:decide (V.byt i=V.byt j)=(i.toList==j.toList):=by rw[jz];cases i;cases j;simp
section
variable{a b:Expr}
def bU{Q:VK}{k a:Bool}(I:Inv X pz U H s)(q:Q (.bl k) H)(e:k=a):EP X pz U Q (.bool a) s:=by subst e;exact⟨.bl k,H,I,rfl,q⟩
def b4S:OpR X (wa .Eq) rEq:=by intro e s U H x y v u Q I d a h;obtain⟨c,q⟩:=h;cases x with
 |non=>cases d;cases y with|non=>cases a;exact PySem.EqNone.eq_none_none (bU I q (by simp))|bl j=>cases a;exact PySem.EqNone.eq_none_bool (bU I q (by simp))|int j=>obtain⟨b,rfl⟩:=a;exact PySem.EqNone.eq_none_int (bU I q (by simp))|str j=>obtain⟨b,rfl⟩:=a;exact PySem.EqNone.eq_none_str (bU I q (by simp))|_=>exact absurd (show false=true from c) qf
 |bl i=>cases d;cases y with|non=>cases a;exact PySem.EqNone.eq_bool_none (bU I q (by simp))|bl j=>cases a;exact eq_bool (bU I q b6x)|str j=>obtain⟨b,rfl⟩:=a;exact PySem.EqMixed.eq_bool_str (bU I q (by simp))|_=>exact absurd (show false=true from c) qf
 |int i=>obtain⟨t,rfl⟩:=d;cases y with|non=>cases a;exact PySem.EqNone.eq_int_none (bU I q (by simp))|int j=>obtain⟨b,rfl⟩:=a;exact eq_int (bU I q b1y)|str j=>obtain⟨b,rfl⟩:=a;exact PySem.EqMixed.eq_int_str (bU I q (by simp))|_=>exact absurd (show false=true from c) qf
 |str i=>obtain⟨t,rfl⟩:=d;cases y with|non=>cases a;exact PySem.EqNone.eq_str_none (bU I q (by simp))|bl j=>cases a;exact PySem.EqMixed.eq_str_bool (bU I q (by simp))|int j=>obtain⟨b,rfl⟩:=a;exact PySem.EqMixed.eq_str_int (bU I q (by simp))|str j=>obtain⟨b,rfl⟩:=a;exact eq_str (bU I q b1x)|_=>exact absurd (show false=true from c) qf
 |byt i=>obtain⟨t,rfl⟩:=d;cases y with|byt j=>obtain⟨b,rfl⟩:=a;exact PySem.W.eq_bytes (bU I q b1z)|_=>exact absurd (show false=true from c) qf
 |_=>cases y<;>exact absurd (show false=true from c) qf
def b4R:OpR X (wa .NotEq) rNe:=by rintro e s U H x y v u Q I d a⟨c,q⟩;cases x with
 |non=>cases d;cases y with|non=>cases a;exact PySem.EqNone.ne_none_none (bU I q (by rfl))|bl j=>cases a;exact PySem.EqNone.ne_none_bool (bU I q (by assumption))|int j=>obtain⟨b,rfl⟩:=a;exact PySem.EqNone.ne_none_int (bU I q (by assumption))|str j=>obtain⟨b,rfl⟩:=a;exact PySem.EqNone.ne_none_str (bU I q (by assumption))|_=>exact absurd (show false=true from c) qf
 |bl i=>cases d;cases y with|non=>cases a;exact PySem.EqNone.ne_bool_none (bU I q (by assumption))|bl j=>cases a;exact ne_bool (bU I q (congrArg not b6x))|str j=>obtain⟨b,rfl⟩:=a;exact PySem.EqMixed.ne_bool_str (bU I q (by assumption))|_=>exact absurd (show false=true from c) qf
 |int i=>obtain⟨t,rfl⟩:=d;cases y with|non=>cases a;exact PySem.EqNone.ne_int_none (bU I q (by assumption))|int j=>obtain⟨b,rfl⟩:=a;exact ne_int (bU I q (congrArg not b1y))|str j=>obtain⟨b,rfl⟩:=a;exact PySem.EqMixed.ne_int_str (bU I q (by assumption))|_=>exact absurd (show false=true from c) qf
 |str i=>obtain⟨t,rfl⟩:=d;cases y with|non=>cases a;exact PySem.EqNone.ne_str_none (bU I q (by assumption))|bl j=>cases a;exact PySem.EqMixed.ne_str_bool (bU I q (by assumption))|int j=>obtain⟨b,rfl⟩:=a;exact PySem.EqMixed.ne_str_int (bU I q (by assumption))|str j=>obtain⟨b,rfl⟩:=a;exact ne_str (bU I q (congrArg not b1x))|_=>exact absurd (show false=true from c) qf
 |byt i=>obtain⟨t,rfl⟩:=d;cases y with|byt j=>obtain⟨b,rfl⟩:=a;exact PySem.W.ne_bytes (bU I q (congrArg not b1z))|_=>exact absurd (show false=true from c) qf
 |_=>cases y<;>exact absurd (show false=true from c) qf
def c3R:OpR X (wa .Lt) (rI0 λi j=>.bl (decide (i<j))):=b8n λ_ _ _ _ _ _ _ q=>lt_int q
def c3S:OpR X (wa .LtE) (rI0 λi j=>.bl (decide (i<=j))):=b8n λ_ _ _ _ _ _ _ q=>le_int q
def c3T:OpR X (wa .Gt) (rI0 λi j=>.bl (decide (j<i))):=b8n λ_ _ _ _ _ _ _ q=>gt_int q
def c3U:OpR X (wa .GtE) (rI0 λi j=>.bl (decide (j<=i))):=b8n λ_ _ _ _ _ _ _ q=>ge_int q
def c1E:OpR X (wa .Is) (λx y H Q=>y=.non/\Q (.bl (decide (x=.non))) H):=by rintro c s U H x y v u Q I a b⟨rfl,q⟩;cases b;refine is_none_gen (bU I q ?_);cases x<;>first|(cases a;rfl)|(obtain⟨t,rfl⟩:=a;rfl)
def b4X b(h:op≠.In:=by decide)(a:op≠.NotIn:=by decide):v9 op b=false:=by
 have d:(op==CmpOp.In)=false:=by cases op<;>first|rfl|exact absurd rfl h
 have c:(op==CmpOp.NotIn)=false:=by cases op<;>first|rfl|exact absurd rfl a
 cases b<;>simp[v9,d,c]
def b8a(g:OpR X (wa op) r)(k:PE X a ta)(j:PE X b tb)(i:v9 op b=false):PE X (.Compare a [op] [b] pos) (tOp r ta tb):=λf s U H Q I h=>wpAny_Compare1 (c3f k j I h λv u c x y p o e d q=>g f c U p x y v u Q o e d q) i
noncomputable def c3u(t:TE):TT:=λU H Q=>t U H λx H'=>∃k,x=.bl k/\Q k H'
def b7R(w:OpR X (wa op) r)(D:PE X a ta)(C:PE X b tb)(A:v9 op b=false):PT X (.Compare a [op] [b] pos) (c3u (tOp r ta tb)):=by intro d s U H Q I h;refine wpAny_isTrue_Compare1 (thn (D d s U H _ I h) ?_) A;rintro v g⟨x,L,G,o,t⟩;refine thn (C d g U L _ G t) ?_;rintro u f⟨y,K,F,j,q⟩;refine thn (w d f U K x y v u _ F o j q) ?_;rintro c M⟨z,J,E,i,k,e,p⟩;subst e;cases i;exact wt ⟨J,E,p⟩
def c3j(K:qB)(x:V)(H:Hp)(k:Bool):Prop:=match x with|.non=>k=false|.bl b=>k=b|.int i=>k=(i !=0)|.str y=>y.length<=j5/\k=((y.length:Int)!=0)|.byt y=>y.size<=j5/\k=((y.size:Int)!=0)|.ref p=>(∃Y,SqL K H p Y/\k=!Y.isEmpty)\/(∃Y,SqT K H p Y/\k=!Y.isEmpty)\/∃kvs,H p=some (.dK kvs)/\k=!kvs.isEmpty|_=>False
def a9I{vs:List (κ×Value)}(r:KV kvs vs):(!vs.isEmpty)=!kvs.isEmpty:=by cases r<;>rfl
def a3g(r:bH Y its):(!its.toArray.isEmpty)=!Y.isEmpty:=by cases r<;>rfl
def a0H:(j5:Nat)<2^63:=by rw[wu];decide
def c0L:c6a X (λx H Q=>∃k,c3j X.K x H k/\Q k H):=by intro pz s U H x v Q I rx h;obtain⟨k,e,q⟩:=h;have hl:=a0H;have hs:j5=16777216:=wu;cases x with|non=>cases rx;have e':k=false:=e;subst e';exact truthy_none ⟨H,I,q⟩|bl b=>cases rx;have e':k=b:=e;subst e';exact wt ⟨H,I,q⟩|int i=>obtain⟨t,rfl⟩:=rx;have e':k=(i !=0):=e;subst e';exact PySem.P.truthy_int ⟨H,I,q⟩|str y=>obtain⟨t,rfl⟩:=rx;obtain⟨hy,e'⟩:y.length<=j5/\k=((y.length:Int)!=0):=e;subst e';exact PySem.P.truthy_str (by lia) ⟨H,I.tok _,q⟩|byt y=>obtain⟨t,rfl⟩:=rx;obtain⟨hy,e'⟩:y.size<=j5/\k=((y.size:Int)!=0):=e;subst e';exact PySem.W.truthy_bytes (by exact Q2 ‹_› rfl) ⟨H,I.tok _,q⟩|ref p=>
  cases rx;have e':(∃Y,SqL X.K H p Y/\k=!Y.isEmpty)\/(∃Y,SqT X.K H p Y/\k=!Y.isEmpty)\/∃kvs,H p=some (.dK kvs)/\k=!kvs.isEmpty:=e;rcases e' with⟨Y,hx,e'⟩|⟨Y,hx,e'⟩|⟨kvs,hx,e'⟩;·subst e';obtain⟨its,r,pl,hz⟩:=I.list hx;have hlen:=r.length;exact wpAny_truthy_list pl.isList (by simp only[qS];omega) ⟨H,I.tok _,by rw[a3g r];exact q⟩
  ·subst e';obtain⟨its,r,pl,hz⟩:=I.tuple hx;have hlen:=r.length;exact truthy_tuple pl (by simp only[qS];omega) ⟨H,I.tok _,by rw[a3g r];exact q⟩
  ·subst e';obtain⟨hz,hS,vs,r,m⟩:kvs.length<=j5/\(p==wg)=false/\∃vs,KV kvs vs/\s.heap.DictOf (bI X.prog X.w) p vs:=I.hok p _ hx;have hlen:kvs.length=vs.length:=Paired.length r;exact wpAny_truthy_dict hS m (by lia) ⟨H,I.tok _,by rw[a9I r];exact q⟩|_=>exact(show False from e).elim
def b4r(g:PE X a ta)(f:∀whole,isTrue a X.env whole=(do let v<-whole;QP a.pos;holding [v] (truthy v))):PT X a (λU H Q=>ta U H λx H'=>∃k,c3j X.K x H' k/\Q k H'):=λb s U H Q I h=>isTrue_plain (thn (g b s U H _ I h) (by rintro v c⟨x,j,i,d,e⟩;exact c0L b c U j x v Q i d e)) (f _)
def a9k:OpR X (wz .Add) (λx y H Q=>∃i j,x=.str i/\y=.str j/\i.length+j.length<=j5/\Q (.str (i++j)) H):=by rintro f s U H x y v u Q I c b⟨i,j,rfl,rfl,d,q⟩;obtain⟨t,rfl⟩:=c;obtain⟨a,rfl⟩:=b;exact add_str (λa e=>⟨.str (i++j),H,I.tok _,⟨_,rfl⟩,q⟩) d
def vals1(r:bH [x] us):∃u,us=[u]/\RelV x u:=by cases r with|cons b a=>cases a;exact⟨_,rfl,b⟩
def vals2(r:bH [x,y] us):∃u a,us=[u,a]/\RelV x u/\RelV y a:=by cases r with|cons e d=>cases d with|cons c b=>cases b;exact⟨_,_,rfl,e,c⟩
end
structure ObjM(h:Heap)(x dx C:Addr)(mA:T0d):Prop where
 obj:h.get? x=some (kO C dx)ns:h.Ns1 dx mA
 ne:dx≠x
def b2J{h:Heap}(n:h.Ns1 dx mA):∃od,h.get? dx=some od/\∀name,vp name od=some (mA name):=by
 obtain⟨o,c,p,f,j,i,_,g⟩:=n;refine⟨o,f,λname=>?_⟩;have e:=g name;unfold nsFind findBy at e;rw[<-Array.find?_toList]at e;unfold vp;rw[j];dsimp only;split;·rename_i y q;rw[q]at e;exact congrArg some e
 ·rename_i q;rw[q]at e;have a:c.toList.any (·.refKey)=false:=by rw[List.any_eq_false];intro y d;obtain⟨z,t,b⟩:=i y (Array.mem_toList_iff.mp d);simp[DictEntry.refKey,b]
  have k:¬c.toList.any (·.refKey)=true:=by rw[a];exact qf
  rw[if_neg k];exact congrArg some e
theorem ObjM.look(I:ObjM h x dx C mA):∃od,PySem.W.InstAt h x (kO C dx) C (some od)/\∀name,vp name od=some (mA name):=let⟨od,ho,hl⟩:=b2J I.ns;⟨od,⟨I.obj,rfl,rfl,ho⟩,hl⟩
variable{f:Addr}
section
variable{K:qB}{x:Addr}{v:Value}
def b8R(X:K.In s.heap)(I:ObjM s.heap x dx C mA)(e:zW K C name=true)(d:vD K C=true)(f:jF K (.ref C) name=some none)(b:mA name=some v)(a:PySem.W.handedIn v=true)(h:Q v {s with toks:=s.toks+1}):wpAny (model prog w) A (getAttr (.ref x) name expr) Q E s:=by obtain⟨g,J,c⟩:=I.look;exact PySem.W.get_value X J (vt e).1 (PySem.W.findObj_own d f rfl (by rw[c,b])) a h
def b5V{pl:Sem Bool}{Q:Value×List Value->Shared->Prop}(X:K.In s.heap)(I:ObjM s.heap x dx C mA)(a:zW K C name=true)(g:jF K (.ref C) name=some (some (.ref f)))(d:vV K (.ref f)=true)(c:mA name=none)(h:Q (.ref f,[.ref x]) s):wpAny (model prog w) A (ut (.ref x) name pl) Q E s:=by obtain⟨b,J,e⟩:=I.look;exact PySem.W.method_fn X J (vt a).1 (vt a).2 g (beq_iff_eq.mp d) (by show(vp name b).map (·.isSome)=some false;rw[e,c];rfl) h
def b7w{Q:Unit->Shared->Prop}(X:K.In s.heap)(I:ObjM s.heap x dx C mA)(hs:jF K (.ref C) "__setattr__"=some (some (.builtin "object.__setattr__")))(p:wG K C=true)(o:PySem.W.takerIn K C name=some none)(q:vD K C=true)(k:PySem.Within mA ns)(hsz:ns.length<=j5)(h:∀h',ObjM h' x dx C (λy=>if y=name then some v else mA y)->jx dx s.heap h'->Q () {s with heap:=h',toks:=s.toks+2}):wpAny (model prog w) A (setAttr (.ref x) name v) Q E s:=by obtain⟨D,J,G⟩:=I.look;refine PySem.W.set_plain X J hs (PySem.W.osa_open (s:={s with toks:=s.toks+1}) (r:=none) X J p o λb=>?_);obtain⟨H,t,g⟩:=PySem.W.any_some q;have j:=I.obj;refine j0 (j3 (j0 (j0 (wpAny_loadPart j (j0 (PySem.W.Looks.here (s:={s with toks:=s.toks+1}) (PySem.W.looks_clsIn X t) ?_))))));rw[g];refine j3 (a:=some dx) (j0 (j3 (j0 ?_)));refine wpAny_nsSet1 (s:={s with toks:=s.toks+1}) I.ns λh' d c=>?_;obtain⟨F,u,z,e,f,i⟩:=d.count (PySem.Within.cons name v k);exact j0 (wpAny_lookBehind e (by rw[f];exact pastItsLine_dict (qg i (by rw[qZ];exact Q0 ‹_› rfl))) (j3 (h _ ⟨(c.2 _ (jH I.ne)).trans I.obj,d,I.ne⟩ c)))
def b5q{R:Result->Shared->Prop}{vs:T0m}(X:K.In s.heap)(b:PySem.W.makesIn K C=true)(c:jF K (.ref C) "__init__"=some (some (.ref f)))(e:PySem.W.typeIn K (.ref f)=some (.type "function"))(h:wn (model prog w) (A.under (.builtin "type.__call__" ⟨.ref C::vs,kw⟩)) (.call (.ref f) ⟨.ref (s.heap.objs.size+1)::vs,kw⟩) (PySem.W.InitBack (s.heap.objs.size+1) R)
   {s with heap:=(s.heap.push jw).push (kO C s.heap.objs.size)}):wn (model prog w) A (.call (.ref C) ⟨vs,kw⟩) R s:=by obtain⟨j,g,d,t,i⟩:=s;exact PySem.W.make_core (PySem.W.makes_of X b) (PySem.W.looks_findIn X c) (λa=>PySem.W.bind_fn X a e) (.inl rfl) h
end
noncomputable def mD(f:Str)(v:V):List (Str×V)->List (Str×V)|[]=>[(f,v)]|(g,x)::r=>if g=f then(g,v)::r else(g,x)::mD f v r
theorem a1x f g v:∀fs:List (Str×V),(mD f v fs).lookup g=if g=f then some v else fs.lookup g
 |[]=>by
  show zU g [(f,v)]=_;by_cases h:g=f;·have a:=beq_iff_eq.mpr h;simp only[zU,a,if_pos h]
  ·have a:=beq_eq_false_iff_ne.mpr h;simp only[zU,a,if_neg h]|(k,x)::r=>by
  have c:=a1x f g v r;rw[show mD f v ((k,x)::r)=(if k=f then(k,v)::r else(k,x)::mD f v r)from rfl];by_cases b:k=f
  ·rw[if_pos b];by_cases h:g=k;·have a:=beq_iff_eq.mpr h;simp only[zU,a,if_pos (h.trans b)]
   ·have a:=beq_eq_false_iff_ne.mpr h;simp only[zU,a,if_neg (λe:g=f=>h (e.trans b.symm))]
  ·rw[if_neg b];by_cases h:g=k;·have a:=beq_iff_eq.mpr h;simp only[zU,a,if_neg (λe:g=f=>b (h.symm.trans e))]
   ·have a:=beq_eq_false_iff_ne.mpr h;simp only[zU,a];exact c
theorem a0K f v:∀fs:List (Str×V),f∈(mD f v fs).map (·.1)/\∀g,g∈fs.map (·.1)->g∈(mD f v fs).map (·.1)
 |[]=>⟨by simp[mD],λg h=>by simp at h⟩|(k,x)::r=>by
  obtain⟨c,b⟩:=a0K f v r;rw[show mD f v ((k,x)::r)=(if k=f then(k,v)::r else(k,x)::mD f v r)from rfl];by_cases a:k=f;·rw[if_pos a];subst a;exact⟨by simp,λg h=>by exact h⟩
  ·rw[if_neg a];refine⟨?_,λg h=>?_⟩;·rw[qI];exact qF _ c
   ·rw[qI]at h⊢;obtain e|e:=qM.mp h;·exact qM.mpr (.inl e)
    ·exact qF _ (b g e)
theorem a1z f v:∀fs:List (Str×V),(mD f v fs).length<=fs.length+1
 |[]=>by simp[mD]|(k,x)::r=>by
  have b:=a1z f v r;rw[show mD f v ((k,x)::r)=(if k=f then(k,v)::r else(k,x)::mD f v r)from rfl];by_cases a:k=f;·rw[if_pos a,qZ,qZ];lia
  ·rw[if_neg a,qZ,qZ];lia
def tR.some_of{o:T0p}(r:tR (some v) o):∃u,o=some u/\RelV v u:=by cases o with|none=>exact(show False from r).elim|some u=>exact⟨u,rfl,r⟩
def tR.none_of{o:T0p}(r:tR none o):o=none:=by cases o with|none=>rfl|some u=>exact(show False from r).elim
def b2R(r:RelV v u):PySem.W.handedIn u=true:=by cases v with|non=>cases(show u=kC from r);rfl|bl b=>cases(show u=jv b from r);rfl|int i=>obtain⟨t,e⟩:=(show∃t,u=Value.int i t from r);cases e;rfl|str x=>obtain⟨t,e⟩:=(show∃t,u=wA x t from r);cases e;rfl|byt b=>obtain⟨t,e⟩:=(show∃t,u=Value.bytes b t from r);cases e;rfl|flt b=>obtain⟨t,e⟩:=(show∃t,u=Value.float b t from r);cases e;rfl|ref a=>cases(show u=qr a from r);rfl|ty n=>cases(show u=zH n from r);rfl
section
variable{h:Heap}{fs fs':List (Str×V)}
def pU(b:HOk P w H h)(e:H a=some (.ins C dx fs)):∃mA,ObjM h a dx C mA/\(∀f,tR (fs.lookup f) (mA f))/\PySem.Within mA (fs.map (·.1))/\fs.length<=1000/\H dx=some (.own a):=by obtain⟨d,z,ne,ob,mA,n,r,q⟩:=(show cU P w H h a (.ins C dx fs)from b a _ e);exact⟨mA,⟨ob,n,ne⟩,r,q,z,d⟩
end
structure Cls(K:qB)(C:Addr):Prop where
 pg:zW K C Str.empty=true
 hd:vD K C=true
 po:wG K C=true
 sa:jF K (.ref C) "__setattr__"=some (some (.builtin "object.__setattr__"))
theorem Cls.get{K:qB}(c:Cls K C) f:zW K C f=true:=c.pg
def oI(K:qB)(C:Addr)(f:Str):Prop:=jF K (.ref C) f=some none
def oI.taker{K:qB}{f:Str}(n:oI K C f):PySem.W.takerIn K C f=some none:=by unfold PySem.W.takerIn;rw[show jF K (.ref C) f=some none from n];rfl
structure Meth(K:qB)(C:Addr)(m:Str)(f:Addr):Prop where
 at_:jF K (.ref C) m=some (some (.ref f))fn:vV K (.ref f)=true
 kp:jY K (.ref f)=true
section
variable{fs:List (Str×V)}{f:Str}
def a9M{b:Bool}(I:Inv X pz U H s)(e:H a=some (.ins C dx fs))(c:Cls X.K C)(n:oI X.K C f)(l:fs.lookup f=some v)(h:∀u s',Inv X pz U H s'->RelV v u->Q u s'):wpAny (model X.prog X.w) A (getAttr (.ref a) f b) Q E s:=by obtain⟨g,j,r,_,_,_⟩:=pU I.hok e;obtain⟨u,i,d⟩:=tR.some_of (v:=v) (o:=g f) (by rw[<-l];exact r f);exact b8R I.kIn j (c.get f) c.hd n i (b2R d) (h u _ (I.tok _) d)
def a3l{g:Addr}{pl:Sem Bool}{Q:Value×List Value->Shared->Prop}(I:Inv X pz U H s)(e:H a=some (.ins C dx fs))(c:Cls X.K C)(k:Meth X.K C m g)(l:fs.lookup m=none)(h:Q (.ref g,[.ref a]) s):wpAny (model X.prog X.w) A (ut (.ref a) m pl) Q E s:=by obtain⟨f,d,r,_,_,_⟩:=pU I.hok e;have b:=tR.none_of (by rw[<-l];exact r m);exact b5V I.kIn d (c.get m) k.at_ k.fn b h
def a8T{Q:Unit->Shared->Prop}(I:Inv X pz U H s)(e:H a=some (.ins C dx fs))(c:Cls X.K C)(n:oI X.K C f)(K:fs.length<1000)(J:RelV y u)(h:∀s',Inv X pz U (upd H a (.ins C dx (mD f y fs))) s'->Q () s'):wpAny (model X.prog X.w) A (setAttr (.ref a) f u) Q E s:=by
 obtain⟨p,d,r,j,_,v⟩:=pU I.hok e;have t:(fs.map (·.1)).length<=j5:=by rw[qD,wu];exact Q2 ‹_› rfl
 refine b7w I.kIn d c.sa c.po n.taker c.hd j t λG i k=>h _ ?_;have D:∃o,G.get? dx=some o:=let⟨o,_,_,e',_⟩:=i.ns;⟨o,e'⟩;refine I.write (x:=a) (e:=dx) (by rw[e];exact kZ) (.inr v) (λb q F z=>(k.2 b F).trans z) D ?_;refine⟨by rwa[aE d.ne],?_,d.ne,i.obj,_,i.ns,λg=>?_,λg w=>?_⟩;·have:=a1z f y fs;lia
 ·rw[a1x];by_cases q:g=f;·rwa[if_pos q,if_pos q]
  ·rw[if_neg q,if_neg q];exact r g
 ·by_cases q:g=f;·rw[q];exact(a0K f y fs).1
  ·refine(a0K f y fs).2 g (j g λz=>w ?_);show(if g=f then some u else p g)=none;rwa[if_neg q]
theorem Inv.made(I:Inv X pz U H s):Inv X pz U (upd (upd H s.heap.objs.size (.own (s.heap.objs.size+1))) (s.heap.objs.size+1) (.ins C s.heap.objs.size []))
  {s with heap:=(s.heap.push jw).push (kO C s.heap.objs.size)}:=by
 have c:(s.heap.push jw).get? s.heap.objs.size=some jw:=qP s.heap rfl;have i:((s.heap.push jw).push (kO C s.heap.objs.size)).get? (s.heap.objs.size+1)=some (kO C s.heap.objs.size):=by have:=qP (s.heap.push jw) (o:=kO C s.heap.objs.size) rfl;rwa[jW]at this
 have g:(s.heap.push jw).Ns s.heap.objs.size (λ_=>none):=⟨jw,#[],_,c,rfl,(λe f=>absurd f (by simp)),λ_=>rfl⟩;have j:=I.laid (a:=s.heap.objs.size) (o:=.own (s.heap.objs.size+1)) (h':=s.heap.push jw) (t':=s.toks) (λb u q=>qC _ q) (qQ _) ⟨_,c⟩;refine j.laid (a:=s.heap.objs.size+1) (o:=.ins C s.heap.objs.size []) (t':=s.toks) (λb u q=>qC _ q) (Nat.le_of_eq (jW _ _)) ?_;have ne:s.heap.objs.size≠s.heap.objs.size+1:=qW (zF _);refine⟨by rw[aE ne,aJ],qx _,ne,i,λ_=>none,(Heap.Ns1.of_empty g).at λo q=>qC _ q,λ_=>kZ,λy d=>absurd rfl d⟩
def b9R{f:Str}(b:v1 e f env (eval e env)=eval e env)(h:wpAny (model prog w) A (eval e env) (λo a=>wpAny (model prog w) A (getAttr o f true) Q E a) E s):wpAny (model prog w) A (eval (.Attribute e f pos) env) Q E s:=Attribute_any_ h (by rw[arm_eval_Attribute,b])
end
def c5e(K:qB)(ta:TE)(f:Str):TE:=λU H Q=>ta U H λx H1=>∃a C dx fs v,x=.ref a/\H1 a=some (.ins C dx fs)/\Cls K C/\oI K C f/\fs.lookup f=some v/\Q v H1
def c5o(K:qB)(ta tv:TE)(f:Str):TS:=λD U H=>tv U H λy H1=>ta U H1 λx H2=>∃a C dx fs,x=.ref a/\H2 a=some (.ins C dx fs)/\Cls K C/\oI K C f/\fs.length<1000/\D.nx U (upd H2 a (.ins C dx (mD f y fs)))
section
variable{o:Expr}{f:Str}{tv:TE}
abbrev U8(X:Cx)(e:Expr)(m:Str):Prop:=v1 e m X.env (eval e X.env)=eval e X.env
def pO(he:PE X e ta)(hb:U8 X e f):PE X (.Attribute e f pos) (c5e X.K ta f):=by intro pz s U H Q I h;refine b9R hb (thn (he pz s U H _ I h) ?_);rintro u s1⟨x,H1,I1,rx,a,C,dx,fs,v,ex,ea,c,n,l,q⟩;subst ex;obtain rfl:u=qr a:=rx;exact a9M I1 ea c n l λu' s2 I2 ru=>⟨v,H1,I2,ru,q⟩
def a5M(ha:PE X o ta)(hv:PE X value tv)(hs:wb value (some (.Attribute o f pos')) pos.line X.env=pure false):PS X (.Assign [.Attribute o f pos'] value pos) (c5o X.K ta tv f):=by intro pz s U H D I h;refine plainObj_wpAny_Assign_Attribute (thn (hv pz s U H _ I h) ?_) hs;rintro u s1⟨y,H1,I1,ry,q⟩;refine thn (ha pz s1 U H1 _ I1 q) ?_;rintro ov s2⟨x,H2,I2,rx,a,C,dx,fs,ex,ea,c,n,l,q2⟩;subst ex;obtain rfl:ov=qr a:=rx;exact a8T I2 ea c n l ry λs3 I3=>⟨U,_,I3,q2⟩
end
section
variable{c:Value}{b:Bool}
inductive TyOf(K:qB)(H:Hp):V->Value->Prop where|non:TyOf K H .non (.type "NoneType")|bl(x:Bool):TyOf K H (.bl x) (.type "bool")|int(i:Int):TyOf K H (.int i) (.type "int")|str(x:Str):TyOf K H (.str x) (.type "str")|flt(x:UInt64):TyOf K H (.flt x) (.type "float")|lst{a:Addr}{Y:List V}(e:H a=some (.lst Y)):TyOf K H (.ref a) (.type "list")|frz{a:Addr}{o:Obj}{Y:List V}(e:H a=some (.frz o (.lst Y))):TyOf K H (.ref a) (.type "list")|tup{a:Addr}{Y:List V}(e:H a=some (.tup Y)):TyOf K H (.ref a) (.type "tuple")|dK{a:Addr}{kvs:List (Key×V)}(e:H a=some (.dK kvs)):TyOf K H (.ref a) (.type "dict")|dT{a:Addr}{kvs:List (List Key×V)}(e:H a=some (.dT kvs)):TyOf K H (.ref a) (.type "dict")|ins{a C dx:Addr}{fs:List (Str×V)}(e:H a=some (.ins C dx fs))(cl:Cls K C)(ha:jF K (.ref C) "__class__"=some (some (.builtin "object.__class__")))(hn:PySem.W.specialIn K (.builtin "object.__class__") "__get__"=some (some (.builtin "getset_descriptor.__get__")))(htk:PySem.W.takesIn K (.builtin "object.__class__")=some true)(hm:PySem.W.mroIn K C (.type "object")=some true):TyOf K H (.ref a) (.ref C)
def uF(I:Inv X pz U H s)(d:RelV x u)(ty:TyOf X.K H x t)(e:zV X.K t c=some b)(h:∀tk,Q (.bool b) {s with toks:=tk}):wpAny (model X.prog X.w) A (call (.builtin "isinstance") [u,c]) Q E s:=by cases ty with|non=>cases(show u=kC from d);exact jX PySem.W.kitx_none I.kIn kZ e (λz=>nomatch z) h|bl y=>cases(show u=jv y from d);exact jX PySem.W.kitx_bool I.kIn kZ e (λz=>nomatch z) h|int i=>obtain⟨t,q⟩:=(show∃t,u=Value.int i t from d);cases q;exact jX PySem.W.kitx_int I.kIn kZ e (λz=>nomatch z) h|str y=>obtain⟨t,q⟩:=(show∃t,u=wA y t from d);cases q;exact jX PySem.W.kitx_str I.kIn kZ e (λz=>nomatch z) h|flt y=>obtain⟨t,q⟩:=(show∃t,u=Value.float y t from d);cases q;exact jX PySem.W.kitx_float I.kIn kZ e (λz=>nomatch z) h|@lst a Y f=>cases(show u=qr a from d);obtain⟨_,_,n,_,B⟩:=(show cU X.prog X.w H s.heap a (.lst Y)from I.hok a _ f);exact jX wI I.kIn ⟨_,B,rfl⟩ e (λz=>nomatch z) h|@frz a ob Y f=>cases(show u=qr a from d);obtain⟨_,_,_,n,_,B⟩:=(show cU X.prog X.w H s.heap a (.frz ob (.lst Y))from I.hok a _ f);exact jX wI I.kIn ⟨_,B,rfl⟩ e (λz=>nomatch z) h|@tup a Y f=>cases(show u=qr a from d);obtain⟨_,_,_,p⟩:=(show cU X.prog X.w H s.heap a (.tup Y)from I.hok a _ f);obtain⟨o,B,j,_⟩:=p;exact jX PySem.W.kitx_tuple I.kIn ⟨o,B,j⟩ e (λz=>nomatch z) h|@dK a g f=>cases(show u=qr a from d);obtain⟨_,_,K,_,p⟩:=(show cU X.prog X.w H s.heap a (.dK g)from I.hok a _ f);obtain⟨o,D,F,B,j,_⟩:=p;exact jX wJ I.kIn ⟨o,B,j.1⟩ e (λz=>nomatch z) h|@dT a g f=>cases(show u=qr a from d);obtain⟨_,_,Y,_,o,D,F,B,j,_⟩:=(show cU X.prog X.w H s.heap a (.dT g)from I.hok a _ f);exact jX wJ I.kIn ⟨o,B,j.1⟩ e (λz=>nomatch z) h|@ins a C N fs f cl w r k v=>cases(show u=qr a from d);obtain⟨M,G,_⟩:=pU I.hok f;obtain⟨L,J,_⟩:=G.look;exact jX (PySem.W.kitx_own (cl.get _) cl.hd w r k v) I.kIn J e (λz=>nomatch z) h
end
structure Room(k:Nat)(A:Around):Prop where
 hd:A.handled=none
 dp:A.depth+3*k+5<uy
 un:A.units+16*k+200<cLine
theorem Room.mono(r:Room k A)(h:j<=k):Room j A:=⟨r.hd,by have:=r.dp;lia,by have:=r.un;lia⟩
theorem Room.deeper(r:Room (k+1) A) a:Room k (A.deeper a):=⟨r.hd,by have:=r.dp;show A.depth+1+3*k+5<_;lia,by have:=r.un;show A.units+3+16*k+200<_;lia⟩
def a9z:(A.under (.builtin "type.__call__" ⟨.ref C::us,kw⟩)).depth=A.depth+1:=by first|rfl|simp[guardIds]
def a9y:(A.under (.builtin "type.__call__" ⟨.ref C::us,kw⟩)).units=A.units+1:=by first|rfl|simp[Code.isFrame]
theorem Room.make(r:Room (k+1) A) C(us:T0m)(a:T0g):Room k (A.under (.builtin "type.__call__" ⟨.ref C::us,a⟩)):=⟨r.hd,by have:=r.dp;rw[a9z];lia,by have:=r.un;rw[a9y];lia⟩
theorem Room.depth(r:Room k A):A.depth<uy:=by have:=r.dp;lia
theorem Room.units(r:Room k A):A.units+64<cLine:=by have:=r.un;lia
noncomputable def b7n:TA:=λ_ H Q=>Q [] H
noncomputable def b3Q(ta:TE)(tr:TA):TA:=λU H Q=>ta U H λx H1=>tr U H1 λY H2=>Q (x::Y) H2
variable{t:TA}
def fE:PA X [] b7n:=λ_ _ _ _ H Q I h=>zJ ⟨[],H,I,.nil,h⟩
abbrev U5(X:Cx)(e:Expr)(l:List Expr):Prop:=j4 (e::l) X.env=(false,eval e X.env)::j4 l X.env
def dC(k:PE X e te)(j:PA X es t)(hs:U5 X e es:=by rfl):PA X (e::es) (b3Q te t):=by intro a b s U H Q I h;rw[hs];exact zA (thn (k b s U H _ I h) (by rintro u c⟨x,r,p,f,i⟩;exact thn (j a b c U r _ p i) λv w⟨Y,q,o,d,g⟩=>⟨x::Y,q,o,.cons f d,g⟩))
def c4V(t:TA):TE:=λU H Q=>t U H λY H1=>Y.length<=j5/\∀p,H1 p=none->Q (.ref p) (upd H1 p (.tup Y))
def c5a(t:TA):TE:=λU H Q=>t U H λY H1=>Y.length<=j5/\∀p,H1 p=none->Q (.ref p) (upd H1 p (.lst Y))
def c1o(h:PA X es t):PE X (.Tuple es x1 pos) (c4V t):=by intro f s U H Q I g;refine wpAny_Tuple_spliced (thn (h pos f s U H _ I g) ?_);rintro d a⟨Y,j,c,r,z,q⟩;refine⟨by rwa[<-r.length],?_⟩;have i:=c.hok.fresh (qQ _);exact⟨.ref a.heap.objs.size,upd j a.heap.objs.size (.tup Y),c.laid (t':=a.toks) (λb u e=>qC _ e) (qQ _) ⟨z,d,r,⟨_,qP _ rfl,rfl,_,rfl⟩⟩,rfl,q _ i⟩
def a2L(h:PA X es t):PE X (.List es pos) (c5a t):=by intro f s U H Q I g;refine wpAny_List_spliced (thn (h pos f s U H _ I g) ?_);rintro d a⟨Y,j,c,r,z,q⟩;refine⟨by rwa[<-r.length],?_⟩;have i:=c.hok.fresh (qQ _);exact⟨.ref a.heap.objs.size,upd j a.heap.objs.size (.lst Y),c.laid (t':=a.toks) (λb u e=>qC _ e) (qQ _) ⟨z,d,0,r,qP _ rfl⟩,rfl,q _ i⟩
abbrev Sp:=List V->Hp->VK->XK->Prop
abbrev CXT:=List Env->Hp->Shared->XK->Value->Shared->Prop
structure Env0(P:Program)(w:World)(K:qB)(mg:T0d)(base:Heap)(A:Around)(outer:List Env)(s:Shared)(H:Hp):Prop where
 frames:A.frames=some outer
 mod:Mod K mg base
 bs:∀b o,base.get? b=some o->s.heap.get? b=some o/\H b=none
 bsz:base.objs.size<=s.heap.objs.size
 funs:s.heap.FunFrames base outer
 frf:∀b∈frs outer,H b=none
 hok:HOk P w H s.heap
 bare:um s.gens
def CE(outer:List Env)(P:Program)(w:World)(H:Hp)(s:Shared)(Q:VK)(u:Value)(s':Shared):Prop:=∃v H',s'.os=s.os/\um s'.gens/\Un (frs outer) [] H H' s.heap s'.heap/\HOk P w H' s'.heap/\RelV v u/\Q v H'
def CR(CX:CXT)(outer:List Env)(P:Program)(w:World)(H:Hp)(s:Shared)(Q:VK)(E:XK)(r:Result)(s':Shared):Prop:=match r with|.ok (.ret u)=>CE outer P w H s Q u s'|.ok _=>False|.error e=>CX outer H s E e s'
structure FnOk(P:Program)(w:World)(K:qB)(mg:T0d)(base:Heap)(CX:CXT)(k:Nat)(f:Addr)(fd:wf)(ps:T0q)(sp:Sp):Prop where
 len:∀vs H Q E,sp vs H Q E->vs.length=ps.length
 run:∀ A outer s H args(us:T0m) vs Q E,Room k A->Env0 P w K mg base A outer s H->BindsTo s fd args (ps.zip us)->bH vs us->sp vs H Q E->wn (model P w) A (.call (.ref f) args) (CR CX outer P w H s Q E) s
theorem Env0.make{K:qB}{outer:List Env}(e:Env0 P w K mg base A outer s H) C(us:T0m)(a:T0g):Env0 P w K mg base (A.under (.builtin "type.__call__" ⟨.ref C::us,a⟩)) outer s H:=⟨by first|exact e.frames|(simpa[pushEnvs]using e.frames),e.mod,e.bs,e.bsz,e.funs,e.frf,e.hok,e.bare⟩
theorem Inv.env0(I:Inv X pz U H s):Env0 X.prog X.w X.K X.mg X.base X.A X.stack s H:=⟨I.ok.frames,I.ok.mod,I.bs,qg I.ok.bsz I.sz,I.stack,I.stkFree,I.hok,I.bare⟩
def Inv.after{Q:VK}(I:Inv X pz U H s)(h:CE X.stack X.prog X.w H s Q u s'):EP X pz U Q u s':=by obtain⟨v,j,f,a,un,e,r,q⟩:=h;obtain⟨i,g,d,t,c⟩:=s';obtain rfl:c=s.os:=f;exact⟨v,j,I.call (h':=i) (g':=g) (d':=d) (t':=t) (ch:=[]) un e a (λb z=>absurd z (by simp)),r,q⟩
noncomputable def c3z(sp:Sp)(dvs:List V)(E:XK)(t:TA):TE:=λU H Q=>t U H λvs H1=>sp (vs++dvs) H1 Q E
def b3P(C:Addr)(sp:Sp)(dvs:List V)(E:XK)(t:TA):TE:=λU H Q=>t U H λvs H1=>∀x dx,H1 x=none->H1 dx=none->dx≠x->sp (.ref x::(vs++dvs)) (upd (upd H1 dx (.own x)) x (.ins C dx [])) (λv H2=>v=.non/\Q (.ref x) H2) E
def Binds(K:qB)(fd:wf)(ps:T0q)(O:T0m):Prop:=∀ s us,K.In s.heap->(us++O).length=ps.length->BindsTo s fd ⟨us,[]⟩ (ps.zip (us++O))
theorem Binds.all{K:qB}(h:∀us:List Value,us.length=ps.length->uk fd ⟨us,[]⟩=pure (ps.zip us)):Binds K fd ps []:=λs us _ a=>by rw[jd]at a⊢;exact .of_eq (h us a)
def a3D(CX:CXT)(X:Cx)(E:XK):Prop:=∀ pz(U:St) H s e s',Inv X pz U H s->CX X.stack H s E e s'->X.xe e s'
variable{CX:CXT}{sp:Sp}{vs:List V}
section
variable{dvs:List V}{O:T0m}{E:XK}{x m:Str}{o:Expr}
def c1c{Q:VK}(F:FnOk X.prog X.w X.K X.mg X.base CX k f fd ps sp)(d:Room k X.A)(j:Binds X.K fd ps O)(i:bH dvs O)(hx:a3D CX X E)(I:Inv X pz U H s)(r:bH vs us)(h:sp (vs++dvs) H Q E):wpAny (model X.prog X.w) X.A (call (.ref f) us) (EP X pz U Q) X.xe s:=by
 have b:=r.append i;have g:(us++O).length=ps.length:=by rw[<-b.length];exact F.len _ _ _ _ h
 refine yg (wc (F.run X.A X.stack s H ⟨us,[]⟩ (us++O) (vs++dvs) Q E d I.env0 (j s us I.kIn g) b h) λr c a=>?_);cases r with|error e=>exact hx pz U H s e c I a|ok o=>cases o with|ret u=>exact I.after a|next=>exact qz a|brk=>exact qz a|cont=>exact qz a
abbrev U6(X:Cx)(p:Pos)(l:List Expr):Prop:=(j8 p (j4 l X.env)).any (·.1)=false
def b8b(F:FnOk X.prog X.w X.K X.mg X.base CX k f fd ps sp)(g:Room k X.A)(o:Gl X x)(i:X.mg x=some (.ref f))(j:jY X.K (.ref f)=true)(w:Binds X.K fd ps O)(v:bH dvs O)(hx:a3D CX X E)(y:PA X (e::es) t)(b:U2 x:=by decide)(u:U5 X e es:=by rfl)(a:U6 X pos es:=by rfl):PE X (.Call (.Name x p) (e::es) [] pos) (c3z sp dvs E t):=by intro d s U H Q I h;refine j9 (iN I o i ?_ b);exact kI (h₀:=X.base) I.ok.mod.kin j (thn (y pos d s U H _ I h) (by rintro A C⟨z,D,c,r,q⟩;exact⟨c.kIn,c1c F g w v hx c r q⟩)) u a
structure Mk(K:qB)(C f:Addr):Prop where
 makes:PySem.W.makesIn K C=true
 init:jF K (.ref C) "__init__"=some (some (.ref f))fn:vV K (.ref f)=true
 kp:jY K (.ref C)=true
def b4h{Q:VK}(M:Mk X.K C f)(F:FnOk X.prog X.w X.K X.mg X.base CX k f fd ps sp)(o:Room (k+1) X.A)(t:Binds X.K fd ps O)(q:bH dvs O)(hx:a3D CX X E)(I:Inv X pz U H s)(r:bH vs us)(h:∀x dx,H x=none->H dx=none->dx≠x->sp (.ref x::(vs++dvs)) (upd (upd H dx (.own x)) x (.ins C dx [])) (λv H2=>v=.non/\Q (.ref x) H2) E):wpAny (model X.prog X.w) X.A (call (.ref C) us) (EP X pz U Q) X.xe s:=by
 have d:=h (s.heap.objs.size+1) s.heap.objs.size (I.hok.fresh (kj _)) (I.hok.fresh (qQ _)) (qW (zF _));have b:=Inv.made (C:=C) I;have c:bH (V.ref (s.heap.objs.size+1)::(vs++dvs)) (qr (s.heap.objs.size+1)::(us++O)):=.cons rfl (r.append q);have p:(qr (s.heap.objs.size+1)::us++O).length=ps.length:=by have e:=c.length;rw[F.len _ _ _ _ d]at e;exact e.symm
 refine yg (b5q (f:=f) I.kIn M.makes M.init (beq_iff_eq.mp M.fn) (wc (F.run _ X.stack _ _ ⟨qr (s.heap.objs.size+1)::us,[]⟩ (qr (s.heap.objs.size+1)::(us++O)) _ _ E (o.make C us [])
  (b.env0.make C us []) (t _ (qr (s.heap.objs.size+1)::us) b.kIn p) c d) λr g a=>?_));cases r with|error e=>exact hx pz U _ _ e g b a|ok w=>cases w with|ret u=>obtain⟨v,A,z,i,y,j⟩:=b.after a;subst y;exact⟨i,⟨V.ref (s.heap.objs.size+1),A,z,rfl,j⟩⟩|next=>exact qz a|brk=>exact qz a|cont=>exact qz a
def b4H(M:Mk X.K C f)(F:FnOk X.prog X.w X.K X.mg X.base CX k f fd ps sp)(b:Room (k+1) X.A)(d:Gl X x)(c:X.mg x=some (.ref C))(g:Binds X.K fd ps O)(e:bH dvs O)(hx:a3D CX X E)(a:U2 x:=by decide):PE X (.Call (.Name x p) [] [] pos) (b3P C sp dvs E b7n):=by intro i s U H Q I h;exact j9 (iN I d c (PySem.W.callWith_K0 I.kIn M.kp (b4h (us:=[]) M F b g e hx I .nil h)) a)
end
section
variable{E:XK}{x m:Str}{kpos:Pos}{o:Expr}{kws:List Keyword}{tk:TA}{nm:Option Str}
variable{g:List Value->List Value->List Value}{gV:List V->List V->List V}
end
structure FnScope(N P:T0q)(sc:Scope):Prop where
 kind:sc.kind=.function
 co:sc.isCoroutine=false
 gen:sc.isGenerator=false
 nd:N.Nodup
 pre:N.take P.length=P
 par:∀x∈P,sc.names.lookup x=some .local\/sc.names.lookup x=some .cell
 nofree:∀y∈sc.names,y.2≠.free
theorem a5l{a:Str->Option wx}{x:Str}:∀{binds:T0g}{m:T0d},(∀v,(x,v)∉binds)->bindL a binds m x=m x
 |[],_,_=>rfl|(n,v)::r,m,h=>by
  unfold bindL;rw[a5l λw b=>h w (qF _ b)];split
  ·have:x≠n:=by rintro rfl;exact h v qa
   simp[this]
  ·rfl
theorem a5n{a:Str->Option wx}{x:Str}:∀{binds:T0g}{m:T0d},(∀v,(x,v)∉binds)->bindC a binds m x=m x
 |[],_,_=>rfl|(n,v)::r,m,h=>by
  unfold bindC;rw[a5n λw b=>h w (qF _ b)];split;·rfl
  ·have:x≠n:=by rintro rfl;exact h v qa
   simp[this]
theorem a5m{a:Str->Option wx}{x:Str}{v:Value}:∀{P:T0q}{vs:T0m}{i:Nat}{m:T0d},P.Nodup->P[i]?=some x->vs[i]?=some v->a x=some .local->bindL a (P.zip vs) m x=some v|[],_,_,_,_,h,_,_=>by simp at h|_::_,[],_,_,_,_,h,_=>by simp at h|p::P,w::vs,0,m,nd,B,h2,hk=>by simp at B h2;subst B;subst h2;show bindL a ((p,w)::P.zip vs) m p=_;unfold bindL;rw[a5l λv b=>(jy.mp nd).1 (zg b).1,if_pos hk];simp|p::P,w::vs,i+1,m,nd,B,h2,hk=>by unfold bindL;exact a5m (i:=i) (jy.mp nd).2 (by simpa using B) (by simpa using h2) hk
theorem a5o{a:Str->Option wx}{x:Str}{v:Value}:∀{P:T0q}{vs:T0m}{i:Nat}{m:T0d},P.Nodup->P[i]?=some x->vs[i]?=some v->a x≠some .local->bindC a (P.zip vs) m x=some v|[],_,_,_,_,h,_,_=>by simp at h|_::_,[],_,_,_,_,h,_=>by simp at h|p::P,w::vs,0,m,nd,B,h2,hk=>by simp at B h2;subst B;subst h2;show bindC a ((p,w)::P.zip vs) m p=_;unfold bindC;rw[a5n λv b=>(jy.mp nd).1 (zg b).1,if_neg hk];simp|p::P,w::vs,i+1,m,nd,B,h2,hk=>by unfold bindC;exact a5o (i:=i) (jy.mp nd).2 (by simpa using B) (by simpa using h2) hk
noncomputable def start(N:T0q)(vs:List V):St:=vs.map some++zE (N.length-vs.length) none
noncomputable def a1a(CX:CXT)(P:Program)(w:World)(K:qB)(mg:T0d)(base:Heap)(N:T0q)(qual:Str)(scope:Scope)(f:Addr)(cd:Value)(A:Around)(outer:List Env)(s:Shared)(H:Hp)(E:XK):Cx where prog:=P;w:=w;K:=K;mg:=mg;base:=base;A:=A.deeper (w4 qual scope s.heap.objs.size f cd);N:=N;s₀:=s;H₀:=H;env:=w4 qual scope s.heap.objs.size f cd;outer:=outer;stack:=w4 qual scope s.heap.objs.size f cd::outer;ex:=[];calm:=true;fn:=λ_=>true;pn:=[];xe:=λe s'=>wpAny (model P w) (A.deeper (w4 qual scope s.heap.objs.size f cd)) (leaving (w4 qual scope s.heap.objs.size f cd) e) (λ_ s''=>CX outer H s E e s'') (λe' s''=>CX outer H s E e' s'') s'
def yU{sc:Scope}{n:Nat}{x:Str}(h:sc.names.lookup x=some .cell):∃c,(k8 n sc.names []).lookup x=some c:=by have q:=zP sc.names n [] (.inl h);exact Option.isSome_iff_exists.mp q
def a0Q{K:qB}{F:Value}{outer:List Env}{G:Shared}{E:XK}(S:FnScope N ps scope)(Q:A.handled=none)(g:Env0 P w K mg base A outer s H)(X:vs.length=ps.length)(r:bH vs us)(x:InCallC s s.heap.objs.size (bindL (w4 qual scope s.heap.objs.size f F).kindOf (ps.zip us) λ_=>none) (k8 (s.heap.objs.size+1) scope.names []) (bindC (w4 qual scope s.heap.objs.size f F).kindOf (ps.zip us) λ_=>none) G):Inv (a1a CX P w K mg base N qual scope f F A outer s H E) [] (start N vs) H G:=by
 have M:ps.length<=N.length:=by have:=congrArg vL S.pre;rw[jj]at this;lia
 obtain⟨B,T,rfl,J⟩:=x.done;have j:∀b:Addr,b∉(a1a CX P w K mg base N qual scope f F A outer s H E).ex:=λb z=>absurd (show b∈([]:T0o)from z) (by simp);refine⟨⟨g.mod,S.kind,rfl,rfl,qQ _,λy z c B d=>?_,λy o=>?_,λy c _ h=>?_,λ_=>Q,Around.frames_deeper g.frames,.inr ⟨rfl,rfl⟩,λb z=>absurd z (j b),g.bs,g.bsz,λb _ _=>j b,λb z=>absurd z (j b),g.funs,g.frf⟩,rfl,g.bare,Un.kept J,⟨_,x.toInCall.ns,λi y v B d h3=>?_⟩,λy c h=>⟨_,x.cell y c h⟩,g.hok.fresh (qQ _),λy c h=>?_,λp C=>absurd (show p∈([]:T0b)from C) (by simp),g.hok.kept J,?_⟩;·exact name_of_addr x.apart (qo B) (qo d)
 ·have o:=o;obtain o|o:=o;·exact yU o
  ·exact absurd rfl (S.nofree _ (qo o))
 ·exact jP (x.above y c (qo h))
 ·have D:i<vs.length:=by
   unfold start at d;by_cases D:i<vs.length;·exact D
   ·rw[jB (by simpa using D)]at d;rw[jt]at d;split at d<;>cases d
  have R:vs[i]?=some v:=by unfold start at d;rw[qh (by simpa using D),qO]at d;cases e:vs[i]? with|none=>rw[e]at d;cases d|some a=>rw[e]at d;cases d;rfl
  obtain⟨u,I,L⟩:=r.get R;have C:ps[i]?=some y:=by rwa[<-S.pre,kQ (by lia)]
  have t:ps.Nodup:=by rw[<-S.pre];exact S.nd.sublist (vG _ _)
  refine⟨u,L,?_⟩;rcases S.par y (kA C)with k|k;·exact .inl ⟨k,a5m t C I k⟩
  ·obtain⟨c,e⟩:=yU (n:=s.heap.objs.size+1) k;refine .inr ⟨.inl k,c,e,?_⟩;have q:=x.cell y c e;rwa[a5o t C I (by show scope.names.lookup y≠_;rw[k];decide)]at q
 ·exact g.hok.fresh (jP (x.above y c (qo h)))
 ·unfold start;show _=N.length;rw[qe,qD,List.length_replicate];lia
def a7U{K:qB}{T kV:Value}{F:Array (Option Value)}(lk:K.lookup f=some ⟨oc,od,.func (jg name qual params body scope T kV doc pm an cdv ct),F⟩)(M:zD K cdv qual=true)(S:FnScope N ps scope)(len:∀vs H Q E,sp vs H Q E->vs.length=ps.length)(g:∀(A:Around)(a:List Env) s H(vs:List V) Q E,Room k (A.deeper (w4 qual scope s.heap.objs.size f cdv))->sp vs H Q E->∃t,PSs (a1a CX P w K mg base N qual scope f cdv A a s H E) body t/\t {nx:=λ_ H'=>Q .non H',rt:=Q} (start N vs) H):FnOk P w K mg base CX (k+1) f (jg name qual params body scope T kV doc pm an cdv ct) ps sp:=by
 refine⟨len,λA a s H X us vs Q E L z hb r j=>?_⟩;have hl:=len _ _ _ _ j;have KX:=z.mod.kin.keeps λb o e=>(z.bs b o e).1;have G:=z.mod.nolimit.keeps λb o e=>(z.bs b o e).1;have d:∀y∈ps.zip us,scope.names.lookup y.1=some .local\/(scope.names.lookup y.1=some .cell/\((k8 (s.heap.objs.size+1) scope.names []).lookup y.1).isSome=true):=by
  rintro ⟨n,v⟩hy;obtain q|q:=S.par n (zg hy).1;·exact .inl q
  ·exact .inr ⟨q,zP _ _ _ (.inl q)⟩
 refine y9 L.depth (KX _ _ lk) rfl S.co S.gen rfl (wC KX M) (hb _ _ _ _ ?_);refine yi S.kind d λenv he R x=>?_;subst he;refine⟨G.keeps x.toInCall.keep,codeAny_func ?_⟩;obtain⟨t,ht,hq⟩:=g A a s H vs Q E (L.deeper _) j;have I:Inv (a1a CX P w K mg base N qual scope f cdv A a s H E) [] (start N vs) H R:=a0Q S L.hd z hl r x;refine v3 (ht [] R (start N vs) H _ I hq) (λfl C i=>?_) λe C i=>i;have p:∀{c:St}{H':Hp}{v:V}{u:Value},Inv (a1a CX P w K mg base N qual scope f cdv A a s H E) [] c H' C->RelV v u->Q v H'->CE a P w H s Q u C:=λ{c H' v u}J D q=>⟨v,H',J.os,J.bare,J.base,J.hok,D,q⟩;cases fl with|ret u=>obtain⟨v,c,H',J,D,q⟩:=i;exact p J D q|next=>obtain⟨c,H',J,q⟩:=i;exact p (v:=V.non) (u:=kC) J rfl q|brk=>obtain⟨_,_,_,q⟩:=i;exact qz q|cont=>obtain⟨_,_,_,q⟩:=i;exact qz q
section
variable{x:Str}{id:String}{r:List V->Hp->VK->Prop}
noncomputable def tCB(r:List V->Hp->VK->Prop)(t:TA):TE:=λU H Q=>t U H λvs H1=>r vs H1 Q
def oQ(w:lK X (.builtin id) r)(u:Gl X x)(q:X.mg x=none)(k:wl x=some (.builtin id))(y:PA X (e::es) t)(o:x≠"__name__":=by decide)(b:U2 x:=by decide)(v:U5 X e es:=by rfl)(a:U6 X pos es:=by rfl):PE X (.Call (.Name x p) (e::es) [] pos) (tCB r t):=by intro c s U H Q I h;exact j9 (sZ I u q k (PyProof.Rows.callWith_builtin1 (thn (y pos c s U H _ I h) (by rintro f g⟨d,A,z,i,j⟩;exact w c g U A d f Q z i j)) v a) o b)
def a4E(w:lK X (.type T) r)(u:Gl X x)(q:X.mg x=none)(k:wl x=some (.type T))(y:PA X (e::es) t)(o:x≠"__name__":=by decide)(b:U2 x:=by decide)(v:U5 X e es:=by rfl)(a:U6 X pos es:=by rfl):PE X (.Call (.Name x p) (e::es) [] pos) (tCB r t):=by intro c s U H Q I h;exact j9 (sZ I u q k (PyProof.Rows.callWith_type1 (thn (y pos c s U H _ I h) λf g⟨d,A,z,i,j⟩=>w c g U A d f Q z i j) v a) o b)
end
end L2
variable{H H' H1 H2 G G' H0 Gz G1:L2.Hp}{o':L2.HO}{X:L2.Cx}{U σ':L2.St}{v y:L2.V}{ta tb te tv td:L2.TE}{Y ys:List L2.V}{tc:L2.TT}{wi:L2.TI}{CX:L2.CXT}{sp:L2.Sp}{J:L2.It}{kvs:List (L2.Key×L2.V)}{D:L2.Ends}
namespace HT
open PySem PyProof.Rows
section
open PySem.SeqAt
open PySem.AutoSeq1(wpAny_loadPart')
open PySem.MeetsSeq PySem.MeetsSeq2 PySem.MeetsSeq3
end
variable{t sl:Addr}{vu:Value}{lo hi:Option Int}
def cat_tup{b:Addr}{a:T0m}(C:IsTup s.heap t vs.toArray)(D:IsTup s.heap b a.toArray)(r:vs≠[])(B:a=[]->Q (.ref t) s)(F:a≠[]->Q (.ref s.heap.objs.size) {s with heap:=s.heap.push {cls:=.type "tuple",data:=.seq (vs++a).toArray}})(hsz:vs.length+a.length<=j5):wpAny (model prog w) A (wz .Add (.ref t) (.ref b)) Q E s:=by
 obtain⟨⟨cls,y,data,p⟩,k,v,n,u⟩:=id C;obtain⟨⟨z,i,o,d⟩,c,g,q,f⟩:=id D;simp only at v u g f;subst v u g f;have e:vs.toArray++a.toArray=(vs++a).toArray:=by simp
 by_cases j:a=[]
 ·exact QI ⟨_,k,rfl⟩ ⟨_,c,rfl⟩ QB seq_tuple_add PySem.F.slot_tuple_add PySem.F.entry_tuple_add (PySem.F.args_tuple_add_2 _ _)
   (tuple_addW1 t b vs.toArray a.toArray n q y i p d (by simpa using r) (by simp[j])) ⟨k,c,B j⟩
 ·refine QI ⟨_,k,rfl⟩ ⟨_,c,rfl⟩ QB seq_tuple_add PySem.F.slot_tuple_add PySem.F.entry_tuple_add (PySem.F.args_tuple_add_2 _ _)
   (tuple_addW2 t b vs.toArray a.toArray n q y i p d (by simpa using r) (by simpa using j) (by rwa[qS,qS])) ⟨k,c,?_⟩;rw[e];exact F j
noncomputable def sIx(n d:Nat):Option Int->Nat|none=>d|some v=>if v<0 then(v+(n:Int)).toNat else min v.toNat n
def c1b n d(b:d<=n) o:sIx n d o<=n:=by cases o with|none=>exact b|some v=>
  show(if v<0 then(v+(n:Int)).toNat else min v.toNat n)<=n;by_cases a:v<0;·rw[if_pos a];lia
  ·rw[if_neg a];exact Nat.min_le_right _ _
def b1E v(n d:Nat):(if v<0 then max (v+(n:Int)) 0 else min v (n:Int))=((sIx n d (some v):Nat):Int):=by
 show(if v<0 then max (v+(n:Int)) 0 else min v (n:Int))=(((if v<0 then(v+(n:Int)).toNat else min v.toNat n):Nat):Int);by_cases a:v<0;·simp only[if_pos a];lia
 ·simp only[if_neg a];lia
def b0x a b(n:Nat):vU a b 1 (n:Int)=(((sIx n 0 a:Nat):Int),((sIx n n b:Nat):Int)):=by
 have B:¬((1:Int)<0):=by lia
 unfold vU;simp only[if_false];refine Prod.ext ?_ ?_;·cases a with|none=>rfl|some v=>exact b1E v n 0
 ·cases b with|none=>rfl|some v=>exact b1E v n n
def a9e(i j:Nat):zO (i:Int) (j:Int) 1=j-i:=by
 unfold zO;have B:(1:Int)>0:=by lia
 simp only[Int.ediv_one];split<;>lia
def a2q{v:Value}{o:Option Int}{Q:Option Int->Shared->Prop}(p:QQ v o)(h:Q o s):wpAny (model prog w) A (Builtin.Slice.slicePartIndex v) Q E s:=by cases p with|none=>exact slicePart_none h|int i t=>exact slicePart_int h
def a0q{Q:Int×Int×Nat->Shared->Prop}(hs:s.heap.IsSliceOf sl vl vu .none)(pl:QQ vl lo)(c:QQ vu hi)(h:Q (((sIx n 0 lo:Nat):Int),1,sIx n n hi-sIx n 0 lo) s):wpAny (model prog w) A (Builtin.Slice.sliceApplied (.ref sl) (pure (n:Int))) Q E s:=by obtain⟨e,a,d,b⟩:=id hs;refine j0 (j0 (yh a b (x:=vl) rfl (j0 (yh a b (x:=vu) rfl (j0 (yh a b (x:=.none) rfl (j3 ?_)))))));refine j0 (slicePart_none ?_);rw[if_neg (by decide)];refine j0 (a2q pl (j0 (a2q c (j0 (j3 ?_)))));show wpAny _ _ (match vU lo hi 1 (n:Int)with|(lo,hi)=>pure (lo,(1:Int),zO lo hi 1)) _ _ s;rw[b0x lo hi n];show wpAny _ _ (pure (((sIx n 0 lo:Nat):Int),(1:Int),zO ((sIx n 0 lo:Nat):Int) ((sIx n n hi:Nat):Int) 1)) _ _ s;rw[a9e];exact j3 h
def b4A(Y:Array Value)(i k:Nat):((ql k).filterMap λ(m:Nat)=>Y[((i:Int)+(m:Int)*1).toNat]?).toArray=((Y.toList.drop i).take k).toArray:=by
 have e:(λ(m:Nat)=>Y[((i:Int)+(m:Int)*1).toNat]?)=λm=>Y[i+m]?:=by
  funext m;have:((i:Int)+(m:Int)*1).toNat=i+m:=by lia
  rw[this]
 rw[e];have:=pick_run Y i k;rw[List.filterMap_map]at this;have a:((λx=>Y[x]?)∘λx=>i+x)=λm=>Y[i+m]?:=rfl;rw[a]at this;rw[this]
def getItem_tuple_cut(b:IsTup s.heap t items)(hs:s.heap.IsSliceOf sl vl vu .none)(pl:QQ vl lo)(g:QQ vu hi)(j:¬(sIx items.size 0 lo=0/\sIx items.size items.size hi=items.size))(h:Q (.ref s.heap.objs.size) {s with heap:=s.heap.push {cls:=.type "tuple",data:=.seq ((items.toList.drop (sIx items.size 0 lo)).take (sIx items.size items.size hi-sIx items.size 0 lo)).toArray}})(hsz:items.size<=j5):wpAny (model prog w) A (getItem (.ref t) (.ref sl)) Q E s:=by
 have a:sizeOk (.seq ((items.toList.drop (sIx items.size 0 lo)).take (sIx items.size items.size hi-sIx items.size 0 lo)).toArray):=by show((items.toList.drop (sIx items.size 0 lo)).take (sIx items.size items.size hi-sIx items.size 0 lo)).toArray.size<=j5;rw[qS,jj,zG,qJ];omega
 have r:sIx items.size items.size hi<=items.size:=c1b _ _ (qQ _) hi;obtain⟨i,c,e,k⟩:=id hs;have f:s.TypeIs (.ref sl) "slice":=⟨i,c,e⟩;unfold getItem;try with_reducible refine k7 ?_
 first|refine j0 (j3 ?_)|skip
 refine j0 (wpAny_sequenceKey b.typeIs (by decide) ?_);refine j0 (wp (name:=vN "__getitem__") b.typeIs zS
  (v8 zS b.typeIs entry_tuple_getitem ?_ (args_tuple_getitem _ _)));show wpAny _ _ (Builtin.Tuple.tupleItemsOf (.ref t)>>=_) _ _ s;refine j0 (tupleItemsOf_ b ?_);refine j0 (ya f ?_);rw[if_pos (by decide)];refine j0 (a0q hs pl g ?_);have d:¬((((sIx items.size 0 lo:Nat):Int)==0&&(1:Int)==1&&(sIx items.size items.size hi-sIx items.size 0 lo)==items.size)=true):=by intro q;rw[qE,qE]at q;have p:=eq_of_beq q.1.1;have o:=eq_of_beq q.2;exact j ⟨by lia,by lia⟩
 show wpAny _ _ (if(((sIx items.size 0 lo:Nat):Int)==0&&(1:Int)==1&&(sIx items.size items.size hi-sIx items.size 0 lo)==items.size)=true then _ else _) _ _ s;rw[if_neg d,b4A];first|exact j0 (m:=zQ _) (k9 (j3 ⟨_,rfl,j3 h⟩) a)|exact j0 (m:=zQ _) (k9 (j0 (j3 (j3 ⟨_,rfl,j3 h⟩))) a)|exact j0 (j0 (m:=zQ _) (k9 (j3 (j3 ⟨_,rfl,j3 h⟩)) a))|exact j0 (j0 (m:=zQ _) (k9 (j3 ⟨_,rfl,j3 h⟩) a))
end HT
namespace L2
open PySem PySem.Spec PyProof.Rows
abbrev TO:=St->Hp->(Option Int->Hp->Prop)->Prop
def PO(X:Cx)(e:Option Expr)(t:TO):Prop:=∀ pz s(U:St) H Q,Inv X pz U H s->t U H Q->wpAny (model X.prog X.w) X.A (evalPart e X.env) (λu s'=>∃o H',Inv X pz U H' s'/\QQ u o/\Q o H') X.xe s
noncomputable def b7m:TO:=λ_ H Q=>Q none H
noncomputable def c3v(t:TE):TO:=λU H Q=>t U H λx H1=>∃i,x=.int i/\Q (some i) H1
def intsAre_of{ns:T0s}:∀{us:T0m},bH (ns.map V.int) us->IntsAre us ns:=by induction ns with|nil=>intro us r;rw[wM]at r;cases r;exact .nil|cons n ns c=>intro us r;rw[qI]at r;cases r with|cons b a=>obtain⟨t,e⟩:=b;subst e;exact .cons n t (c a)
variable{r:V->Option Int->Option Int->Hp->VK->Prop}
section
variable{tl th:TO}
def b7T:PO X none b7m:=by intro a s U H Q I h;rw[evalPart_none];exact j3 ⟨none,H,I,.none,h⟩
def b7S(h:PE X e te):PO X (some e) (c3v te):=by intro c s U H Q I d;rw[evalPart_some];refine thn (h c s U H _ I d) ?_;rintro u j⟨x,g,f,a,b⟩;obtain⟨i,rfl,q⟩:=b;obtain⟨t,rfl⟩:=a;exact⟨some i,g,f,.int i t,q⟩
def SlR(X:Cx)(r:V->Option Int->Option Int->Hp->VK->Prop):Prop:=∀ pz s(U:St) H x v vl vu lo hi sl Q,Inv X pz U H s->RelV x v->s.heap.IsSliceOf sl vl vu .none->QQ vl lo->QQ vu hi->r x lo hi H Q->∃T id,typeLookup (.type T) "__getitem__"=pure (some (.builtin id))/\s.TypeIs v T/\wpAny (model X.prog X.w) X.A (getItem v (.ref sl)) (EP X pz U Q) X.xe s
theorem SlR.or(h:SlR X r)(h':SlR X r'):SlR X (λx lo hi H Q=>r x lo hi H Q\/r' x lo hi H Q):=by
 intro d s U H x v vl a lo hi b Q I c g f e q;obtain q|q:=q;·exact h d s U H x v vl a lo hi b Q I c g f e q
 ·exact h' d s U H x v vl a lo hi b Q I c g f e q
noncomputable def tSl(r:V->Option Int->Option Int->Hp->VK->Prop)(te:TE)(tl th:TO):TE:=λU H Q=>te U H λx H1=>tl U H1 λl H2=>th U H2 λu H3=>r x l u H3 Q
def b4G(z:SlR X r)(D:PE X e te)(A:PO X lo tl)(hu:PO X hi th):PE X (.Subscript e (.Slice lo hi none p2) pos) (tSl r te tl th):=by intro c s U H Q I h;refine Subscript_ (thn (D c s U H _ I h) ?_);rintro v i⟨x,M,K,j,p⟩;refine wpAny_Slice (thn (A c i U M _ K p) ?_);rintro vl g⟨l,L,J,w,o⟩;refine thn (hu c g U L _ J o) ?_;rintro d a⟨u,f,G,t,k⟩;rw[evalPart_none];refine j3 ?_;have F:Inv X c U f {a with heap:=a.heap.push {cls:=.type "slice",data:=.fields #[vl,d,.none]}}:=G.kept (t':=a.toks) λb ob q=>qC _ q;obtain⟨T,N,E,y,C⟩:=z c {a with heap:=a.heap.push {cls:=.type "slice",data:=.fields #[vl,d,.none]}} U f x v vl d l u a.heap.objs.size Q F j (Heap.IsSliceOf.new ..) w t k;exact tail_any (ops:=[.ref a.heap.objs.size,v]) y E C (by with_unfolding_all rfl)
def a8k(Y:List V)(lo hi:Option Int):List V:=(Y.drop (HT.sIx Y.length 0 lo)).take (HT.sIx Y.length Y.length hi-HT.sIx Y.length 0 lo)
def a1G Y a b:(a8k Y a b).length<=Y.length:=by unfold a8k;rw[jj,zG];lia
def c5p(K:qB):V->Option Int->Option Int->Hp->VK->Prop:=λx lo hi H Q=>∃a Y,x=.ref a/\SqT K H a Y/\¬(HT.sIx Y.length 0 lo=0/\HT.sIx Y.length Y.length hi=Y.length)/\∀p,H p=none->Q (.ref p) (upd H p (.tup (a8k Y lo hi)))
def c0Z:SlR X (c5p X.K):=by
 rintro z s U H x v vl w d f y Q I i u k j⟨a,Y,rfl,t,A,q⟩;cases i;obtain⟨e,r,g,p⟩:=I.tuple t;have c:e.toArray.size=Y.length:=by rw[qS];exact r.length.symm
 refine⟨"tuple",_,zS.lookup,g.typeIs,?_⟩;refine HT.getItem_tuple_cut g u k j (by rwa[c]) ?_ (by rwa[c]);rw[c];exact⟨.ref s.heap.objs.size,_,I.laid (t':=s.toks) (o:=.tup (a8k Y d f)) (λb ob q=>qC _ q) (qQ _) ⟨qg (a1G Y d f) p,_,(r.drop (HT.sIx Y.length 0 d)).take (HT.sIx Y.length Y.length f-HT.sIx Y.length 0 d),IsTup.new _ _⟩,rfl,q _ (I.hok.fresh (qQ _))⟩
def c3M(K:qB):R2:=λx y H Q=>∃a b Y ys,x=.ref a/\y=.ref b/\SqT K H a Y/\SqT K H b ys/\Y≠[]/\Y.length+ys.length<=j5/\(ys=[]->Q (.ref a) H)/\(ys≠[]->∀p,H p=none->Q (.ref p) (upd H p (.tup (Y++ys))))
def bH.nil_iff(r:bH Y us):us=[]↔Y=[]:=by cases r with|nil=>simp|cons _ _=>simp
def b8m:OpR X (wz .Add) (c3M X.K):=by rintro F s U H x y v u Q I i g⟨a,b,Y,f,rfl,rfl,E,D,C,A,k,j⟩;cases i;cases g;obtain⟨t,d,r,_⟩:=I.tuple E;obtain⟨e,c,p,_⟩:=I.tuple D;refine HT.cat_tup r p (λz=>C (d.nil_iff.mp z)) (λz=>⟨.ref a,H,I,rfl,k (c.nil_iff.mp z)⟩) (λz=>?_) (by rwa[<-d.length,<-c.length]);exact⟨.ref s.heap.objs.size,_,I.laid (t':=s.toks) (o:=.tup (Y++f)) (λb ob q=>qC _ q) (qQ _) ⟨by rw[qe];exact A,_,d.append c,IsTup.new _ _⟩,rfl,j (λw=>z (c.nil_iff.mpr w)) _ (I.hok.fresh (qQ _))⟩
end
noncomputable def ixN(n:Nat)(i:Int):Option Nat:=if 0<=i then(if i<n then some i.toNat else none)else if-(n:Int)<=i then some (i+n).toNat else none
def atI{α:Type}(Y:List α)(i:Int):Option α:=(ixN Y.length i).bind λj=>Y[j]?
variable{i:Int}
def b8K(h:ixN n i=some j):seqIndex? i n=some j/\j<n/\-(n:Int)<=i/\i<n:=by
 unfold ixN at h;by_cases a:0<=i
 ·rw[if_pos a]at h;by_cases B:i<n;·rw[if_pos B]at h;have e:=qA h;exact⟨by rw[seqIndex_of a B,e],by lia,by lia,B⟩
  ·rw[if_neg B]at h;cases h
 ·rw[if_neg a]at h;by_cases B:-(n:Int)<=i;·rw[if_pos B]at h;have e:=qA h;exact⟨by rw[seqIndex_neg (by lia) B,e],by lia,B,by lia⟩
  ·rw[if_neg B]at h;cases h
def a6L{Y:List α}{v:α}(h:atI Y i=some v):∃j,seqIndex? i Y.length=some j/\Y[j]?=some v/\j<Y.length/\-(Y.length:Int)<=i/\i<Y.length:=by unfold atI at h;cases e:ixN Y.length i with|none=>rw[e]at h;cases h|some j=>rw[e]at h;obtain⟨B,c,b,a⟩:=b8K e;exact⟨j,B,h,c,b,a⟩
def a2i(b:Expr):Prop:=∀o i,subscripted b false o i=operate [o,i] (getItem o i)
def IxR(X:Cx)(r:R2):Prop:=∀ value slice pz s(U:St) H x y v u Q,Inv X pz U H s->RelV x v->RelV y u->r x y H Q->subscripted slice false v u=operate [v,u] (getItem v u)->wpAny (model X.prog X.w) X.A (subscriptTail value slice v u) (EP X pz U Q) X.xe s
def MtR(X:Cx)(id:String)(r:V->List V->Hp->VK->Prop):Prop:=∀ pz s(U:St) H x Y v(us:T0m) Q,Inv X pz U H s->RelV x v->bH Y us->r x Y H Q->wpAny (model X.prog X.w) X.A (call (.builtin id) (v::us)) (EP X pz U Q) X.xe s
variable{v:Value}
section
variable{a:Expr}
theorem IxR.or{r e:R2}(h:IxR X r)(h':IxR X e):IxR X (λx y H Q=>r x y H Q\/e x y H Q):=by
 intro a b f s U H x y v u Q I d c q g;obtain q|q:=q;·exact h a b f s U H x y v u Q I d c q g
 ·exact h' a b f s U H x y v u Q I d c q g
def b4I{r:R2}(g:IxR X r)(j:PE X a ta)(i:PE X b tb)(hs:a2i b):PE X (.Subscript a b pos) (tOp r ta tb):=λf s U H Q I h=>Subscript_ (c3f j i I h λv u c x y o k e d q=>g a b f c U o x y v u Q k e d q (hs _ _))
def c3H(K:qB):R2:=λx y H Q=>∃p Y i v,x=.ref p/\y=.int i/\SqL K H p Y/\atI Y i=some v/\Q v H
def c3F(K:qB):R2:=λx y H Q=>∃p Y i v,x=.ref p/\y=.int i/\SqT K H p Y/\atI Y i=some v/\Q v H
def c3G:R2:=λx y H Q=>∃z i c,x=.str z/\y=.int i/\z.length<=j5/\atI z.cps.toList i=some c/\Q (.str ⟨#[c]⟩) H
def b8J:IxR X (c3H X.K):=by
 intro b c k s U H x y v u Q I F E h o;obtain⟨p,Y,i,z,rfl,rfl,G,K,q⟩:=h;cases F;obtain⟨t,rfl⟩:=E;obtain⟨f,r,e,P⟩:=I.list G;obtain⟨j,B,N,S,M,L⟩:=a6L K;obtain⟨w,C,d⟩:=r.get N;have J:=r.length;have R:=a0H;have a:EP X k U Q w s:=⟨z,H,I,d,q⟩;by_cases A:0<=i
 ·have g:i.toNat=j:=by rw[seqIndex_of A L]at B;exact qA B
  exact item_listR e.isList A (by lia) (by rw[g];simpa using C) a o
 ·have g:(i+(f.toArray.size:Int)).toNat=j:=by rw[seqIndex_neg (by omega) M]at B;rw[qS,<-J];exact qA B
  exact y4 (x:=w) e.isList.typeIs slot_list_getitem.lookup
   (wpAny_getItem_list_neg (Q:=λr D=>r=w/\EP X k U Q r D) e.isList (by omega) (by rw[qS]<;>lia) (by lia) (by rw[g];simpa using C) ⟨rfl,a⟩) o
def c2j:IxR X (c3F X.K):=by
 intro a b e s U H x y v u Q I o k h C;obtain⟨p,Y,i,z,rfl,rfl,D,F,q⟩:=h;cases o;obtain⟨t,rfl⟩:=k;obtain⟨A,r,f,K⟩:=I.tuple D;obtain⟨j,B,G,P,N,M⟩:=a6L F;obtain⟨w,J,c⟩:=r.get G;have E:=r.length;have L:=a0H;have d:EP X e U Q w s:=⟨z,H,I,c,q⟩;exact y4 (x:=w) f.typeIs slot_tuple_getitem.lookup
  (getItem_tuple (j:=j) (Q:=λr g=>r=w/\EP X e U Q r g) f (by lia) (by lia) (by rwa[qS,<-E]) (by simpa using J) ⟨rfl,d⟩) C
def c2k:IxR X c3G:=by
 intro a b D s U H x y v u Q I e d h f;obtain⟨z,i,c,rfl,rfl,E,k,q⟩:=h;obtain⟨t,rfl⟩:=e;obtain⟨C,rfl⟩:=d;obtain⟨j,B,r,G,p,o⟩:=a6L k;have g:z.cps.toList.length=z.length:=by simp[Str.length]
 rw[g]at B p o;have F:=a0H;exact tail_any (typeIs_str s z t) slot_str_getitem.lookup (getItem_str (c:=c) (by have A:decide (i< -(2^63:Int))=false:=decide_eq_false (by lia);have w:decide (i>=2^63)=false:=decide_eq_false (by lia);rw[A,w,wE]) (by rw[B];simpa using r) ⟨.str ⟨#[c]⟩,H,I.tok _,⟨_,rfl⟩,q⟩) f
def rIx(K:qB):R2:=λx y H Q=>c3H K x y H Q\/c3F K x y H Q\/c3G x y H Q
def c2l:IxR X (rIx X.K):=b8J.or (c2j.or c2k)
def a5A a b n:(yw a b none n).1=((HT.sIx n 0 a:Nat):Int)/\(yw a b none n).2.1=((HT.sIx n n b:Nat):Int)/\(yw a b none n).2.2=1:=by
 refine⟨?_,?_,rfl⟩;·cases a with|none=>simp[yw,HT.sIx]|some i=>
   simp only[yw,HT.sIx,Option.getD_none,if_true];by_cases h:i<0;·simp only[h,if_true]<;>omega
   ·simp only[h,if_false]<;>omega
 ·cases b with|none=>simp[yw,HT.sIx]|some i=>
   simp only[yw,HT.sIx,Option.getD_none,if_true];by_cases h:i<0;·simp only[h,if_true]<;>omega
   ·simp only[h,if_false]<;>omega
def a3N(its:T0m) a b:slicePick its.toArray a b none=((its.drop (HT.sIx its.length 0 a)).take (HT.sIx its.length its.length b-HT.sIx its.length 0 a)).toArray:=by obtain⟨B,d,c⟩:=a5A a b its.toArray.size;unfold slicePick;rw[B,d,c];simp only[sliceRange_one,pick_run,qS]<;>rfl
def c5q(K:qB):V->Option Int->Option Int->Hp->VK->Prop:=λx lo hi H Q=>∃a Y,x=.ref a/\SqL K H a Y/\∀p,H p=none->Q (.ref p) (upd H p (.lst (a8k Y lo hi)))
def b7t:SlR X (c5q X.K):=by rintro z s U H x v vl w d e y Q I g u j i⟨a,Y,rfl,t,q⟩;cases g;obtain⟨k,r,f,p⟩:=I.list t;have c:=r.length;refine⟨"list",_,slot_list_getitem.lookup,f.isList.typeIs,?_⟩;refine wpAny_getItem_list_slice f.isList u j i .none (by simp) ?_ (by rw[qS]<;>lia);rw[a3N,<-c];exact⟨.ref s.heap.objs.size,_,I.laid (t':=s.toks) (o:=.lst (a8k Y d e)) (λb ob q=>qC _ q) (qQ _) ⟨qg (a1G Y d e) p,_,0,(r.drop (HT.sIx Y.length 0 d)).take (HT.sIx Y.length Y.length e-HT.sIx Y.length 0 d),qP _ rfl⟩,rfl,q _ (I.hok.fresh (qQ _))⟩
noncomputable def rN:V->Bool|.non=>true|.bl _=>true|.int _=>true|.str _=>true|_=>false
noncomputable def eqV:V->V->Bool|.non,.non=>true|.bl a,.bl b=>a==b|.bl a,.int b=>(if a then 1 else 0)==b|.int a,.bl b=>a==(if b then 1 else 0)|.int a,.int b=>a==b|.str a,.str b=>a==b|_,_=>false
def c2A(e:RelV y u)(c:RelV x v)(g:rN y=true)(f:rN x=true):SeqAt.EqAt A s u v (eqV y x):=by cases y with
 |non=>cases e;cases x with|non=>cases c;exact SeqAt.EqAt.same _|bl b=>cases c;exact SeqAt.EqAt.none_bool b|int b=>obtain⟨t,rfl⟩:=c;exact SeqAt.EqAt.none_int b t|str b=>obtain⟨t,rfl⟩:=c;exact SeqAt.EqAt.none_str b t|_=>exact absurd (show false=true from f) qf
 |bl a=>cases e;cases x with|non=>cases c;exact SeqAt.EqAt.bool_none a|bl b=>cases c;exact wF a b|int b=>obtain⟨t,rfl⟩:=c;exact SeqAt.EqAt.bool_int a b t|str b=>obtain⟨t,rfl⟩:=c;exact SeqAt.EqAt.bool_str a b t|_=>exact absurd (show false=true from f) qf
 |int a=>obtain⟨d,rfl⟩:=e;cases x with|non=>cases c;exact SeqAt.EqAt.int_none a d|bl b=>cases c;exact SeqAt.EqAt.int_bool a d b|int b=>obtain⟨t,rfl⟩:=c;exact SeqAt.EqAt.int_int a d b t|str b=>obtain⟨t,rfl⟩:=c;exact SeqAt.EqAt.int_str a d b t|_=>exact absurd (show false=true from f) qf
 |str a=>obtain⟨d,rfl⟩:=e;cases x with|non=>cases c;exact SeqAt.EqAt.str_none a d|bl b=>cases c;exact SeqAt.EqAt.str_bool a d b|int b=>obtain⟨t,rfl⟩:=c;exact SeqAt.EqAt.str_int a d b t|str b=>obtain⟨t,rfl⟩:=c;exact SeqAt.EqAt.str_str a d b t|_=>exact absurd (show false=true from f) qf
 |_=>exact absurd (show false=true from g) qf
def eqU(x:V)(u:Value):Bool:=match u with|.none=>eqV .non x|.bool b=>eqV (.bl b) x|.int i _=>eqV (.int i) x|.str z _=>eqV (.str z) x|_=>false
def b6f(r:RelV y u)(f:rN y=true):eqU x u=eqV y x:=by cases y with|non=>cases r;rfl|bl b=>cases r;rfl|int i=>obtain⟨t,rfl⟩:=r;rfl|str z=>obtain⟨t,rfl⟩:=r;rfl|_=>exact absurd (show false=true from f) qf
theorem yY:∀{Y:List V}{us:T0m},bH Y us->Y.all rN=true->us.any (eqU x)=Y.any λy=>eqV y x|_,_,.nil,_=>rfl|y::Y,u::us,.cons r t,f=>by rw[ja,qE]at f;rw[kB,kB,b6f r f.1,yY t f.2]
theorem sQ{s:Shared}{x:V}{v:Value}(b:RelV x v)(c:rN x=true):∀{Y:List V}{us:T0m},bH Y us->Y.all rN=true->∀u∈us,SeqAt.EqAt A s u v (eqU x u)
 |_,_,.nil,_=>λu a=>by cases a|y::Y,u::us,.cons r t,f=>λd a=>by
  rw[ja,qE]at f;obtain rfl|a:=qM.mp a;·rw[b6f r f.1];exact c2A r b f.1 c
  ·exact sQ b c t f.2 d a
def inV(x:V)(Y:List V):Bool:=Y.any λy=>eqV y x
def rIn(K:qB)(neg:Bool):R2:=λx y H Q=>∃p Y,y=.ref p/\(SqL K H p Y\/SqT K H p Y)/\rN x=true/\Y.all rN=true/\Q (.bl (if neg then !inV x Y else inV x Y)) H
def a4J:OpR X (wa .In) (rIn X.K false):=by
 rintro j s U H x y v u Q I e g⟨p,Y,rfl,b,f,fs,q⟩;cases g;obtain b|b:=b;·obtain⟨a,r,c,i⟩:=I.list b;refine SeqAt.in_listAt (eqU x) c.isList (λw d=>sQ e f r fs w (by simpa using d)) ⟨.bl _,H,I,rfl,?_⟩;rwa[show a.toArray.any (eqU x)=a.any (eqU x)by simp,yY r fs]
 ·obtain⟨a,r,c,i⟩:=I.tuple b;refine SeqAt.in_tupleAt (eqU x) c (λw d=>sQ e f r fs w (by simpa using d)) ⟨.bl _,H,I,rfl,?_⟩;rwa[show a.toArray.any (eqU x)=a.any (eqU x)by simp,yY r fs]
def yH:OpR X (wa .NotIn) (rIn X.K true):=by
 rintro j s U H x y v u Q I e g⟨p,Y,rfl,b,f,fs,q⟩;cases g;obtain b|b:=b;·obtain⟨a,r,c,i⟩:=I.list b;refine SeqAt.notIn_listAt (eqU x) c.isList (λw d=>sQ e f r fs w (by simpa using d)) ⟨.bl _,H,I,rfl,?_⟩;rwa[show a.toArray.any (eqU x)=a.any (eqU x)by simp,yY r fs]
 ·obtain⟨a,r,c,i⟩:=I.tuple b;refine SeqAt.notIn_tupleAt (eqU x) c (λw d=>sQ e f r fs w (by simpa using d)) ⟨.bl _,H,I,rfl,?_⟩;rwa[show a.toArray.any (eqU x)=a.any (eqU x)by simp,yY r fs]
def pY:lK X (.builtin "len") (λY H Q=>∃p ys,Y=[.ref p]/\(SqL X.K H p ys\/SqT X.K H p ys)/\Q (.int ys.length) H):=by
 rintro j s U H Y i Q I r⟨p,ys,rfl,b,q⟩;obtain⟨u,rfl,f⟩:=vals1 r;cases f;have k:=a0H;obtain b|b:=b;·obtain⟨e,c,d,g⟩:=I.list b;have a:=c.length;exact Calls.call_len_list d.isList (by simp only[qS]<;>omega) ⟨.int ys.length,H,I.tok _,⟨s.toks+1,by rw[qS,a]⟩,q⟩
 ·obtain⟨e,c,d,g⟩:=I.tuple b;have a:=c.length;exact len_tuple d (by simp only[qS]<;>omega) ⟨.int ys.length,H,I.tok _,⟨s.toks+1,by rw[qS,a]⟩,q⟩
def a6G:lK X (.builtin "len") (λY H Q=>∃z,Y=[.str z]/\z.length<=j5/\Q (.int z.length) H):=by rintro b s U H Y a Q I r⟨z,rfl,c,q⟩;obtain⟨u,rfl,t,rfl⟩:=vals1 r;have d:=a0H;exact len_str (by lia) ⟨.int z.length,H,I.tok _,⟨_,rfl⟩,q⟩
def yW:lK X (.type "list") (λY H Q=>∃p ys,Y=[.ref p]/\(SqL X.K H p ys\/SqT X.K H p ys)/\∀l,H l=none->Q (.ref l) (upd H l (.lst ys))):=by
 rintro D s U H Y E Q I r⟨p,ys,rfl,j,q⟩;obtain⟨u,rfl,C⟩:=vals1 r;cases C;have t:∀(a:T0m),bH ys a->ys.length<=j5->∀(c:Heap)(f:Nat),(∀b A,s.heap.get? b=some A->c.get? b=some A)->c.get? s.heap.objs.size=some {cls:=.type "list",dict:=none,data:=.seq a.toArray f,slots:=#[]}->EP X D U Q (.ref s.heap.objs.size) {s with heap:=c}:=λa d i c f g e=>⟨.ref s.heap.objs.size,_,I.laid (t':=s.toks) g (qQ _) (show cU X.prog X.w _ c _ (.lst ys)from⟨i,a,f,d,e⟩),rfl,q _ (I.hok.fresh (qQ _))⟩;obtain j|j:=j;·obtain⟨a,d,v,i⟩:=I.list j;have k:=d.length;obtain⟨o,w,z,n,y⟩:=v.isList;exact call_list_seq p (.inl rfl) w z y (λc f g e=>t a d i c f g e) (by simp only[qS]<;>omega)
 ·obtain⟨a,d,v,i⟩:=I.tuple j;have k:=d.length;obtain⟨o,w,z,n,y⟩:=v;exact call_list_seq p (.inr rfl) w z y (λc f g e=>t a d i c f g e) (by simp only[qS]<;>omega)
def uU:lK X (.type "tuple") (λY H Q=>∃p ys,Y=[.ref p]/\((SqL X.K H p ys/\∀l,H l=none->Q (.ref l) (upd H l (.tup ys)))\/(SqT X.K H p ys/\Q (.ref p) H))):=by
 rintro z s U H Y y Q I r⟨p,ys,rfl,h⟩;obtain⟨u,rfl,k⟩:=vals1 r;cases k;obtain⟨f,q⟩|⟨f,q⟩:=h;·obtain⟨a,c,d,g⟩:=I.list f;have i:=c.length;refine call_tuple_list d.isList (λv t=>?_) (by simp only[qS]<;>lia);have j:=I.kept (t':=s.toks) t;have w:=j.laid (t':=s.toks) (λb o e=>qC _ e) (qQ _) (show cU X.prog X.w _ _ _ (.tup ys)from⟨g,a,c,IsTup.new _ _⟩);exact⟨.ref v.objs.size,_,w,rfl,q _ (j.hok.fresh (qQ _))⟩
 ·obtain⟨a,c,d,g⟩:=I.tuple f;exact call_tuple_same d ⟨.ref p,H,I,rfl,q⟩
def tyV(K:qB)(T:String)(x:V)(H:Hp):Prop:=match x with|.str _=>T="str"|.int _=>T="int"|.ref p=>(T="list"/\∃Y,SqL K H p Y)\/(T="tuple"/\∃o,K.lookup p=some o/\o.cls=.type "tuple"/\o.dict=none)\/(T="dict"/\((∃kvs,H p=some (.dK kvs))\/∃kvs,H p=some (.dT kvs)))\/(T="set"/\∃S n,H p=some (.set S n))|_=>False
def c0K(I:Inv X pz U H s)(r:RelV x v)(ty:tyV X.K T x H):
  s.TypeIs v T/\∀a,v=.ref a->∃ob,s.heap.get? a=some ob/\ob.dict=none:=by cases x with|str z=>obtain⟨t,rfl⟩:=r;cases(show T="str"from ty);exact⟨typeIs_str s z t,λ_ e=>nomatch e⟩|int i=>obtain⟨t,rfl⟩:=r;cases(show T="int"from ty);exact⟨typeIs_int s i t,λ_ e=>nomatch e⟩|ref p=>
  cases r;obtain⟨rfl,Y,q⟩|⟨rfl,o,b,u,f⟩|⟨rfl,b⟩|⟨rfl,S,n,b⟩:=ty;·obtain⟨k,_,j,_⟩:=I.list q;refine⟨j.isList.typeIs,λa e=>?_⟩;cases e;obtain⟨o,n,e,c,f,_⟩:=j;exact⟨o,e,f⟩
  ·refine⟨⟨o,I.kIn p o b,u⟩,λa e=>?_⟩;cases e;exact⟨o,I.kIn _ o b,f⟩
  ·have z:∃o,s.heap.get? p=some o/\o.ExactDict:=by
    obtain⟨d,b⟩|⟨d,b⟩:=b;·obtain⟨_,_,_,_,o,_,_,e,ex,_⟩:=I.hok p _ b;exact⟨o,e,ex⟩
    ·obtain⟨_,_,_,_,o,_,_,e,ex,_⟩:=I.hok p _ b;exact⟨o,e,ex⟩
   obtain⟨o,e,ex⟩:=z;refine⟨⟨o,e,ex.1⟩,λa g=>?_⟩;cases g;exact⟨o,e,ex.2.1⟩
  ·obtain⟨o,_,_,_,e,ex,_⟩:=I.hok p _ b;refine⟨⟨o,e,ex.1⟩,λa g=>?_⟩;cases g;exact⟨o,e,ex.2.1⟩|_=>exact qz ty
noncomputable def tBM(K:qB)(T:String)(r:V->List V->Hp->VK->Prop)(to:TE)(t:TA):TE:=λU H Q=>to U H λx H1=>tyV K T x H1/\t U H1 λY H2=>r x Y H2 Q
variable{to:TE}{t:TA}{id:String}{r:V->List V->Hp->VK->Prop}
abbrev U4(X:Cx)(c:Pos)(l:List Expr):Prop:=((j8 c (j4 l X.env)).all (λx=>!x.1)&&(yc c (wm [] X.env)).all (λx=>x.1.isSome)&&decide (l.length+([]:List Keyword).length+(if([]:List Keyword).isEmpty then 0 else 1)<30))=true
def b0N(pa:PlainAttrs T)(d:Slot T name id)(i:typeOf (.builtin id)=pure (.type "method_descriptor"))(E:MtR X id r)(D:PE X o to)(F:PA X (e::es) t)(c:U8 X o name:=by rfl)(f:U4 X cpos (e::es):=by rfl)(b:(apos.endLine==cpos.line)=true:=by rfl)(hs:U5 X e es:=by rfl)(a:U6 X cpos es:=by rfl):PE X (.Call (.Attribute o name apos) (e::es) [] cpos) (tBM X.K T r to t):=by intro g s U H Q I h;refine wpAny_Call_method_late c f b rfl (thn (D g s U H _ I h) ?_);rintro v y⟨x,L,p,j,ty,C⟩;obtain⟨B,G⟩:=c0K p j ty;refine⟨T,id,pa,d,i,B,G,?_⟩;have k:=F cpos g y U L _ p C;rw[hs]at k⊢;exact vz (by show(false||(j8 cpos (j4 es X.env)).any (·.1))=false;rw[a]<;>rfl) (zy (thn k (by rintro u w⟨q,K,J,z,A⟩;exact E g w U K x q v u Q J j z A)))
end
def MtM(X:Cx)(id:String)(r:V->List V->Hp->VK->Prop):Prop:=∀ pz s(U:St) H x Y v(us:T0m) Q,Inv X pz U H s->RelV x v->bH Y us->r x Y H Q->wpAny (model X.prog X.w) X.A (call (.builtin id) (v::us)) (EP X pz U Q) X.xe s
theorem bH.one:∀{x:V}{us:T0m},bH [x] us->∃u,us=[u]/\RelV x u|_,_,.cons r .nil=>⟨_,rfl,r⟩
section
variable{l b:Addr}{zs:List V}
theorem Inv.lset{its':T0m}{n:Nat}{f:Array Value->Array Value}(I:Inv X pz U H s)(i:H l=some (.lst Y))(e:s.heap.get? l=some {cls:=.type "list",data:=.seq its.toArray n})(d:f its.toArray=its'.toArray)(b:bH ys its')(a:ys.length<=j5):Inv X pz U (upd H l (.lst ys)) {s with heap:=s.heap.update l (kD f),toks:=t'}:=by have q:=PySem.IsL.update e f;rw[d]at q;exact I.write (x:=l) (e:=l) (by rw[i];exact trivial) (.inl rfl) (λj u g c=>(qm s.heap (kD f) (jH g)).trans c) ⟨_,q⟩ ⟨a,its',_,b,q⟩
theorem Inv.lnew(I:Inv X pz U H s)(b:bH ys its)(a:ys.length<=j5):Inv X pz U (upd H s.heap.objs.size (.lst ys)) {s with heap:=s.heap.push {cls:=.type "list",data:=.seq its.toArray},toks:=t'}:=I.laid (λ_ _ q=>qC _ q) (qQ _) ⟨a,its,0,b,qP _ rfl⟩
theorem Inv.fresh(I:Inv X pz U H s):H s.heap.objs.size=none:=I.hok.fresh (qQ _)
theorem Inv.lstM(I:Inv X pz U H s)(a:H l=some (.lst Y)):Y.length<=j5/\∃(its:T0m)(n:Nat),bH Y its/\Y.length=its.length/\s.heap.get? l=some {cls:=.type "list",data:=.seq its.toArray n}:=by obtain⟨z,its,n,r,e⟩:=I.hok l _ a;exact⟨z,its,n,r,r.length,e⟩
def b4W(h:n<=j5):vi n=false:=by exact decide_eq_false (by lia)
end
def b7L:V->List V->Hp->VK->Prop:=λx vs H Q=>∃l Y y,x=.ref l/\vs=[y]/\H l=some (.lst Y)/\Y.length<j5/\Q .non (upd H l (.lst (Y++[y])))
def a0E:MtM X "list.append" b7L:=by rintro j s U H x g v i Q I c d⟨l,Y,y,rfl,rfl,b,k,q⟩;cases c;obtain⟨u,rfl,f⟩:=d.one;obtain⟨z,a,n,r,o,e⟩:=I.lstM b;refine QG F.slot_list_append ⟨_,e,rfl⟩ F.entry_list_append (F.args_list_append_2 _ _) (PySem.list_append l a.toArray n u (by rw[qS];lia)) ⟨e,?_⟩;refine⟨.non,_,I.lset (its':=a++[u]) b e (by simp) (r.append (.cons f .nil)) ?_,rfl,q⟩;rw[qe,List.length_singleton];assumption
end L2
namespace Att
open PySem PySem.W PySem.Calls PyProof.Rows
def a1M{P:Params}{h:Heap}:∀(ns:T0s)(vs:T0m),WellAll P h vs (ns.map WData.int)->IntsAre vs ns:=by intro ns;induction ns with|nil=>intro vs w;rw[wM]at w;cases w;exact .nil|cons n ns c=>intro vs w;rw[qI]at w;cases w with|cons a b=>cases a;exact .cons _ _ (c _ b)
def b2j{l:OpenLaw}{n:Nat}(s:l.most=some n){P:Params}{h:Heap}{args:List WData}{vals:T0m}(b:l.row.toRowW.claim.pre args=true)(g:WellAll P h vals args):∃a vs ns,vals=[qr a]/\args=[WData.list (ns.map WData.int)]/\h.get? a=some {cls:=.type "list",data:=.seq vs.toArray}/\IntsAre vs ns/\ns.length<=n:=by
 have hsh:=(pre_splitW b).1;have t:=(pre_splitW b).2;obtain⟨d,r,rfl,B,v⟩:=hasAllW_cons hsh;obtain rfl:=hasAllW_nil v;obtain⟨Y,rfl,u⟩:=hasW_list B;obtain⟨ns,rfl⟩:=items_int u;have c:ns.length<=n:=by
  have i:(WTm.not (.lt (.lit (.int (n:Int))) (.len (.arg 0)))).holds [] {args:=[.list (ns.map .int)]}=true:=by have i:=(holds_andW t).1;rwa[s]at i
  have f:=condW_of i (w_not (w_lt w_lit (w_len_list (w_arg rfl))));rw[qD]at f;refine Nat.le_of_not_lt λq=>?_;have o:(n:Int)<((ns.length:Nat):Int):=by omega
  first|(rw[decide_eq_true o]at f;exact absurd f (by decide))|(simp at f;omega)
 cases g with|cons k j=>cases j;cases k with|list p e=>exact⟨_,_,ns,rfl,rfl,p,a1M ns _ e,c⟩
def b2s(l:OpenLaw) args:l.row.toRowW.claim.post args (.bool true) args=true:=postW_of (r:=l.row.toRowW) (X:=(true==true))
  (show WShape.has [] (.bool true) .bool=true by first|rfl|decide|simp[WShape.armsAll])
  (show(WTm.eq .res (.lit (.bool true))).value [] {args:=args,res:=some (.bool true),after:=args}=some (.bool (true==true))from w_eq_bool (w_res rfl) w_lit) rfl
def attach_call{l:OpenLaw}{n:Nat}{q:Program}{e:T0q}{D:(Str->Option Value)->Heap->Prop}{C:World->Heap->Prop}{d:DefRec}(I:l.most=some n)(v:d.params.defaults=[])(call:∀ w c b(mg s:T0d) fa o pm p doc a(vs:T0m)(ns:T0s),Ground q e [] D w c mg s b.heap->C w b.heap->b.heap.get? fa=some o->o.data=.func (docDef d.name d.params d.body d.scope pm p doc)->b.heap.CodeRec p d.name->mg d.name=some (.ref fa)->b.heap.get? a=some {cls:=.type "list",data:=.seq vs.toArray}->IntsAre vs ns->ns.length<=n->b.gens=#[]->wn (model l.prog w) QN (.call (.ref fa) ⟨[.ref a],[]⟩) (λr s'=>r=.ok (.ret (.bool true))/\OldK b.heap s'.heap/\s'.os=b.os/\um s'.gens) b):WalkO q e D C l.row.toRowW d [] (λf vs=>PySem.call f vs):=by intro w c b mg s G S fa o pm p doc R kV H M y hD u L A vals as i z E t K;obtain rfl:R=.none:=Dflts.none hD v;obtain rfl:kV=.none:=Dflts.noKw hD;obtain⟨a,vs,ns,rfl,rfl,j,g,k⟩:=b2j I i t;refine enter_call (wc (call w c b mg s fa o pm p doc a vs ns G S H (fd_plain M) y u j g k L) λr s' F=>?_);obtain⟨rfl,Q,P,N⟩:=F;exact⟨.inl ⟨.bool true,.bool true,[],rfl,λ_=>rfl,.bool true,b2s l _,λ_=>⟨List.Pairwise.nil,λ_ J=>(nomatch J)⟩⟩,Q,P,N⟩
section
variable{K:Frag}
end
end Att
namespace L2
open PySem PySem.Spec PyProof.Rows
theorem a4h:∀{vs:T0m}{ns:T0s},IntsAre vs ns->bH (ns.map V.int) vs|_,_,.nil=>.nil|_,_,.cons n t h=>.cons ⟨t,rfl⟩ (a4h h)
def c6b(H:Hp):Prop:=∀b,H b=none\/∃o Y,H b=some (.frz o (.lst Y))
noncomputable def fD(s:Stmt):Arguments:=match s with|.FunctionDef _ a _ _ _ _ _ _ _ _=>a|_=>{posonlyargs:=[],args:=[],vararg:=none,kwonlyargs:=[],kw_defaults:=[],kwarg:=none,defaults:=[]}
noncomputable def bK(s:Stmt):List Stmt:=match s with|.FunctionDef _ _ b _ _ _ _ _ _ _=>b|_=>[]
noncomputable def aD(s:Stmt):Scope:=match s with|.FunctionDef _ _ _ _ _ _ sc _ _ _=>sc|_=>{kind:=.function,names:=[],isGenerator:=false,isCoroutine:=false}
noncomputable abbrev CX0:CXT:=λ_ _ _ _ _ _=>False
noncomputable abbrev E0:XK:=λ_ _ _=>False
def c0g:a3D CX0 X E0:=λ_ _ _ _ _ _ _ h=>h.elim
structure Fun(K:qB)(x qual:Str)(st:Stmt)(f:Addr)(fd:wf):Prop where
 ex:∃(oc:Value)(od:T0k)(kV doc pm:Value)(an:T0k)(cdv ct:Value)(osl:Array (Option Value)),fd=jg x qual (fD st) (bK st) (aD st) .none kV doc pm an cdv ct/\K.lookup f=some ⟨oc,od,.func fd,osl⟩/\zD K cdv qual=true
 kp:jY K (.ref f)=true
variable{f:Addr}
section
variable{K:qB}
theorem Fun.ok{x:Str}(F:Fun K x qual st f fd)(S:FnScope N ps (aD st))(len:∀vs H Q E,sp vs H Q E->vs.length=ps.length)(b:∀ cdv(A:Around)(a:List Env) s H(vs:List V) Q E,Room k (A.deeper (w4 qual (aD st) s.heap.objs.size f cdv))->sp vs H Q E->∃t,PSs (a1a CX0 P w K mg base N qual (aD st) f cdv A a s H E).nox (bK st) t/\t {nx:=λ_ H'=>Q .non H',rt:=Q} (start N vs) H):FnOk P w K mg base CX0 (k+1) f fd ps sp:=by obtain⟨r,p,kV,j,o,u,cdv,ct,e,rfl,g,d⟩:=F.ex;refine a7U g d S len λA a s H vs Q E i c=>?_;obtain⟨t,h,q⟩:=b cdv A a s H vs Q E i c;exact⟨t,h.nox,q⟩
def Fun.binds(F:Fun K x qual st f fd)(h:∀ kV doc pm(an:T0k) cdv ct(us:T0m),us.length=ps.length->uk (jg x qual (fD st) (bK st) (aD st) .none kV doc pm an cdv ct) ⟨us,[]⟩=pure (ps.zip us)):Binds K fd ps []:=by obtain⟨d,c,kV,doc,pm,an,cdv,ct,a,rfl,e,b⟩:=F.ex;exact .all (h kV doc pm an cdv ct)
def a6r{kV:Value}(l:K.lookup f=some ⟨oc,od,.func (jg x qual (fD st) (bK st) (aD st) .none kV doc pm an cdv ct),osl⟩)(c:zD K cdv qual=true)(k:jY K (.ref f)=true):Fun K x qual st f (jg x qual (fD st) (bK st) (aD st) .none kV doc pm an cdv ct):=⟨⟨oc,od,kV,doc,pm,an,cdv,ct,osl,rfl,l,c⟩,k⟩
end
def oN(h:n<=1000):n<j5:=kg h (by decide)
structure U0(X:Cx)(i:Nat)(x:Str):Prop where(a:X.N[i]?=some x)(b:Vis X.env.scope x)(c:(x==("__debug__":Str))=false)(d:(x==("__classdict__":Str))=false)
def U1{X:Cx}{i:Nat}{x:Str}(a:X.N[i]?=some x:=by rfl)(b:Vis X.env.scope x:=by first|exact jT rfl|exact qu (jT rfl)|exact qu (qu rfl))(c:(x==("__debug__":Str))=false:=by decide)(d:(x==("__classdict__":Str))=false:=by decide):U0 X i x:=⟨a,b,c,d⟩
def pv i{x:Str}(a:U0 X i x:=by exact U1):PE X (.Name x pos) (c3t i):=cM a.1 a.2 a.3 a.4
def aT(H H':Hp):Prop:=∀b o,H b=some o->H' b=some o
def aT.refl H:aT H H:=λ_ _ h=>h
def aT.trans(a:aT H H1)(b:aT H1 H2):aT H H2:=λc o h=>b c o (a c o h)
def aT.free(e:aT H H'){l:Addr}(h:H' l=Option.none):H l=Option.none:=by cases q:H l with|none=>rfl|some o=>rw[e l o q]at h;cases h
theorem aT.seq{K:qB}(e:aT H H')(h:SqL K H a Y):SqL K H' a Y:=by
 obtain(h|⟨o,h⟩)|h:=h;·exact .inl (.inl (e _ _ h))
 ·exact .inl (.inr ⟨o,e _ _ h⟩)
 ·exact .inr h
def a9O{b a:Type}{l:List b}{f:b->a->Sem (ForInStep a)}{g:b->a->a}:∀ c,(∀x∈l,∀c,f x c=pure (.yield (g x c)))->(forIn l c f:Sem a)=pure (l.foldl (λc x=>g x c) c):=by induction l with|nil=>intro c _;rfl|cons x r d=>intro c h;rw[List.forIn_cons,h x qa];exact d _ λy e=>h y (qF _ e)
noncomputable def oH(env:Env)(p:Str×wx)(cs:T0f):List (Str×Addr):=if p.2=.free then(match env.cells.lookup p.1 with|some a=>(p.1,a)::cs|none=>cs)else cs
def a1b(scope:Scope)(env:Env):List (Str×Addr):=scope.names.foldl (λcs p=>oH env p cs) []
def lQ(h:∀p∈scope.names,p.2=.free->∃c,env.cells.lookup p.1=some c):closureFor scope env=pure (a1b scope env):=by
 simp only[closureFor];rw[a9O (g:=oH env) [] (λx d c=>by
  obtain⟨n,kind⟩:=x;by_cases b:kind=.free;·subst b;obtain⟨a,e⟩:=h _ d rfl;have f:=e;simp[oH,f,cellOf];try rfl
  ·have i:(kind==kh)=false:=by simpa using b
   simp[oH,b])];rfl
theorem c0z:∀(b:List (Str×wx))(f:T0f),(∀x c,(x,c)∈f->env.cells.lookup x=some c)->∀x c,(x,c)∈b.foldl (λf p=>oH env p f) f->env.cells.lookup x=some c
 |[],f,h=>h|p::r,f,h=>by
  refine c0z r _ ?_;intro x c d;unfold oH at d;dsimp only at d;split at d
  ·split at d
   ·rename_i a e;obtain z|z:=qM.mp d;·cases z;exact e
    ·exact h x c z
   ·exact h x c d
  ·exact h x c d
theorem b1F{q:Str×Addr}:∀(a:List (Str×wx))(b:T0f),q∈b->q∈a.foldl (λb p=>oH env p b) b
 |[],_,h=>h|p::r,b,h=>by
  refine b1F r _ ?_;unfold oH;dsimp only;split
  ·split;·exact qF _ h
   ·exact h
  ·exact h
theorem b6K{x:Str}{c:Addr}(e:env.cells.lookup x=some c):∀(a:List (Str×wx))(b:T0f),(x,kh)∈a->(x,c)∈a.foldl (λb p=>oH env p b) b
 |[],_,h=>by simp at h|p::r,b,h=>by
  obtain z|z:=qM.mp h;·subst z;refine b1F r _ ?_;unfold oH;dsimp only;rw[if_pos rfl,e];exact qa
  ·exact b6K e r _ z
theorem mJ{b:Type}{x:Str}{c:b}:∀{l:List (Str×b)},(x,c)∈l->∃a,l.lookup x=some a
 |[],h=>by simp at h|(y,d)::r,h=>by
  by_cases e:x=y;·subst e;exact⟨d,by simp⟩
  ·have f:(x==y)=false:=by simpa using e
   obtain z|z:=qM.mp h;·cases z;exact absurd rfl e
   ·obtain⟨a,q⟩:=mJ z;exact⟨a,by simp[kG,f,q]⟩
variable{c:Addr}
def a6C(h:(a1b scope env).lookup x=some c):env.cells.lookup x=some c:=c0z scope.names [] (λ_ _ z=>by simp at z) x c (qo h)
def yT{x:Str}(hx:(x,kh)∈scope.names)(e:env.cells.lookup x=some c):(a1b scope env).lookup x=some c:=by obtain⟨a,q⟩:=mJ (b6K e scope.names [] hx);have:=a6C (scope:=scope) q;rw[e]at this;cases this;exact q
theorem lI{a:Env}(g:a.scope.kind=.function):∀{b:List (Str×wx)}{x:Str},b.lookup x=some .free->a.kindOf x=some .cell->(b.map λ(n,k)=>if(k==kh&&a.scope.kind==.function&&a.kindOf n==some .cell)then(n,vm)else(n,k)).lookup x=some .cell|[],_,h,_=>by simp at h|(n,k)::r,x,h,hk=>by have f:=@lI a g r x;show zU x ((if(k==kh&&a.scope.kind==.function&&a.kindOf n==some .cell)=true then(n,vm)else(n,k))::_)=_;cases c:x==n with
  |true=>
   simp only[kG,c]at h;have e:x=n:=by simpa using c
   subst e;cases h;have d:(kh==kh&&a.scope.kind==.function&&a.kindOf x==some vm)=true:=by rw[g,hk];rfl
   rw[if_pos d];simp|false=>
   simp only[kG,c]at h;by_cases d:(k==kh&&a.scope.kind==.function&&a.kindOf n==some .cell)=true;·rw[if_pos d];simp only[kG,c];exact f h hk
   ·rw[if_neg d];simp only[kG,c];exact f h hk
theorem lW:∀ a n(b cl:T0f),k8 n a (b++cl)=k8 n a b++cl
 |[],_,_,_=>rfl|(x,k)::r,n,b,cl=>by
  unfold k8;split;·exact lW r (n+1) ((x,n)::b) cl
  ·exact lW r n b cl
def gO names n(cl:T0f){x:Str}(h:(k8 n names cl).lookup x=some c):(k8 n names []).lookup x=some c\/((k8 n names []).lookup x=none/\cl.lookup x=some c):=by have e:=lW names n [] cl;rw[vc]at e;rw[e,zt]at h;cases q:(k8 n names []).lookup x with|some d=>rw[q]at h;exact .inl h|none=>rw[q]at h;exact .inr ⟨rfl,h⟩
def a8p names n(cl:T0f){x:Str}(h:cl.lookup x=some c):∃d,(k8 n names cl).lookup x=some d:=by have e:=lW names n [] cl;rw[vc]at e;rw[e,zt];cases q:(k8 n names []).lookup x with|some d=>exact⟨d,rfl⟩|none=>exact⟨c,h⟩
def a8q names n(cl:T0f){x:Str}(a:(k8 n names []).lookup x=none)(h:cl.lookup x=some c):(k8 n names cl).lookup x=some c:=by have e:=lW names n [] cl;rw[vc]at e;rwa[e,zt,a]
def a8r names n(cl:T0f){x:Str}(h:(k8 n names []).lookup x=some c):(k8 n names cl).lookup x=some c:=by have e:=lW names n [] cl;rw[vc]at e;rw[e,zt,h];rfl
theorem a1e:∀ a n(b:T0f){x:Str}{c:Addr},(x,c)∈k8 n a b->(x,c)∈b\/(x,vm)∈a
 |[],_,_,_,_,h=>.inl h|(y,k)::r,n,b,x,c,h=>by
  unfold k8 at h;split at h
  ·rename_i e;have d:k=.cell:=by simpa using e
   rcases a1e r (n+1) ((y,n)::b) h with z|z
   ·obtain z|z:=qM.mp z;·cases z;subst d;exact .inr qa
    ·exact .inl z
   ·exact .inr (qF _ z)
  ·obtain z|z:=a1e r n b h;·exact .inl z
   ·exact .inr (qF _ z)
def b9P{cl:T0f}{a:Env}{Q:Env->Shared->Prop}(e:Q (newEnv scope s.heap.objs.size globals (k8 (s.heap.objs.size+1) scope.names cl) qual none .none (some a) ua) {s with heap:=QO (s.heap.push {cls:=.type "dict",data:=.dict #[]}) scope.names}):wpAny M A (y3 scope globals cl [] qual none .none (some a)) Q E s:=by simp only[y3,Option.isSome_some,if_true];refine j0 (wpAny_alloc ?_);refine j0 (wpAny_layCells _ (λc kind b=>by cases d:kind==vm<;>rfl) _ _ _ _ ?_);rw[show({s with heap:=s.heap.push {cls:=.type "dict",data:=.dict #[]}}:Shared).heap.objs.size=s.heap.objs.size+1 from jW ..];exact j0 (j3 (j3 e))
structure Blk(X:Cx)(scope:Scope)(N':T0q)(cap:T0e):Prop where
 kind:scope.kind=.function
 cells:∀y∈scope.names,y.2=.cell->scope.names.lookup y.1=some .cell
 names:∀y∈scope.names,y.2=.local->scope.names.lookup y.1=some .local
 free:∀y∈scope.names,y.2=.free->X.env.kindOf y.1=some .cell
 caps:∀(i j:Nat),cap[i]?=some (some j)->∃x,N'[i]?=some x/\X.N[j]?=some x/\scope.names.lookup x=some .free
 len:cap.length=N'.length
 nd:N'.Nodup
noncomputable def gA(cap:T0e)(U:St):St:=cap.map λo=>match o with|some j=>(U[j]?).getD none|none=>none
def cB(X:Cx)(scope:Scope)(N':T0q)(C:Addr)(s3z:Shared)(H3z:Hp)(fp:T0o):Cx:={X with env:=QM scope (k8 (C+1) scope.names (a1b scope X.env)) C X.env,N:=N',s₀:=s3z,H₀:=H3z,outer:=X.stack,ex:=fp,fn:=λx=>decide (scope.names.lookup x=some .cell),pn:=[],xe:=λ_ _=>False}
def b9O{m':T0d}(A:Blk X scope N' cap)(I:Inv X pz U H s)(N:∀b∈fp,a1i X pz H b)(F:∀b∈fp,b<s.heap.objs.size)(hn:h'.Ns s.heap.objs.size m')(M:U9 s.heap h')(ow:CellsOk h' (s.heap.objs.size+1) (k8 (s.heap.objs.size+1) scope.names [])):Inv (cB X scope N' s.heap.objs.size s H fp) [] (gA cap U) H {s with heap:=h',toks:=tk}:=by
 have cl:∀x c,(a1b scope X.env).lookup x=some c->X.env.cells.lookup x=some c:=λx c h=>a6C h;have E:∀x c,X.env.cells.lookup x=some c->c<s.heap.objs.size:=λx c e=>by obtain⟨v,q⟩:=I.cell x c e;exact q.lt
 have own:∀x c,(k8 (s.heap.objs.size+1) scope.names []).lookup x=some c->h'.IsCell c none/\s.heap.objs.size<c:=λx c e=>by obtain⟨D,C⟩:=ow.empty x c (qo e);exact⟨D,qU (zF _) C⟩
 refine⟨⟨I.ok.mod,A.kind,I.ok.glob,I.ok.blt,qQ _,?_,?_,?_,I.ok.hd,I.ok.frames,.inl rfl,?_,I.bs,qg I.ok.bsz I.sz,?_,?_,I.stack,I.stkFree⟩,rfl,I.bare,Un.kept M,⟨m',hn,?_⟩,?_,I.hok.fresh (qQ _),?_,?_,I.hok.kept M,?_⟩
 ·intro x y c B h2;obtain L|⟨_,L⟩:=gO _ _ _ B<;>obtain K|⟨_,K⟩:=gO _ _ _ h2;·exact name_of_addr ow.apart (qo L) (qo K)
  ·exact absurd (E y c (cl y c K)) (wQ (own x c L).2)
  ·exact absurd (E x c (cl x c L)) (wQ (own y c K).2)
  ·exact I.ok.inj x y c (cl x c L) (cl y c K)
 ·intro x w;have w:=w;have Q:∃k,(relabel scope X.env).names.lookup x=some k/\(k=.cell\/k=.free):=by
   obtain h|h:=w;·exact⟨_,h,.inl rfl⟩
   ·exact⟨_,h,.inr rfl⟩
  obtain⟨k,hk1,T⟩:=Q;obtain⟨⟨n,R⟩,S,G⟩:=qK.mp (qo hk1);have fr:(R=.free\/R=.cell)/\n=x:=by
   dsimp only at G;by_cases g:(R==kh&&X.env.scope.kind==.function&&X.env.kindOf n==some .cell)=true;·rw[if_pos g]at G;cases G;simp only[qE]at g;exact⟨.inl (by simpa using g.1.1),rfl⟩
   ·rw[if_neg g]at G;cases G;obtain z|z:=T;·exact⟨.inr z,rfl⟩
    ·exact⟨.inl z,rfl⟩
  obtain⟨hk0,rfl⟩:=fr;obtain rfl|rfl:=hk0;·obtain⟨c,e⟩:=I.ok.has n (.inl (A.free _ S rfl));exact a8p _ _ _ (yT S e)
  ·obtain⟨c,e⟩:=yU (sc:=scope) (n:=s.heap.objs.size+1) (A.cells _ S rfl);exact⟨c,a8r _ _ _ e⟩
 ·intro x c w e;have w:=of_decide_eq_true w;obtain e|⟨n0,_⟩:=gO _ _ _ e;·exact jP (own x c e).2
  ·obtain⟨d,q⟩:=yU (sc:=scope) (n:=s.heap.objs.size+1) w;rw[q]at n0;cases n0
 ·intro b t;refine⟨qW (F b t),λx c e=>?_⟩;obtain e|⟨_,e⟩:=gO _ _ _ e;·exactλz=>absurd (F b t) (wQ (by rw[<-z];exact(own x c e).2))
  ·exact(N b t).2.2.2.2.1 x c (cl x c e)
 ·intro b o e t;rcases(N b t).2.2.2.1 with z|z;·exact I.ok.noex b o e z
  ·exact absurd (qU (qN e) (qg I.ok.bsz z)) (ji _)
 ·intro b t hfs;rcases qM.mp (I.stkSub b hfs)with z|z;·exact(N b t).2.1 z
  ·exact(N b t).2.2.1 z
 ·intro i x v e1 f _;have e1:N'[i]?=some x:=e1;have f:=f;unfold gA at f;rw[qO]at f;cases g:cap[i]? with|none=>rw[g]at f;cases f|some o=>rw[g]at f;cases o with|none=>cases f|some j=>
    have P:(U[j]?).getD none=some v:=qA f;have e4:U[j]?=some (some v):=by cases q:U[j]? with|none=>rw[q]at P;cases P|some w'=>rw[q]at P;have:w'=some v:=P;rw[this]
    obtain⟨y,B,h2,J⟩:=A.caps i j g;rw[e1]at B;cases B;have a:=A.free _ (qo J) rfl;obtain⟨m,_,hl⟩:=I.loc;obtain⟨u,r,l⟩:=hl j x v h2 e4 (.inr (.inl a));refine⟨u,r,?_⟩;obtain⟨k,_⟩|⟨_,c,e,z⟩:=l;·rw[a]at k;cases k
    ·refine .inr ⟨.inl ?_,c,a8q _ _ _ ?_ (yT (qo J) e),?_⟩;·exact lI I.ok.kind J a
     ·cases q:(k8 (s.heap.objs.size+1) scope.names []).lookup x with|none=>rfl|some d=>
       rcases a1e _ _ _ (qo q)with z|z;·cases z
       ·rw[A.cells _ z rfl]at J;cases J
     ·obtain⟨o,D,C⟩:=z;exact⟨o,M c o D,C⟩
 ·intro x c e;obtain e|⟨_,e⟩:=gO _ _ _ e;·exact⟨none,(own x c e).1⟩
  ·obtain⟨v,o,D,C⟩:=I.cell x c (cl x c e);exact⟨v,o,M c o D,C⟩
 ·intro x c e;obtain e|⟨_,e⟩:=gO _ _ _ e;·exact I.hok.fresh (jP (own x c e).2)
  ·exact I.freeC x c (cl x c e)
 ·intro p hp;exact absurd (show p∈([]:T0b)from hp) (by simp)
 ·unfold gA;rw[qD];exact A.len
def PTs(X:Cx)(ifs:T0n)(t:TT):Prop:=∀ pz s(U:St) H Q,Inv X pz U H s->t U H Q->wpAny (model X.prog X.w) X.A (forIn ifs true λc r=>if r=true then do let ok<-isTrue c X.env (eval c X.env);pure (ForInStep.yield ok)else pure (ForInStep.yield r)) (TP X pz U Q) X.xe s
noncomputable def c5h:TT:=λ_ H Q=>Q true H
def b7Q:PTs X [] c5h:=λ_ _ _ H _ I h=>wpAny_tests_nil ⟨H,I,h⟩
def b7P{c:Expr}{t:TT}(h:PT X c t):PTs X [c] t:=λa s U H Q I b=>wpAny_tests_one (h a s U H Q I b)
def uX(J:It)(g:TG)(tc:TT)(te:TE)(σ0:St)(H:Hp)(Q:VK):Prop:=∃W:Addr->Nat->Nat->List V->St->Hp->Prop,∀D,H D=none->(∃m,W D 0 m [] σ0 (upd H D (.lst [])))/\∀i m ys σ1 H1,W D i m ys σ1 H1->H1 D=some (.lst ys)->(J.stop i H1/\Q (.ref D) H1)\/(J.go i H1/\∀x H2,J.yld i H1 x H2->g x σ1 H2 λσ3 H3=>tc σ3 H3 λb H4=>if b=true then te σ3 H4 λv H5=>H5 D=some (.lst ys)/\ys.length<j5/\∃m',m'<m/\W D (i+1) m' (ys++[v]) σ3 (upd H5 D (.lst (ys++[v])))else H4 D=some (.lst ys)/\∃m',m'<m/\W D (i+1) m' ys σ3 H4)
variable{tn:Nat->Heap->Prop}{g:TG}{Q:VK}
def a5e(XE:Addr->Shared->Hp->List Addr->Value->Shared->Prop){cap:T0e}{RR:Value->Addr->Result->Shared->Prop}(hc:X.calm=true)(B0:Blk X scope N' cap)(I:Inv X pz U H s)(T:Turn X.prog X.w X.K tg J fp it tn)(st:tn 0 s.heap)(hf:∀b∈fp,a1i X pz H b)(hg:∀C a j fp,PG (cB X scope N' C a j fp) tg g)(ht:∀C a j fp,PTs (cB X scope N' C a j fp) ifs tc)(he:∀C a j fp,PE ((cB X scope N' C a j fp).wish (XE C a j fp)) elt te)(w:uX J g tc te (gA cap U) H Q)(hx:∀D a j e s',Inv X pz U j a->(∀b∈fp,a1i X pz j b)->H D=none->j=upd H D (.lst [])->s.heap.objs.size<=a.heap.objs.size->XE a.heap.objs.size a j fp e s'->notedBy (model X.prog X.w) X.A (QM scope (k8 (a.heap.objs.size+1) scope.names (a1b scope X.env)) a.heap.objs.size X.env) (λx s'=>RR (.ref D) a.heap.objs.size (.error x) s') e s')(fin:∀D C s' H' N,s.heap.get? C=none->s.heap.objs.size<=C->s'.heap.Ns C N->H' C=none->Inv X pz U H' s'->Q (.ref D) H'->RR (.ref D) C (.ok .next) s'):wpAny (model X.prog X.w) X.A (newList []) (λacc a=>wpAny (model X.prog X.w) X.A (y3 scope X.env.globals (a1b scope X.env) [] X.env.qual none .none (some X.env)) (λG s4z=>G.frame=X.env.frame/\wn (model X.prog X.w) X.A (.compStart (.ListComp elt [⟨tg,iter,ifs,0⟩] scope pos) 0 (.ref it) acc {G with scope:=relabel scope X.env}) (RR acc G.locals) s4z) X.xe a) X.xe s:=by
 refine k9 (b9P ?_);obtain⟨W,hW⟩:=w;have hD:=I.hok.fresh (qQ _);obtain⟨⟨m0,w0⟩,turn⟩:=hW s.heap.objs.size hD;have I3:=I.lnew (its:=[]) (ys:=[]) (t':=s.toks) .nil (qx _);generalize hH2:s.heap.push {cls:=.type "list",dict:=none,data:=.seq ([]:T0m).toArray}=H2 at I3⊢;have hC:H2.objs.size=s.heap.objs.size+1:=by rw[<-hH2,jW]
 have lt3:∀b∈fp,b<s.heap.objs.size:=λb f=>by obtain⟨o,e,_⟩:=T.obj 0 _ st b f;exact qN e
 have M:∀b∈fp,a1i X pz (upd H s.heap.objs.size (.lst [])) b:=λb f=>by refine⟨?_,(hf b f).2⟩;rw[aE (qW (lt3 b f))];exact(hf b f).1
 have ow:CellsOk (QO (H2.push {cls:=.type "dict",data:=.dict #[]}) scope.names) (H2.objs.size+1) (k8 (H2.objs.size+1) scope.names []):=by have ok:=cellsFrom_ok scope.names (H2.push {cls:=.type "dict",data:=.dict #[]}) (H2.objs.size+1) [] ⟨λ_ _ hm=>(nomatch hm),List.Pairwise.nil⟩ (by rw[jW];exact qQ _);rwa[jW]at ok
 have R:(QO (H2.push {cls:=.type "dict",data:=.dict #[]}) scope.names).Ns H2.objs.size λ_=>none:=(Heap.Ns.new H2 (.type "dict")).keeps (pushCells_keeps _ _);have keep:∀b o,H2.get? b=some o->(QO (H2.push {cls:=.type "dict",data:=.dict #[]}) scope.names).get? b=some o:=λb o e=>pushCells_keeps _ _ b o (qC _ e);generalize QO (H2.push {cls:=.type "dict",data:=.dict #[]}) scope.names=h1z at ow R keep⊢;have I4:Inv (cB X scope N' H2.objs.size {s with heap:=H2} (upd H s.heap.objs.size (.lst [])) fp) [] (gA cap U) (upd H s.heap.objs.size (.lst [])) {s with heap:=h1z}:=b9O (s:={s with heap:=H2}) B0 I3 M (λb f=>by rw[hC];exact jn (lt3 b f)) R keep ow;have st4:=T.keep 0 _ _ st λb f o e=>keep b o (by rw[<-hH2];exact qC _ e);have P:∀s5z:Shared,s5z={s with heap:=h1z}->wn (model X.prog X.w) X.A (.compLoop (.ListComp elt [⟨tg,iter,ifs,0⟩] scope pos) 0 (.ref it) (.ref s.heap.objs.size) (QM scope (k8 (H2.objs.size+1) scope.names (a1b scope X.env)) H2.objs.size X.env))
    (RR (.ref s.heap.objs.size) H2.objs.size) s5z:=by
  rintro s5z rfl;refine codeAny_loop rfl (λn s'=>∃i ys k H',Inv (cB X scope N' H2.objs.size {s with heap:=H2} (upd H s.heap.objs.size (.lst [])) fp) [] k H' s'/\tn i s'.heap/\(∀b∈fp,H' b=none)/\H' s.heap.objs.size=some (.lst ys)/\W s.heap.objs.size i n ys k H') ?_ m0
   ⟨0,[],_,_,I4,st4,λb f=>(M b f).1,aJ,w0⟩;rintro n s6⟨i,ys,σ6,H6,I6,st6,fr6,hD6,w6⟩;refine wpAny_noted ?_;rw[compTurn_list];have A:∀{H':Hp},(∀b∈fp,H' b=none)->∀b∈fp,a1i (cB X scope N' H2.objs.size {s with heap:=H2} (upd H s.heap.objs.size (.lst [])) fp) [] H' b:=λhn b f=>⟨hn b f,qW (by rw[hC];exact jn (lt3 b f)),I4.ok.exfs b f,.inl f,λx c e=>(I4.ok.exf b f).2 x c e,λp hp=>absurd (show p∈([]:T0b)from hp) (by simp)⟩;obtain⟨stop,qn⟩|⟨go,step⟩:=turn i n ys σ6 H6 w6 hD6
  ·refine j0 (ui (j0 (thn (T.done (cB X scope N' H2.objs.size {s with heap:=H2} (upd H s.heap.objs.size (.lst [])) fp) rfl rfl rfl hc i [] s6 _ H6 _ I6 (A fr6) st6 stop) ?_)));rintro r s7⟨hr,I7⟩;subst hr;refine j3 ?_;obtain⟨m7,hn7,_⟩:=I7.loc;refine fin _ _ s7 H6 m7 ?_ ?_ hn7 I7.free ?_ qn;·exact zL (by rw[hC];exact kj _)
   ·rw[hC];exact kj _
   ·refine I3.call' (ch:=fp) ?_ ?_ I7.hok I7.bare λb f=>?_;·exact I7.os
    ·exact I7.base
    ·obtain⟨f0,f1,f2,f3,f4,f5⟩:=M b f;exact⟨f3,f1,f4,f5⟩
  ·refine j0 (ui (j0 (thn (T.item (cB X scope N' H2.objs.size {s with heap:=H2} (upd H s.heap.objs.size (.lst [])) fp) rfl rfl rfl hc i [] s6 _ H6 _ I6 (A fr6) st6 go) ?_)));rintro r s7⟨u,hr,h7⟩;subst hr;refine j0 (thn h7 ?_);rintro _ s8⟨x,H8,I8,r8,y8,st8,fr8⟩;have I8':=I8.pinned (A fr8) (T.obj _ _ st8);have bad:∀{α:Type}{t:Sem α}{Q':α->Shared->Prop}{s':Shared}{E:T0a},wpAny (model X.prog X.w) X.A t Q' (λ_ _=>False) s'->wpAny (model X.prog X.w) X.A t Q' E s':=λh=>v3 h (λ_ _ q=>q) λ_ _ z=>z.elim;refine j0 (bad (thn (hg _ _ _ _ _ s8 _ H8 x u _ I8' r8 (step x H8 y8)) ?_));rintro _ s9⟨S,H9,I9,q9⟩;refine j0 (bad (thn (ht _ _ _ _ _ s9 S H9 _ I9 q9) ?_));rintro ok s10⟨H10,I10,q10⟩;have K:∀{k:St}{H':Hp}{L:List V}{s':Shared}{N:Nat},Inv (cB X scope N' H2.objs.size {s with heap:=H2} (upd H s.heap.objs.size (.lst [])) fp) ([]++a2K fp s8.heap) k H' s'->H' s.heap.objs.size=some (.lst L)->N<n->W s.heap.objs.size (i+1) N L k H'->∃m,m<n/\∃i ys k H',Inv (cB X scope N' H2.objs.size {s with heap:=H2} (upd H s.heap.objs.size (.lst [])) fp) [] k H' s'/\tn i s'.heap/\(∀b∈fp,H' b=none)/\H' s.heap.objs.size=some (.lst ys)/\W s.heap.objs.size i m ys k H':=λ{k H' L s' N}J' hD' F w'=>by refine⟨N,F,i+1,L,k,H',J'.unpinned,T.keep _ _ _ st8 λb f o e=>(J'.pin (b,o) (qb _ (qb _ (pP f e)))).1,λb f=>?_,hD',w'⟩;obtain⟨o,e,d⟩:=T.obj _ _ st8 b f;exact(J'.pin (b,o) (qb _ (qb _ (pP f e)))).2.1
   cases ok with|false=>obtain⟨hD10,N,F,w'⟩:=q10;exact j3 ⟨rfl,K I10 hD10 F w'⟩|true=>refine j0 (j0 (v3 (he _ _ _ _ _ s10 S H10 _ (I10.wish _) q10) (?_) λe s' z=>hx _ {s with heap:=H2} _ e s' I3 M hD rfl (by rw[hC];exact kj _) z));rintro y s11⟨v,H11,I11w,r11,hD11,hlen,N,F,w'⟩;have I11:=I11w.unwish;refine j0 (bad<|thn (a0E (X:=cB X scope N' H2.objs.size {s with heap:=H2} (upd H s.heap.objs.size (.lst [])) fp) _ s11 S H11 (.ref s.heap.objs.size) [v] (.ref s.heap.objs.size) [y] (λ_ H'=>H'=upd H11 s.heap.objs.size (.lst (ys++[v]))) I11 rfl (.cons r11 .nil) ⟨_,_,_,rfl,rfl,hD11,hlen,rfl⟩) ?_);rintro _ s12⟨_,H12,I12,_,e12⟩;subst e12;exact j3 (j3 ⟨rfl,K I12 aJ F w'⟩)
 exact⟨rfl,codeAny_compStart_list (P _ rfl) (T.self _ 0 _ _ _ st4 (P _ rfl))⟩
def a8m{RR:Value->Addr->Result->Shared->Prop}(r:X.calm=true)(t:Blk X scope N' cap)(I:Inv X pz U H s)(T:Turn X.prog X.w X.K tg J fp it tn)(st:tn 0 s.heap)(p:∀b∈fp,a1i X pz H b)(o:∀C a c fp,PG (cB X scope N' C a c fp) tg g)(k:∀C a c fp,PTs (cB X scope N' C a c fp) ifs tc)(q:∀C a c fp,PE (cB X scope N' C a c fp) elt te)(w:uX J g tc te (gA cap U) H Q)(i:∀D C s' H' j,s.heap.get? C=none->s.heap.objs.size<=C->s'.heap.Ns C j->H' C=none->Inv X pz U H' s'->Q (.ref D) H'->RR (.ref D) C (.ok .next) s'):wpAny (model X.prog X.w) X.A (newList []) (λe a=>wpAny (model X.prog X.w) X.A (y3 scope X.env.globals (a1b scope X.env) [] X.env.qual none .none (some X.env)) (λd f=>wn (model X.prog X.w) X.A (.compStart (.ListComp elt [⟨tg,iter,ifs,0⟩] scope pos) 0 (.ref it) e {d with scope:=relabel scope X.env}) (RR e d.locals) f) X.xe a) X.xe s:=v3 (a5e (λ_ _ _ _ _ _=>False) r t I T st p o k q w (λ_ _ _ _ _ _ _ _ _ _ z=>z.elim) i) (λ_ _ h=>v3 h (λ_ _ z=>z.2) λ_ _ z=>z) λ_ _ z=>z
def c0a(wi:TI)(cap:T0e)(g:TG)(tc:TT)(te:TE):TE:=λU H Q=>wi U H λJ H1=>uX J g tc te (gA cap U) H1 Q
section
variable{cap:T0e}
def a5R(S:X.calm=true)(k:Blk X scope N' cap)(N:PI X tg iter wi)(P:∀C a d fp,PG (cB X scope N' C a d fp) tg g)(K:∀C a d fp,PTs (cB X scope N' C a d fp) ifs tc)(R:∀C a d fp,PE (cB X scope N' C a d fp) elt te)(hs:∀x,v6 iter X.env x=pure x:=by intro _;rfl):PE X (.ListComp elt [⟨tg,iter,ifs,0⟩] scope pos) (c0a wi cap g tc te):=by
 intro A s U H Q I h;rw[eval_ListComp];refine wpAny_comprehension_free (use:=none) rfl hs (lQ λp t M=>I.ok.has p.1 (.inl (k.free p t M))) k.kind k.names ?_;refine thn (N A s U H _ I h) ?_;rintro v s1 B;refine thn B ?_;rintro G s2⟨it,fp,tn,J,H2,e,j,T,r,f2,w⟩;subst e;refine a8m (RR:=λy C=>compPost (model X.prog X.w) X.A X.xe none (EP X A U Q) y C) S k j T r f2 P K R w ?_;intro D C E H' F hC i L u I' q;refine⟨F,L,λh'' f=>⟨.ref D,H',?_,rfl,q⟩⟩;refine I'.turned (t':=E.toks) (it:=C) (λb o hb e=>f.extBut b o hb e) u ?_ (.inr (qg j.sz i)) ?_ ?_;·exact kJ (qU j.lt i)
 ·intro x c e z;obtain⟨v,q⟩:=j.cell x c e;exact absurd (qU q.lt (by rwa[z])) (ji _)
 ·intro p t z;exact absurd (qU (qN (j.pin p t).1) (by rwa[z])) (ji _)
def b0H(hN:X.N.Nodup)(F:X.N[i]?=some x)(hx:X.env.scope.names.lookup x=some .local)(hc:X.calm=true)(u:Blk X scope N' cap)(hi:PI X tg iter wi)(hg:∀C d f fp,PG (cB X scope N' C d f fp) tg g)(ht:∀C d f fp,PTs (cB X scope N' C d f fp) ifs tc)(he:∀C d f fp,PE (cB X scope N' C d f fp) elt te)(G:wb (.ListComp elt [⟨tg,iter,ifs,0⟩] scope pos) (some (.Name x pos')) spos.line X.env=pure true)(hs:∀x,v6 iter X.env x=pure x:=by intro _;rfl):PS X (.Assign [.Name x pos'] (.ListComp elt [⟨tg,iter,ifs,0⟩] scope pos) spos) (c0V (c0a wi cap g tc te) (b5X i)):=by
 intro E s U H R I h;rw[exec_Assign_Name_used _ _ _ _ G];refine j0 (ui (j0 ?_));refine j0 (v3 (wpAny_comprehension_free (use:=some (assign (.Name x pos') X.env)) (Q:=λ_ j=>SP X E R .next j) rfl hs (lQ λp L hk=>I.ok.has p.1 (.inl (u.free p L hk))) u.kind u.names ?_) (λ_ j hq=>j3 (j3 hq)) λ_ _ e=>e);refine thn (hi E s U H _ I h) ?_;rintro v s1 B;refine thn B ?_;rintro itv s2⟨it,fp,tn,J,H2,e,t,T,A,f2,w⟩;subst e;refine a8m (RR:=λN C=>compPost (model X.prog X.w) X.A X.xe (some (assign (.Name x pos') X.env)) (λ_ j=>SP X E R .next j) N C) hc u t T A f2 hg ht he w ?_;intro D C j H' m' hC r hn M I' q;have nL:=kJ (qU t.lt r);have P:∀y c,X.env.cells.lookup y=some c->c≠C:=λy c e z=>by obtain⟨v,q⟩:=t.cell y c e;exact absurd (qU q.lt (by rwa[z])) (ji _)
 refine wpAny_assign_Name (a4s (v:=.ref D) I' hN F (.inl hx) rfl (?_) (.inr hx));rintro S I3⟨a,K,ha⟩;have ne:C≠a:=by
  obtain z|z:=ha;·rwa[z]
  ·exactλy=>P x a z y.symm
 refine⟨m',hn.sameBut K ne,λh'' k=>⟨_,H',?_,q⟩⟩;refine I3.turned (t':=S.toks) (it:=C) (λb o hb e=>k.extBut b o hb e) M nL (.inr (qg t.sz r)) P ?_;intro p L z;exact absurd (qU (qN (t.pin p L).1) (by rwa[z])) (ji _)
end
end L2
namespace L2.L3
open PySem PySem.Spec PyProof.Rows PySem.W
noncomputable def eW(K:Frag)(c:Str):Option Addr:=match nsIn K j7 c with|some (some (.ref C))=>some C|_=>none
def a6v{K:Frag}{c:Str}(h:eW K c=some C):nsIn K j7 c=some (some (.ref C)):=by
 unfold eW at h;split at h;·rename_i e;cases h;exact e
 ·cases h
structure ExO(h:Heap)(a C:Addr)(ox:Obj):Prop where
 at_:h.get? a=some ox
 cls:ox.cls=.ref C
theorem ExO.type(I:ExO h a C ox):Looks M h (typeOf (.ref a)) (.ref C):=I.cls▸(Looks.ld I.at_).andThen .now
end L2.L3
namespace L2.L3
open PySem PySem.Spec PyProof.Rows
noncomputable def cD:Key->q8|.inl i=>.int i|.inr x=>.str x
mutual inductive Rep(K:qB)(G:Hp):V->q8->Prop|none:Rep K G .non .none|bool(b:Bool):Rep K G (.bl b) (.bool b)|int(i:Int):Rep K G (.int i) (.int i)|str(x:Str):Rep K G (.str x) (.str x)|list{a:Addr}{Y:List V}{O:T0l}:SqL K G a Y->RepAll K G Y O->Rep K G (.ref a) (.list O)|tuple{a:Addr}{Y:List V}{O:T0l}:SqT K G a Y->RepAll K G Y O->Rep K G (.ref a) (.tuple O)|dict{a:Addr}{kvs:List (Key×V)}{D:List (q8×q8)}:Rd G a (.dK kvs)->D.map (·.1)=kvs.map (λp=>cD p.1)->RepAll K G (kvs.map (·.2)) (D.map (·.2))->Rep K G (.ref a) (.dict D)inductive RepAll(K:qB)(G:Hp):List V->List q8->Prop|nil:RepAll K G [] []|cons{v:V}{vs:List V}{d:q8}{O:T0l}:Rep K G v d->RepAll K G vs O->RepAll K G (v::vs) (d::O)end
variable{u:HO}
theorem nD{a:Addr}(e:aT H H')(h:Rd H a u):Rd H' a u:=h.imp (e _ _) (by rintro ⟨o,h⟩;exact⟨o,e _ _ h⟩)
theorem rV{K:qB}{a:Addr}(e:aT H H')(h:SqT K H a Y):SqT K H' a Y:=by
 obtain(h|⟨o,h⟩)|h:=h;·exact .inl (.inl (e _ _ h))
 ·exact .inl (.inr ⟨o,e _ _ h⟩)
 ·exact .inr h
variable{vs:List V}{ns:List Int}
section
variable{K:qB}
mutual theorem Rep.mono(s:aT G G'):∀{v:V}{d:q8},Rep K G v d->Rep K G' v d|_,_,.none=>.none|_,_,.bool b=>.bool b|_,_,.int i=>.int i|_,_,.str x=>.str x|_,_,.list h r=>.list (s.seq h) (RepAll.mono s r)|_,_,.tuple h r=>.tuple (rV s h) (RepAll.mono s r)|_,_,.dict h e r=>.dict (nD s h) e (RepAll.mono s r)theorem RepAll.mono(s:aT G G'):∀{vs:List V}{O:T0l},RepAll K G vs O->RepAll K G' vs O|_,_,.nil=>.nil|_,_,.cons r t=>.cons (Rep.mono s r) (RepAll.mono s t)end
theorem RepAll.length:∀{vs:List V}{O:T0l},RepAll K G vs O->vs.length=O.length|_,_,.nil=>rfl|_,_,.cons _ t=>by simp[RepAll.length t]
theorem RepAll.get:∀{vs:List V}{O:T0l}{i:Nat}{d:q8},RepAll K G vs O->O[i]?=some d->∃v,vs[i]?=some v/\Rep K G v d|_,_,_,_,.nil,e=>by simp at e|_,_,0,_,.cons r _,e=>by simp at e;subst e;exact⟨_,rfl,r⟩|_,_,i+1,d,.cons _ t,e=>by obtain⟨u,B,a⟩:=RepAll.get (i:=i) (d:=d) t (by simpa using e);exact⟨u,by simpa using B,a⟩
theorem RepAll.append:∀{vs a:List V}{O es:T0l},RepAll K G vs O->RepAll K G a es->RepAll K G (vs++a) (O++es)|_,_,_,_,.nil,h=>h|_,_,_,_,.cons r t,h=>.cons r (RepAll.append t h)
theorem RepAll.take:∀{vs:List V}{O:T0l} n,RepAll K G vs O->RepAll K G (vs.take n) (O.take n)|_,_,0,_=>.nil|_,_,_+1,.nil=>.nil|_,_,n+1,.cons r t=>.cons r (RepAll.take n t)
theorem RepAll.drop:∀{vs:List V}{O:T0l} n,RepAll K G vs O->RepAll K G (vs.drop n) (O.drop n)|_,_,0,r=>r|_,_,_+1,.nil=>.nil|_,_,n+1,.cons _ t=>RepAll.drop n t
theorem RepAll.maps{b:Type}{f:b->q8}{g:b->V}(h:∀{v a:_},Rep K G v (f a)->v=g a){ns:List b}(r:RepAll K G vs (ns.map f)):vs=ns.map g:=by induction ns generalizing vs with|nil=>cases r;rfl|cons a ns c=>cases r with|cons x y=>rw[h x,c y];rfl
theorem RepAll.ints(r:RepAll K G vs (ns.map .int)):vs=ns.map V.int:=r.maps λr=>by cases r;rfl
theorem RepAll.strs{ns:T0q}(r:RepAll K G vs (ns.map .str)):vs=ns.map V.str:=r.maps λr=>by cases r;rfl
theorem RepAll.bools{ns:List Bool}(r:RepAll K G vs (ns.map .bool)):vs=ns.map V.bl:=r.maps λr=>by cases r;rfl
end
theorem yJ:∀{kvs:List (Key×V)}{vs:List (Key×Value)},KV kvs vs->kvs.map (·.1)=vs.map (·.1)/\bH (kvs.map (·.2)) (vs.map (·.2))|_,_,.nil=>⟨rfl,.nil⟩|_,_,.cons h t=>by obtain⟨a,b⟩:=yJ t;exact⟨by rw[qI,qI,a,h.1],.cons h.2 b⟩
theorem a1r{h:Heap}:∀{es:List DictEntry}{vs:List (Key×Value)},Pairs (bI P w) es vs->(∃as,yb h (es.map (·.key)) (vs.map λp=>cD p.1) as)/\es.map (·.val)=vs.map (·.2)
 |_,_,.nil=>⟨⟨_,.nil⟩,rfl⟩|e::es,kv::vs,.cons hk hv t=>by
  obtain⟨⟨as,a⟩,b⟩:=a1r (h:=h) t;refine⟨?_,by rw[qI,qI,b,hv]⟩;rcases dA (show a1B kv.1 e.key=true from hk)with⟨i,t,e1,e2⟩|⟨x,t,e1,e2⟩;·refine⟨_,.cons (as:=[]) (by dsimp only;rw[e1,e2];exact .int i t) a⟩
  ·refine⟨_,.cons (as:=[]) (by dsimp only;rw[e1,e2];exact .str x t) a⟩
section
mutual theorem Rep.reads(I:Inv X pz U H s):∀{v:V}{d:q8}{u:Value},Rep X.K H v d->RelV v u->∃as,Reads s.heap u d as|_,_,_,.none,r=>by cases r;exact⟨_,.none⟩|_,_,_,.bool b,r=>by cases r;exact⟨_,.bool b⟩|_,_,_,.int i,r=>by obtain⟨t,rfl⟩:=r;exact⟨_,.int i t⟩|_,_,_,.str x,r=>by obtain⟨t,rfl⟩:=r;exact⟨_,.str x t⟩|_,_,_,.list h q,r=>by cases r;obtain⟨its,rv,⟨o,n,e,hc,_,hd⟩,_⟩:=I.list h;obtain⟨as,z⟩:=RepAll.reads I q rv;exact⟨_,.list e hc hd (by simpa using z)⟩|_,_,_,.tuple h q,r=>by cases r;obtain⟨its,rv,⟨o,e,hc,n,hd⟩,_⟩:=I.tuple h;obtain⟨as,z⟩:=RepAll.reads I q rv;exact⟨_,.tuple e hc hd (by simpa using z)⟩|_,_,_,.dict h e0 q,r=>by cases r;obtain⟨hz,hS,vs,kv,o,es,ep,e,hex,hd,_,hp,_⟩:=h.ok I.hok;obtain⟨a1,a2⟩:=yJ kv;obtain⟨⟨as,b1⟩,b2⟩:=a1r (h:=s.heap) hp;obtain⟨bs,z⟩:=RepAll.reads I q a2;refine⟨_,.dict e hex.1 hd (as:=as) (bs:=bs) ?_ (by rw[b2];exact z)⟩;rw[e0,show(λp:Key×V=>cD p.1)=cD∘(·.1)from rfl,<-qc,a1,qc];exact b1 theorem RepAll.reads(I:Inv X pz U H s):∀{vs:List V}{O:T0l}{us:T0m},RepAll X.K H vs O->bH vs us->∃as,yb s.heap us O as|_,_,_,.nil,.nil=>⟨_,.nil⟩|_,_,_,.cons r t,.cons q w=>by obtain⟨as,a⟩:=Rep.reads I r q;obtain⟨bs,b⟩:=RepAll.reads I t w;exact⟨_,.cons a b⟩end
end
noncomputable def fG:List Str:=["in_ending_order","in_laying_order","_law_did","by_heads","best_choice"]
noncomputable def lamQ(x:Str):Str:=x++".<locals>."++"<lambda>"
noncomputable def cdO(c:Addr)(q:Str):HO:=.ext λh=>h.CodeRec (.ref c) q
def Tab(P:Addr)(q:Str)(H:Hp):Prop:=∃ps,H P=some (.tbl (q,ps))/\ur ps.toList/\∀pos cv,u9 pos ps.toList=some cv->∃c,cv=.ref c/\H c=some (cdO c q)
def NoT(G:Hp):Prop:=∀b ps,G b≠some (.tbl ps)
def iX(K:qB)(G H:Hp):Prop:=(∀x∈fG,∀c P,kH K x=some (c,P)->Tab P (lamQ x) H)/\NoT G
theorem NoT.upd{a:Addr}{o:HO}(n:NoT G)(h:∀ps,o≠.tbl ps):NoT (L2.upd G a o):=λb ps e=>by
 by_cases c:b=a;·subst c;rw[aJ]at e;cases e;exact h _ rfl
 ·rw[aE c]at e;exact n b ps e
theorem Tab.same{P:Addr}(t:Tab P q H)(s:aT H H'):Tab P q H':=by obtain⟨b,B,f,d⟩:=t;refine⟨b,s _ _ B,f,λa j e=>?_⟩;obtain⟨c,i,g⟩:=d a j e;exact⟨c,i,s _ _ g⟩
variable{o:HO}
theorem Tab.wr{P a:Addr}(t:Tab P q H)(h:H a=some (.lst Y)):Tab P q (upd H a o):=by obtain⟨d,B,g,f⟩:=t;refine⟨d,by rwa[aE (bS B h (by nofun))],g,λb k e=>?_⟩;obtain⟨c,j,i⟩:=f b k e;exact⟨c,j,by rwa[aE (bS i h (by unfold cdO;nofun))]⟩
structure Sm(H H':Hp):Prop where
 keep:∀b o,H b=some o->(∀ps,o≠.tbl ps)->H' b=some o
 tbl:∀b ps,H b=some (.tbl ps)->∃ps',H' b=some (.tbl ps')tab:∀P q,Tab P q H->Tab P q H'
theorem Sm.of(s:aT H H'):Sm H H':=⟨λb o h _=>s b o h,λb a h=>⟨a,s _ _ h⟩,λP q t=>t.same s⟩
theorem Sm.refl H:Sm H H:=.of (.refl _)
theorem Sm.trans(a:Sm H H1)(b:Sm H1 H2):Sm H H2:=⟨λc o h n=>b.keep c o (a.keep c o h n) n,λc d h=>by obtain⟨e,B⟩:=a.tbl c d h;exact b.tbl c e B,λP q t=>b.tab P q (a.tab P q t)⟩
theorem Sm.ne(s:Sm H H'){b:Addr}(h:H b=some o):∃o',H' b=some o':=by cases o with|tbl a=>obtain⟨p,e⟩:=s.tbl b a h;exact⟨_,e⟩|_=>exact⟨_,s.keep b _ h (by nofun)⟩
theorem Sm.free(s:Sm H H'){l:Addr}(h:H' l=none):H l=none:=by cases q:H l with|none=>rfl|some o=>obtain⟨a,e⟩:=s.ne q;rw[h]at e;cases e
theorem Sm.lst(s:Sm H H'){l:Addr}{Y:List V}(h:H l=some (.lst Y)):H' l=some (.lst Y):=s.keep l _ h (by nofun)
theorem Sm.wr(s:Sm H H'){l:Addr}{Y:List V}{o:HO}(a:H l=none)(h:H' l=some (.lst Y)):Sm H (upd H' l o):=⟨λb u e n=>by rw[aE (aK e a)];exact s.keep b u e n,λb c e=>by rw[aE (aK e a)];exact s.tbl b c e,λP q t=>(s.tab P q t).wr h⟩
theorem iX.wr{K:qB}{G H:Hp}{a:Addr}{Y:List V}{o:HO}(t:iX K G H)(h:H a=some (.lst Y)):iX K G (upd H a o):=⟨λx b c P e=>(t.1 x b c P e).wr h,t.2⟩
structure Grow(G H G' H':Hp):Prop where
 gg:aT G G'
 hh:Sm H H'
 sub:aT G' H'
 new:∀a,G a=none->H a≠none->G' a=none
 nt:NoT G->NoT G'
theorem iX.more{K:qB}(t:iX K G H)(g:Grow G H G' H'):iX K G' H':=⟨λx a c P e=>g.hh.tab _ _ (t.1 x a c P e),g.nt t.2⟩
theorem Grow.refl{G H:Hp}(s:aT G H):Grow G H G H:=⟨.refl _,.refl _,s,λ_ e _=>e,id⟩
theorem Grow.trans{G H i f g d:Hp}(a:Grow G H i f)(b:Grow i f g d):Grow G H g d:=⟨a.gg.trans b.gg,a.hh.trans b.hh,b.sub,λc e n=>b.new c (a.new c e n) (λz=>by cases q:H c with|none=>exact n q|some o=>obtain⟨k,j⟩:=a.hh.ne q;rw[j]at z;cases z),λn=>b.nt (a.nt n)⟩
theorem cW{p:Addr}(h:H p=none):aT H (upd H p o):=λb u e=>by rwa[aE (aK e h)]
theorem b2p{p:Addr}(s:aT G H):aT (upd G p o) (upd H p o):=λb u e=>by
 by_cases a:b=p;·subst a;rw[aJ]at e⊢;exact e
 ·rw[aE a]at e⊢;exact s b u e
theorem Grow.put{p:Addr}(s:aT G H)(h:H p=none)(b:∀ps,o≠.tbl ps:=by nofun):Grow G H (upd G p o) (upd H p o):=⟨cW (s.free h),.of (cW h),b2p s,λa e n=>by rwa[aE (λz=>n (by rw[z];exact h))],λn=>n.upd b⟩
theorem Grow.side{p:Addr}(s:aT G H)(h:H p=none):Grow G H G (upd H p o):=⟨.refl _,.of (cW h),s.trans (cW h),λa e _=>e,id⟩
structure BS where
 sh:List (Key×q8)dn:List q8
 un:List q8
noncomputable def iC(K:qB):Addr:=match jA K j7 "Binder"with|some (some (.ref C))=>C|_=>0
noncomputable def bFs(d l1 l2:Addr):List (Str×V):=[("sheets",.ref d),("done",.ref l1),("undone",.ref l2)]
inductive Ent where|no|val(d:q8)|lst(O:T0l)|exc(c:Str)|nst(dss:List (List q8))|dct(kvs:List (Key×q8))|adr(a:Addr)|ro(oa:T0k)(b:BS)
noncomputable def xcO(a C:Addr):HO:=.ext λh=>∃ox,ExO h a C ox
def c6c(K:qB)(H0 G H:Hp)(b:Addr)(O:T0l):Prop:=∃Y,H b=some (.lst Y)/\G b=none/\H0 b=none/\RepAll K G Y O
def eA(K:qB)(G:Hp)(vs:List (Key×V))(kvs:List (Key×q8)):Prop:=vs.map (·.1)=kvs.map (·.1)/\RepAll K G (vs.map (·.2)) (kvs.map (·.2))
theorem eA.mono{K:qB}{G a:Hp}{vs:List (Key×V)}{kvs:List (Key×q8)}(h:eA K G vs kvs)(s:aT G a):eA K a vs kvs:=⟨h.1,h.2.mono s⟩
def BOk(K:qB)(G H:Hp)(a:Addr)(b:BS)(fp:T0o):Prop:=∃dx d l1 l2 vs Y ys,fp=[a,dx,d,l1,l2]/\l1≠l2/\H a=some (.ins (iC K) dx (bFs d l1 l2))/\H dx=some (.own a)/\H d=some (.dK vs)/\H l1=some (.lst Y)/\H l2=some (.lst ys)/\eA K G vs b.sh/\RepAll K G Y b.dn/\RepAll K G ys b.un
theorem BOk.keep{K:qB}{a:Addr}{b:BS}(h:BOk K G H a b fp)(k:∀x o,x∈fp->H x=some o->(∀ps,o≠.tbl ps)->H' x=some o)(s:aT G G'):BOk K G' H' a b fp:=by obtain⟨v,d,p,j,e,Y,c,rfl,n,B,u,t,r,q,i,g,f⟩:=h;exact⟨v,d,p,j,e,Y,c,rfl,n,k _ _ (by simp) B (by nofun),k _ _ (by simp) u (by nofun),k _ _ (by simp) t (by nofun),k _ _ (by simp) r (by nofun),k _ _ (by simp) q (by nofun),i.mono s,g.mono s,f.mono s⟩
theorem BOk.there{K:qB}{a:Addr}{b:BS}(h:BOk K G H a b fp):∀x∈fp,∃o,H x=some o/\∀ps,o≠.tbl ps:=by
 obtain⟨r,d,q,p,k,Y,j,rfl,n,B,i,g,f,e,_⟩:=h;intro x c;simp only[qM,kF,or_false]at c;obtain rfl|rfl|rfl|rfl|rfl:=c;·exact⟨_,B,by nofun⟩
 ·exact⟨_,i,by nofun⟩
 ·exact⟨_,g,by nofun⟩
 ·exact⟨_,f,by nofun⟩
 ·exact⟨_,e,by nofun⟩
def tQ(K:qB)(H0 G H:Hp)(o:Option V)(oa:T0k)(b:BS):Prop:=∃a fp,o=some (.ref a)/\(∀a',oa=some a'->a'=a)/\BOk K G H a b fp/\∀x∈fp,H0 x≠none
theorem tQ.mono{K:qB}{o:Option V}{b:BS}(h:tQ K H0 G H o oa b)(s:aT G G'):tQ K H0 G' H o oa b:=by obtain⟨a,c,e,d,r,n⟩:=h;exact⟨a,c,e,d,r.keep (λ_ _ _ z _=>z) s,n⟩
theorem tQ.wr{K:qB}{o:Option V}{b:BS}{x:Addr}(h:tQ K H0 G H o oa b)(hx:H0 x=none):tQ K H0 G (upd H x u) o oa b:=by obtain⟨a,d,e,f,r,n⟩:=h;exact⟨a,d,e,f,r.keep (λy _ c z _=>by rwa[aE (λw:y=x=>n y c (by rw[w];exact hx))]) (.refl _),n⟩
theorem tQ.more{K:qB}{o:Option V}{b:BS}(h:tQ K H0 G H o oa b)(g:aT G G')(k:Sm H H'):tQ K H0 G' H' o oa b:=by obtain⟨a,c,e,d,r,n⟩:=h;exact⟨a,c,e,d,r.keep (λy o _ z w=>k.keep y o z w) g,n⟩
def a3F(K:qB)(H0 G H:Hp)(o:Option V):Ent->Prop|.no=>True|.val d=>∃v,o=some v/\Rep K G v d|.lst O=>∃a Y,o=some (.ref a)/\H a=some (.lst Y)/\G a=none/\H0 a=none/\RepAll K G Y O|.exc c=>∃a C,o=some (.ref a)/\eW K c=some C/\H a=some (xcO a C)|.nst dss=>∃a bs,o=some (.ref a)/\H a=some (.lst (bs.map V.ref))/\G a=none/\H0 a=none/\a∉bs/\bs.Nodup/\Paired (c6c K H0 G H) bs dss|.dct kvs=>∃a vs,o=some (.ref a)/\H a=some (.dK vs)/\G a=none/\H0 a=none/\eA K G vs kvs|.adr a=>o=some (.ref a)|.ro oa b=>tQ K H0 G H o oa b
noncomputable def a3f:Ent->Bool|.lst _=>true|.nst _=>true|.dct _=>true|_=>false
structure Inj(H:Hp)(U:St)(Z:List Ent):Prop where
 two:∀(i j:Nat) a O es,i≠j->U[i]?=some (some (.ref a))->Z[i]?=some (.lst O)->U[j]?=some (some (.ref a))->Z[j]?=some (.lst es)->False
 mix:∀(i j:Nat) a a' O dss,U[i]?=some (some (.ref a))->Z[i]?=some (.lst O)->U[j]?=some (some (.ref a'))->Z[j]?=some (.nst dss)->a≠a'/\∀vs,H a'=some (.lst vs)->V.ref a∉vs
 one:∀(i j:Nat) dss ess,Z[i]?=some (.nst dss)->Z[j]?=some (.nst ess)->i=j
 oneD:∀(i j:Nat) ks ls,Z[i]?=some (.dct ks)->Z[j]?=some (.dct ls)->i=j
variable{Z ρ':List Ent}
theorem Inj.sub(I:Inj H U Z)(h:∀(i:Nat) e,ρ'[i]?=some e->a3f e=true->Z[i]?=some e/\σ'[i]?=U[i]?):Inj H σ' ρ':=by
 refine⟨λi j a O s n B b d p=>?_,λi j a t O c B b d p=>?_,λi j c q B b=>?_,λi j r ls B b=>I.oneD i j r ls (h i _ B rfl).1 (h j _ b rfl).1⟩;·obtain⟨o,k⟩:=h i _ b rfl;obtain⟨g,f⟩:=h j _ p rfl;rw[k]at B;rw[f]at d;exact I.two i j a O s n B o d g
 ·obtain⟨o,k⟩:=h i _ b rfl;obtain⟨g,f⟩:=h j _ p rfl;rw[k]at B;rw[f]at d;exact I.mix i j a t O c B o d g
 ·exact I.one i j c q (h i _ B rfl).1 (h j _ b rfl).1
theorem Inj.other(I:Inj H U Z)(h:∀(j:Nat) c b,U[j]?=some (some (.ref c))->Z[j]?=some (.nst b)->∀vs,H' c=some (.lst vs)->H c=some (.lst vs)):Inj H' U Z:=⟨I.two,λi j a c O b B g f d=>⟨(I.mix i j a c O b B g f d).1,λvs e=>(I.mix i j a c O b B g f d).2 vs (h j c b f d vs e)⟩,I.one,I.oneD⟩
theorem Inj.free(h:∀(i:Nat) e,Z[i]?=some e->a3f e=false):Inj H U Z:=⟨λi j a O o n B b f d=>zY (h i _ b),λi j a p O c B b f d=>zY (h i _ b),λi j c g B b=>zY (h i _ B),λi j k ls B b=>zY (h i _ B)⟩
theorem mE:∀{l:List α}{m:List β},Paired F l m->(∀a b,a∈l->F a b->F' a b)->Paired F' l m|_,_,.nil,_=>.nil|_,_,.cons r t,h=>.cons (h _ _ qa r) (mE t λa b c=>h a b (qF _ c))
theorem a4G{a:α}:∀{l:List α}{m:List β},Paired F l m->a∈l->∃b,F a b
 |_,_,.cons r t,h=>by
  obtain rfl|h:=qM.mp h;·exact⟨_,r⟩
  ·exact a4G t h
structure RepS(K:qB)(H0 Gz G H:Hp)(U:St)(Z:List Ent):Prop where
 grow:Grow Gz H0 G H
 len:U.length=Z.length
 ent:∀(i:Nat) o e,U[i]?=some o->Z[i]?=some e->a3F K H0 G H o e
 inj:Inj H U Z
 tab:iX K G H
theorem a3F.more{K:qB}{k G H q p:Hp}{o:Option V}{e:Ent}(g:Grow G H q p)(h:a3F K k G H o e):a3F K k q p o e:=by cases e with|no=>trivial|val d=>obtain⟨v,e,r⟩:=h;exact⟨v,e,r.mono g.gg⟩|lst O=>obtain⟨a,Y,e,B,f,i,r⟩:=h;exact⟨a,Y,e,g.hh.lst B,g.new a f (by rw[B];simp),i,r.mono g.gg⟩|exc c=>obtain⟨a,C,e,B,f⟩:=h;exact⟨a,C,e,B,g.hh.keep a _ f (by nofun)⟩|nst D=>obtain⟨a,bs,e,B,f,i,A,z,r⟩:=h;exact⟨a,bs,e,g.hh.lst B,g.new a f (by rw[B];simp),i,A,z,Paired.mapP r (by rintro b O⟨Y,j,u,t,s⟩;exact⟨Y,g.hh.lst j,g.new b u (by rw[j];simp),t,s.mono g.gg⟩)⟩|dct y=>obtain⟨a,w,e,B,f,i,r⟩:=h;exact⟨a,w,e,g.hh.keep a _ B (by nofun),g.new a f (by rw[B];simp),i,r.mono g.gg⟩|adr a=>exact h|ro E b=>exact tQ.more h g.gg g.hh
variable{kvs:List (Key×q8)}
section
variable{K:qB}
theorem RepS.more(R:RepS K H0 Gz G H U Z)(g:Grow G H G' H'):RepS K H0 Gz G' H' U Z:=⟨R.grow.trans g,R.len,λi o e B b=>(R.ent i o e B b).more g,R.inj.other (λj p f B b k e=>by obtain⟨a,bs,d,c,_⟩:=R.ent j _ _ B b;cases d;rw[g.hh.lst c]at e;cases e;exact c),R.tab.more g⟩
theorem RepS.sub(R:RepS K H0 Gz G H U Z):aT G H:=R.grow.sub
theorem RepS.at{i:Nat}{e:Ent}(R:RepS K H0 Gz G H U Z)(h:Z[i]?=some e):∃o,U[i]?=some o/\a3F K H0 G H o e:=by
 have a:i<U.length:=by rw[R.len];exact(qR.mp h).1
 exact⟨U[i],by simp,R.ent i _ e (by simp) h⟩
theorem RepS.val{i:Nat}{d:q8}(R:RepS K H0 Gz G H U Z)(h:Z[i]?=some (.val d)):∃v,U[i]?=some (some v)/\Rep K G v d:=by obtain⟨o,e,v,rfl,r⟩:=R.at h;exact⟨v,e,r⟩
theorem RepS.own{i:Nat}(R:RepS K H0 Gz G H U Z)(h:Z[i]?=some (.lst O)):∃a Y,U[i]?=some (some (.ref a))/\H a=some (.lst Y)/\G a=none/\H0 a=none/\RepAll K G Y O:=by obtain⟨o,e,a,Y,rfl,r⟩:=R.at h;exact⟨a,Y,e,r⟩
theorem aM{a:Type}{l:List a}{i j:Nat}{x y:a}(h:(l.set i x)[j]?=some y):(j=i/\y=x/\i<l.length)\/(j≠i/\l[j]?=some y):=by
 by_cases e:j=i
 ·subst e;have b:j<l.length:=by have:=(qR.mp h).1;simpa using this
  rw[ke b]at h;exact .inl ⟨rfl,(qA h).symm,b⟩
 ·rw[qt (jH e)]at h;exact .inr ⟨e,h⟩
theorem RepS.set{i:Nat}{v:V}{d:q8}(R:RepS K H0 Gz G H U Z)(r:Rep K G v d):RepS K H0 Gz G H (U.set i (some v)) (Z.set i (.val d)):=by
 refine⟨R.grow,by simp[R.len],λj o e B a=>?_,R.inj.sub λj e B a=>?_,R.tab⟩
 ·obtain⟨rfl,rfl,_⟩|⟨n,B⟩:=aM B
  ·obtain⟨_,rfl,_⟩|⟨n,_⟩:=aM a;·exact⟨v,rfl,r⟩
   ·exact absurd rfl n
  ·obtain⟨z,_⟩|⟨_,a⟩:=aM a;·exact absurd z n
   ·exact R.ent j o e B a
 ·obtain⟨_,rfl,_⟩|⟨n,B⟩:=aM B;·cases a
  ·exact⟨B,qt (jH n)⟩
theorem RepS.freeze{i:Nat}(R:RepS K H0 Gz G H U Z)(h:Z[i]?=some (.lst O)):∃G',aT G G'/\RepS K H0 Gz G' H U (Z.set i (.val (.list O))):=by
 obtain⟨a,Y,e,B,C,h3,r⟩:=R.own h;have f:aT G (upd G a (.lst Y)):=cW C;refine⟨upd G a (.lst Y),f,⟨⟨R.grow.gg.trans f,R.grow.hh,λb o q=>?_,λb q n=>?_,λn=>(R.grow.nt n).upd (by nofun)⟩,by simp[R.len],λj o J s p=>?_,R.inj.sub λj e B C=>?_,R.tab.1,R.tab.2.upd (by nofun)⟩⟩
 ·by_cases F:b=a;·subst F;rw[aJ]at q;cases q;exact B
  ·rw[aE F]at q;exact R.sub b o q
 ·have y:b≠a:=λz=>n (by rwa[z]);rw[aE y];exact R.grow.new b q n
 ·obtain⟨rfl,rfl,_⟩|⟨S,p⟩:=aM p;·rw[e]at s;cases s;exact⟨.ref a,rfl,.list (.of aJ) (r.mono f)⟩
  ·have E:=R.ent j o J s p;cases J with|no=>trivial|val d=>obtain⟨v,z,g⟩:=E;exact⟨v,z,g.mono f⟩|lst es=>
    obtain⟨b,L,z,k,I,t,g⟩:=E;have y:b≠a:=λw=>by subst w z;exact R.inj.two j i b es O S s p e h
    exact⟨b,L,z,k,by rwa[aE y],t,g.mono f⟩|exc c=>exact E|nst D=>obtain⟨b,bs,z,k,I,t,g4,g5,g⟩:=E;subst z;obtain⟨m1,X⟩:=R.inj.mix i j a b O D e h s p;have T:∀c∈bs,c≠a:=λc A w=>X _ k (by subst w;exact qK.mpr ⟨c,A,rfl⟩);exact⟨b,bs,rfl,k,by rwa[aE (jH m1)],t,g4,g5,mE g (by rintro c dd A⟨u,P,x2,N,M⟩;exact⟨u,P,by rwa[aE (T c A)],N,M.mono f⟩)⟩|dct kvs=>obtain⟨b,Q,z,k,I,t,g⟩:=E;exact⟨b,Q,z,k,by rwa[aE (bS k B (by nofun))],t,g.mono f⟩|adr a=>exact E|ro oa b=>exact tQ.mono E f
 ·obtain⟨_,rfl,_⟩|⟨n,B⟩:=aM B;·cases C
  ·exact⟨B,rfl⟩
theorem RepS.wrote{i:Nat}{a:Addr}{L:T0l}(R:RepS K H0 Gz G H U Z)(h:Z[i]?=some (.lst O))(e:U[i]?=some (some (.ref a)))(r:RepAll K G Y L):RepS K H0 Gz G (upd H a (.lst Y)) U (Z.set i (.lst L)):=by
 obtain⟨a',D,J,B,h2,T,_⟩:=R.own h;rw[e]at J;cases J;refine⟨⟨R.grow.gg,R.grow.hh.wr T B,λb o q=>?_,λb q n=>R.grow.new b q n,R.grow.nt⟩,by simp[R.len],λj o J g f=>?_,⟨λj k b y fs t g f A s=>?_,λj k b a' y p g f A s=>?_,λj k p X g f=>?_,λj k ks ls g f=>?_⟩,R.tab.wr B⟩;·rw[aE (aK q h2)];exact R.sub b o q
 ·obtain⟨rfl,rfl,_⟩|⟨nj,f⟩:=aM f;·rw[e]at g;cases g;exact⟨a,Y,rfl,aJ,h2,T,r⟩
  ·have E:=R.ent j o J g f;cases J with|no=>trivial|val d=>exact E|lst y=>
    obtain⟨b,ys,z,v,u,I,F⟩:=E;have nb:b≠a:=λw=>by subst w z;exact R.inj.two j i b y O nj g f e h
    exact⟨b,ys,z,by rw[aE nb];exact v,u,I,F⟩|exc c=>obtain⟨b,C,z,v,u⟩:=E;exact⟨b,C,z,v,by rwa[aE (bS u B (by unfold xcO;nofun))]⟩|nst p=>obtain⟨b,bs,z,v,u,I,g4,g5,F⟩:=E;subst z;obtain⟨Q,P⟩:=R.inj.mix i j a b O p e h g f;have ni:∀c∈bs,c≠a:=λc S w=>P _ v (by subst w;exact qK.mpr ⟨c,S,rfl⟩);exact⟨b,bs,rfl,by rwa[aE (jH Q)],u,I,g4,g5,mE F (by rintro c dd S⟨D,x1,x2,x3,x4⟩;exact⟨D,by rwa[aE (ni c S)],x2,x3,x4⟩)⟩|dct kvs=>obtain⟨b,M,z,v,u,I,F⟩:=E;exact⟨b,M,z,by rwa[aE (bS v B (by nofun))],u,I,F⟩|adr a=>exact E|ro oa b=>exact tQ.wr E T
 ·obtain⟨rfl,_,_⟩|⟨n2,f⟩:=aM f
  ·obtain⟨z,_,_⟩|⟨n4,s⟩:=aM s;·exact t z.symm
   ·exact R.inj.two j k b O fs t g h A s
  ·obtain⟨z,_,_⟩|⟨n4,s⟩:=aM s;·subst z;exact R.inj.two j k b y O t g ‹Z[j]?=some (Ent.lst y)› A h
   ·exact R.inj.two j k b y fs t g ‹Z[j]?=some (Ent.lst y)› A s
 ·obtain⟨_,z,_⟩|⟨_,s⟩:=aM s;·cases z
  ·have N:∃fs,Z[j]?=some (.lst fs):=by
    obtain⟨rfl,_,_⟩|⟨_,f⟩:=aM f;·exact⟨_,h⟩
    ·exact⟨_,f⟩
   obtain⟨fs,f⟩:=N;obtain⟨Q,P⟩:=R.inj.mix j k b a' fs p g f A s;have m3:=(R.inj.mix i k a a' O p e h A s).1;exact⟨Q,λM z=>P M (by rwa[aE (jH m3)]at z)⟩
 ·obtain⟨_,z,_⟩|⟨_,g⟩:=aM g;·cases z
  ·obtain⟨_,z,_⟩|⟨_,f⟩:=aM f;·cases z
   ·exact R.inj.one j k p X g f
 ·obtain⟨_,z,_⟩|⟨_,g⟩:=aM g;·cases z
  ·obtain⟨_,z,_⟩|⟨_,f⟩:=aM f;·cases z
   ·exact R.inj.oneD j k ks ls g f
theorem RepS.fresh{i:Nat}{p:Addr}(R:RepS K H0 Gz G H U Z)(h:H p=none)(r:RepAll K G Y O):RepS K H0 Gz G (upd H p (.lst Y)) (U.set i (some (.ref p))) (Z.set i (.lst O)):=by
 have I:=R.more (Grow.side (o:=.lst Y) R.sub h);refine⟨I.grow,by simp[R.len],λj o e B g=>?_,⟨λj k a q fs w B g y u=>?_,λj k b M q s f d E C=>?_,λj k s F f d=>?_,λj k ks ls f d=>?_⟩,I.tab⟩
 ·obtain⟨rfl,rfl,_⟩|⟨n,B⟩:=aM B
  ·obtain⟨_,rfl,_⟩|⟨n,_⟩:=aM g;·exact⟨p,Y,rfl,aJ,R.sub.free h,R.grow.hh.free h,r⟩
   ·exact absurd rfl n
  ·obtain⟨z,_⟩|⟨_,g⟩:=aM g;·exact absurd z n
   ·exact I.ent j o e B g
 ·have v:∀j q,j≠i->U[j]?=some (some (.ref p))->Z[j]?=some (.lst q)->False:=λj q _ f d=>by obtain⟨b,ys,e,A,_⟩:=R.own d;rw[f]at e;cases e;rw[h]at A;cases A
  obtain⟨rfl,_,_⟩|⟨D,g⟩:=aM g
  ·obtain⟨_,z,_⟩|⟨n,_⟩:=aM B
   ·cases z;obtain⟨z,_,_⟩|⟨t,u⟩:=aM u;·exact w z.symm
    ·rw[qt (jH t)]at y;exact v k fs t y u
   ·exact absurd rfl n
  ·rw[qt (jH D)]at B;obtain⟨N,_,_⟩|⟨t,u⟩:=aM u
   ·subst N;obtain⟨_,z,_⟩|⟨n,_⟩:=aM y;·cases z;exact v j q D B ‹Z[j]?=some (Ent.lst q)›
    ·exact absurd rfl n
   ·rw[qt (jH t)]at y;exact R.inj.two j k a q fs w B g y u
 ·obtain⟨_,z,_⟩|⟨t,C⟩:=aM C;·cases z
  ·rw[qt (jH t)]at E;obtain⟨a1,bs,z,A,g2,g3,g4,g5,S⟩:=R.ent k _ _ E C;have P:M=a1:=by cases z;rfl
   subst P;have pa:=aK A h;have T:V.ref p∉bs.map V.ref:=λz=>by obtain⟨c,hc,e⟩:=qK.mp z;cases e;obtain⟨dd,⟨Q,J,_⟩⟩:=a4G S hc;rw[h]at J;cases J
   obtain⟨rfl,_,_⟩|⟨D,d⟩:=aM d
   ·obtain⟨_,z,_⟩|⟨n,_⟩:=aM f;·cases z;exact⟨jH pa,λL e=>by rw[aE pa,A]at e;cases e;exact T⟩
    ·exact absurd rfl n
   ·rw[qt (jH D)]at f;obtain⟨m1,X⟩:=R.inj.mix j k b M q s f d E C;exact⟨m1,λL e=>X L (by rwa[aE pa]at e)⟩
 ·obtain⟨_,z,_⟩|⟨_,f⟩:=aM f;·cases z
  ·obtain⟨_,z,_⟩|⟨_,d⟩:=aM d;·cases z
   ·exact R.inj.one j k s F f d
 ·obtain⟨_,z,_⟩|⟨_,f⟩:=aM f;·cases z
  ·obtain⟨_,z,_⟩|⟨_,d⟩:=aM d;·cases z
   ·exact R.inj.oneD j k ks ls f d
theorem RepS.ownD{i:Nat}(R:RepS K H0 Gz G H U Z)(h:Z[i]?=some (.dct kvs)):∃a vs,U[i]?=some (some (.ref a))/\H a=some (.dK vs)/\G a=none/\H0 a=none/\eA K G vs kvs:=by obtain⟨o,e,a,vs,rfl,r⟩:=R.at h;exact⟨a,vs,e,r⟩
theorem Tab.wrD{P a:Addr}{vs:List (Key×V)}(t:Tab P q H)(h:H a=some (.dK vs)):Tab P q (upd H a o):=by obtain⟨d,B,g,f⟩:=t;refine⟨d,by rwa[aE (bS B h (by nofun))],g,λb k e=>?_⟩;obtain⟨c,j,i⟩:=f b k e;exact⟨c,j,by rwa[aE (bS i h (by unfold cdO;nofun))]⟩
theorem Sm.wrD(s:Sm H H'){l:Addr}{vs:List (Key×V)}{o:HO}(a:H l=none)(h:H' l=some (.dK vs)):Sm H (upd H' l o):=⟨λb u e n=>by rw[aE (aK e a)];exact s.keep b u e n,λb c e=>by rw[aE (aK e a)];exact s.tbl b c e,λP q t=>(s.tab P q t).wrD h⟩
theorem iX.wrD{G H:Hp}{a:Addr}{vs:List (Key×V)}{o:HO}(t:iX K G H)(h:H a=some (.dK vs)):iX K G (upd H a o):=⟨λx b c P e=>(t.1 x b c P e).wrD h,t.2⟩
theorem RepS.freezeD{i:Nat}(R:RepS K H0 Gz G H U Z)(h:Z[i]?=some (.dct kvs)):∃G',aT G G'/\RepS K H0 Gz G' H U (Z.set i (.val (.dict (kvs.map λp=>(cD p.1,p.2))))):=by
 obtain⟨a,u,e,B,y,h3,r⟩:=R.ownD h;have f:aT G (upd G a (.dK u)):=cW y;refine⟨upd G a (.dK u),f,⟨⟨R.grow.gg.trans f,R.grow.hh,λb o q=>?_,λb q n=>?_,λn=>(R.grow.nt n).upd (by nofun)⟩,by simp[R.len],λj o F w s=>?_,R.inj.sub λj e B y=>?_,R.tab.1,R.tab.2.upd (by nofun)⟩⟩
 ·by_cases D:b=a;·subst D;rw[aJ]at q;cases q;exact B
  ·rw[aE D]at q;exact R.sub b o q
 ·have N:b≠a:=λz=>n (by rwa[z]);rw[aE N];exact R.grow.new b q n
 ·obtain⟨rfl,rfl,_⟩|⟨M,s⟩:=aM s
  ·rw[e]at w;cases w;refine⟨.ref a,rfl,.dict (kvs:=u) (.inl aJ) ?_ ?_⟩;·rw[qc];have:=congrArg (List.map cD) r.1;rw[qc,qc]at this;exact this.symm
   ·rw[qc];exact r.2.mono f
  ·have E:=R.ent j o F w s;cases F with|no=>trivial|val d=>obtain⟨v,z,g⟩:=E;exact⟨v,z,g.mono f⟩|lst es=>obtain⟨b,I,z,k,T,A,g⟩:=E;exact⟨b,I,z,k,by rwa[aE (bS k B (by nofun))],A,g.mono f⟩|exc c=>exact E|nst X=>obtain⟨b,bs,z,k,T,A,S,Q,g⟩:=E;exact⟨b,bs,z,k,by rwa[aE (bS k B (by nofun))],A,S,Q,mE g (by rintro c dd hc⟨t,C,x2,L,J⟩;exact⟨t,C,by rwa[aE (bS C B (by nofun))],L,J.mono f⟩)⟩|dct P=>exact absurd (R.inj.oneD j i P kvs s h) M|adr a=>exact E|ro oa b=>exact tQ.mono E f
 ·obtain⟨_,rfl,_⟩|⟨n,B⟩:=aM B;·cases y
  ·exact⟨B,rfl⟩
theorem RepS.wroteD{i:Nat}{a:Addr}{p:List (Key×q8)}{vs:List (Key×V)}(R:RepS K H0 Gz G H U Z)(h:Z[i]?=some (.dct kvs))(e:U[i]?=some (some (.ref a)))(r:eA K G vs p):RepS K H0 Gz G (upd H a (.dK vs)) U (Z.set i (.dct p)):=by
 obtain⟨S,v,D,B,T,N,_⟩:=R.ownD h;rw[e]at D;cases D;refine⟨⟨R.grow.gg,R.grow.hh.wrD N B,λb o q=>?_,λb q n=>R.grow.new b q n,R.grow.nt⟩,by simp[R.len],λj o D g f=>?_,⟨λj k b F fs M g f J t=>?_,λj k b S F s g f J t=>?_,λj k s Q g f=>?_,λj k u ls g f=>?_⟩,R.tab.wrD B⟩;·rw[aE (aK q T)];exact R.sub b o q
 ·obtain⟨rfl,rfl,_⟩|⟨nj,f⟩:=aM f;·rw[e]at g;cases g;exact⟨a,vs,rfl,aJ,T,N,r⟩
  ·have E:=R.ent j o D g f;cases D with|no=>trivial|val d=>exact E|lst F=>obtain⟨b,X,z,A,y,P,I⟩:=E;exact⟨b,X,z,by rwa[aE (bS A B (by nofun))],y,P,I⟩|exc c=>obtain⟨b,C,z,A,y⟩:=E;exact⟨b,C,z,A,by rwa[aE (bS y B (by unfold xcO;nofun))]⟩|nst s=>obtain⟨b,bs,z,A,y,P,g4,g5,I⟩:=E;exact⟨b,bs,z,by rwa[aE (bS A B (by nofun))],y,P,g4,g5,mE I (by rintro c dd hc⟨v,x1,x2,x3,x4⟩;exact⟨v,by rwa[aE (bS x1 B (by nofun))],x2,x3,x4⟩)⟩|dct u=>exact absurd (R.inj.oneD j i u kvs f h) nj|adr a=>exact E|ro oa b=>exact tQ.wr E N
 ·obtain⟨_,z,_⟩|⟨_,f⟩:=aM f;·cases z
  ·obtain⟨_,z,_⟩|⟨_,t⟩:=aM t;·cases z
   ·exact R.inj.two j k b F fs M g f J t
 ·obtain⟨_,z,_⟩|⟨_,f⟩:=aM f;·cases z
  ·obtain⟨_,z,_⟩|⟨_,t⟩:=aM t;·cases z
   ·obtain⟨m1,m2⟩:=R.inj.mix j k b S F s g f J t;refine⟨m1,λws z=>m2 ws ?_⟩;by_cases n:S=a;·subst n;rw[aJ]at z;cases z
    ·rwa[aE n]at z
 ·obtain⟨_,z,_⟩|⟨_,g⟩:=aM g;·cases z
  ·obtain⟨_,z,_⟩|⟨_,f⟩:=aM f;·cases z
   ·exact R.inj.one j k s Q g f
 ·have w:∀(j:Nat)(u:List (Key×q8)),(Z.set i (.dct p))[j]?=some (.dct u)->∃L,Z[j]?=some (.dct L):=λj u q=>by
   obtain⟨rfl,_,_⟩|⟨_,q⟩:=aM q;·exact⟨_,h⟩
   ·exact⟨_,q⟩
  obtain⟨k1,g⟩:=w j u g;obtain⟨k2,f⟩:=w k ls f;exact R.inj.oneD j k k1 k2 g f
theorem RepS.freshD{i:Nat}{p:Addr}{vs:List (Key×V)}(R:RepS K H0 Gz G H U Z)(h:H p=none)(w:∀ j ks,Z[j]?=some (.dct ks)->j=i)(r:eA K G vs kvs):RepS K H0 Gz G (upd H p (.dK vs)) (U.set i (some (.ref p))) (Z.set i (.dct kvs)):=by
 have s:=R.more (Grow.side (o:=.dK vs) R.sub h);refine⟨s.grow,by simp[R.len],λj o e B f=>?_,⟨λj k a D fs y B f F A=>?_,λj k b I D g d c E t=>?_,λj k g C d c=>?_,λj k ks ls d c=>?_⟩,s.tab⟩
 ·obtain⟨rfl,rfl,_⟩|⟨n,B⟩:=aM B
  ·obtain⟨_,rfl,_⟩|⟨n,_⟩:=aM f;·exact⟨p,vs,rfl,aJ,R.sub.free h,R.grow.hh.free h,r⟩
   ·exact absurd rfl n
  ·obtain⟨z,_⟩|⟨_,f⟩:=aM f;·exact absurd z n
   ·exact s.ent j o e B f
 ·obtain⟨_,z,_⟩|⟨v,f⟩:=aM f;·cases z
  ·obtain⟨_,z,_⟩|⟨u,A⟩:=aM A;·cases z
   ·rw[qt (jH v)]at B;rw[qt (jH u)]at F;exact s.inj.two j k a D fs y B f F A
 ·obtain⟨_,z,_⟩|⟨v,c⟩:=aM c;·cases z
  ·obtain⟨_,z,_⟩|⟨u,t⟩:=aM t;·cases z
   ·rw[qt (jH v)]at d;rw[qt (jH u)]at E;exact s.inj.mix j k b I D g d c E t
 ·obtain⟨_,z,_⟩|⟨_,d⟩:=aM d;·cases z
  ·obtain⟨_,z,_⟩|⟨_,c⟩:=aM c;·cases z
   ·exact R.inj.one j k g C d c
 ·have all:∀(j:Nat)(ks:List (Key×q8)),(Z.set i (.dct kvs))[j]?=some (.dct ks)->j=i:=λj ks q=>by
   obtain⟨z,_,_⟩|⟨_,q⟩:=aM q;·exact z
   ·exact w j ks q
  rw[all j ks d,all k ls c]
end
structure PD(X:Cx)(e:Expr)(Z:List Ent)(d:q8):Prop where run:∀ H0 Gz G pz s(U:St) H Q,Inv X pz U H s->RepS X.K H0 Gz G H U Z->(∀v G' H',Grow G H G' H'->Rep X.K G' v d->Q v H')->wpAny (model X.prog X.w) X.A (eval e X.env) (EP X pz U Q) X.xe s
structure PTD(X:Cx)(e:Expr)(Z:List Ent)(b:Bool):Prop where run:∀ H0 Gz G pz s(U:St) H Q,Inv X pz U H s->RepS X.K H0 Gz G H U Z->(∀G' H',Grow G H G' H'->Q b H')->wpAny (model X.prog X.w) X.A (isTrue e X.env (eval e X.env)) (TP X pz U Q) X.xe s
structure PAD(X:Cx)(es:T0n)(Z:List Ent)(O:T0l):Prop where run:∀ H0 Gz G pos pz s(U:St) H Q,Inv X pz U H s->RepS X.K H0 Gz G H U Z->(∀vs G' H',Grow G H G' H'->RepAll X.K G' vs O->Q vs H')->wpAny (model X.prog X.w) X.A (spliced (j8 pos (j4 es X.env))) (AP X pz U Q) X.xe s
noncomputable def tD(X:Cx)(Z:List Ent)(d:q8):TE:=λU H Q=>∃H0 Gz G,RepS X.K H0 Gz G H U Z/\∀v G' H',Grow G H G' H'->Rep X.K G' v d->Q v H'
noncomputable def tTD(X:Cx)(Z:List Ent)(b:Bool):TT:=λU H Q=>∃H0 Gz G,RepS X.K H0 Gz G H U Z/\∀G' H',Grow G H G' H'->Q b H'
noncomputable def tAD(X:Cx)(Z:List Ent)(O:T0l):TA:=λU H Q=>∃H0 Gz G,RepS X.K H0 Gz G H U Z/\∀vs G' H',Grow G H G' H'->RepAll X.K G' vs O->Q vs H'
variable{a:Expr}{i:Int}
theorem PD.pe(h:PD X e Z d):PE X e (tD X Z d):=(by rintro a s U H Q I⟨b,c,G,R,k⟩;exact h.run b c G a s U H Q I R k)
theorem PTD.pt{b:Bool}(h:PTD X e Z b):PT X e (tTD X Z b):=(by rintro a s U H Q I⟨c,d,G,R,k⟩;exact h.run c d G a s U H Q I R k)
theorem PAD.pa(h:PAD X es Z O):PA X es (tAD X Z O):=(by rintro a b s U H Q I⟨c,d,G,R,k⟩;exact h.run c d G a b s U H Q I R k)
theorem PD.of(h:PE X e t)(k:∀H0 Gz G U H Q,RepS X.K H0 Gz G H U Z->(∀v G' H',Grow G H G' H'->Rep X.K G' v d->Q v H')->t U H Q):PD X e Z d:=⟨λH0 Gz G a s U H Q I R q=>h a s U H Q I (k H0 Gz G U H Q R q)⟩
theorem c1w{j:_}:PD X (.Constant (.int i) j pos) Z (.int i):=.of c1s λ_ _ _ _ _ _ R q=>q _ _ _ (.refl R.sub) (.int i)
theorem c1v{j:_}:PD X (.Constant (.str x) j pos) Z (.str x):=.of b4D λ_ _ _ _ _ _ R q=>q _ _ _ (.refl R.sub) (.str x)
theorem b8e{j:_}:PD X (.Constant (.bool x) j pos) Z (.bool x):=.of c3P λ_ _ _ _ _ _ R q=>q _ _ _ (.refl R.sub) (.bool x)
theorem b8c{j:_}:PD X (.Constant .none j pos) Z .none:=.of c1r λ_ _ _ _ _ _ R q=>q _ _ _ (.refl R.sub) .none
theorem c1u(i:Nat){x:Str}(h:Z[i]?=some (.val d))(a:U0 X i x:=by exact U1):PD X (.Name x pos) Z d:=.of (cM a.1 a.2 a.3 a.4) λb c G U H Q R q=>by obtain⟨v,e,r⟩:=R.val h;exact⟨v,e,q v G H (.refl R.sub) r⟩
theorem b4M(b:Gl X x)(a:X.mg x=some (.int i t))(c:U2 x:=by decide):PD X (.Name x pos) Z (.int i):=.of (b0M (v:=.int i) b a ⟨t,rfl⟩ c) λ_ _ _ _ _ _ R q=>q _ _ _ (.refl R.sub) (.int i)
variable{j:Int}
section
theorem a1Y:PAD X [] Z []:=⟨λc d G a b s U H Q I R q=>fE a b s U H Q I (q [] G H (.refl R.sub) .nil)⟩
theorem yF(p:PD X e Z d)(o:PAD X es Z O)(hs:U5 X e es:=by rfl):PAD X (e::es) Z (d::O):=by refine⟨?_⟩;intro f g G a k s U H Q I R q;exact dC p.pe o.pa hs a k s U H Q I ⟨f,g,G,R,λx u v c j=>⟨f,g,u,R.more c,λY t r b i=>q _ t r (c.trans b) (.cons (j.mono b.gg) i)⟩⟩
structure CmpD(X:Cx)(op:CmpOp)(da db:q8)(t:Bool):Prop where ex:∃r:R2,OpR X (wa op) r/\∀x y G H Q,aT G H->Rep X.K G x da->Rep X.K G y db->Q (V.bl t) H->r x y H Q
theorem c2V:CmpD X .Lt (.int i) (.int j) (decide (i<j)):=⟨_,c3R,λx y G H Q _ b a q=>by cases b;cases a;exact⟨_,_,rfl,rfl,q⟩⟩
theorem c2W:CmpD X .LtE (.int i) (.int j) (decide (i<=j)):=⟨_,c3S,λx y G H Q _ b a q=>by cases b;cases a;exact⟨_,_,rfl,rfl,q⟩⟩
theorem cmp_gt:CmpD X .Gt (.int i) (.int j) (decide (j<i)):=⟨_,c3T,λx y G H Q _ b a q=>by cases b;cases a;exact⟨_,_,rfl,rfl,q⟩⟩
theorem c2X:CmpD X .GtE (.int i) (.int j) (decide (j<=i)):=⟨_,c3U,λx y G H Q _ b a q=>by cases b;cases a;exact⟨_,_,rfl,rfl,q⟩⟩
noncomputable def c3K(X:Cx)(da db:q8)(neg:Bool):R2:=λx y H Q=>Rep X.K H x da/\Rep X.K H y db/\qY da=true/\qY db=true/\Q (.bl (if neg then !PyData.eqv da db else qv da db)) H
theorem c1H(hu:X.A.units+64<cLine) j i:OpR X (wa .Eq) (c3K X j i false):=by rintro k s U H x y v u Q I d c⟨f,e,B,g,q⟩;obtain⟨as,b⟩:=f.reads I d;obtain⟨bs,a⟩:=e.reads I c;exact eq_dataH b a B g hu ⟨.bl _,H,I,rfl,q⟩
theorem c1B(hu:X.A.units+64<cLine) j i:OpR X (wa .NotEq) (c3K X j i true):=by rintro k s U H x y v u Q I d c⟨f,e,B,g,q⟩;obtain⟨as,b⟩:=f.reads I d;obtain⟨bs,a⟩:=e.reads I c;exact ne_dataH b a B g hu ⟨.bl _,H,I,rfl,q⟩
theorem c2Y(hu:X.A.units+64<cLine)(B:qY da=true)(c:qY db=true):CmpD X .Eq da db (qv da db):=⟨_,c1H hu da db,λx y G H Q s b a q=>⟨b.mono s,a.mono s,B,c,q⟩⟩
theorem c2U(hu:X.A.units+64<cLine)(B:qY da=true)(c:qY db=true):CmpD X .NotEq da db (!PyData.eqv da db):=⟨_,c1B hu da db,λx y G H Q s b a q=>⟨b.mono s,a.mono s,B,c,q⟩⟩
variable{rest:T0n}
theorem b1H{K:qB}(r:RepAll K G Y O)(h:atI O i=some d):∃v,atI Y i=some v/\Rep K G v d:=by unfold atI at h⊢;rw[r.length];cases e:ixN O.length i with|none=>rw[e]at h;cases h|some j=>rw[e]at h;exact r.get h
noncomputable def spD(K:qB)(F:List q8->q8->Prop):Sp:=λvs H Q _=>∃G O d,(aT G H/\iX K G H)/\RepAll K G vs O/\F O d/\∀v G' H',Grow G H G' H'->Rep K G' v d->Q v H'
end
def Walk(K:qB)(J:It)(G:Hp)(O:T0l):Prop:=∀ i G' H',aT G G'->aT G' H'->(∀d,O[i]?=some d->J.go i H'/\∀x H2,J.yld i H' x H2->∃G2,Grow G' H' G2 H2/\Rep K G2 x d)/\(O.length<=i->J.stop i H')
def b7d(K:qB)(J:It)(G H:Hp)(O:T0l):Prop:=∀ i G' H',Grow G H G' H'->(∀d,O[i]?=some d->J.go i H'/\∀x H2,J.yld i H' x H2->∃G2,Grow G' H' G2 H2/\Rep K G2 x d)/\(O.length<=i->J.stop i H')
theorem Walk.h{K:qB}(w:Walk K J G O):b7d K J G H O:=λi b a g=>w i b a g.gg g.sub
noncomputable def tID(K:qB)(Z:List Ent)(O:T0l):TI:=λU H R=>∃H0 Gz G,RepS K H0 Gz G H U Z/\∀J G' H',Grow G H G' H'->Walk K J G' O->R J H'
structure PID(X:Cx)(tg iter:Expr)(Z:List Ent)(O:T0l):Prop where run:PI X tg iter (tID X.K Z O)
theorem b1L{K:qB}{a:Addr}(f:SqL K G a Y)(r:RepAll K G Y O):Walk K (Itl K a) G O:=by intro i o s c b;refine⟨λd e=>?_,λp=>⟨Y,(c.trans b).seq f,by rwa[r.length]⟩⟩;obtain⟨v,g,j⟩:=r.get e;refine⟨⟨Y,v,(c.trans b).seq f,g⟩,?_⟩;rintro x q⟨k,y⟩;subst k;have z:=y Y ((c.trans b).seq f);rw[g]at z;cases z;exact⟨o,.refl b,j.mono c⟩
theorem b3H{K:qB}{a:Addr}(f:SqT K G a Y)(r:RepAll K G Y O):Walk K (Itt K a) G O:=by intro i o s c b;refine⟨λd e=>?_,λp=>⟨Y,rV (c.trans b) f,by rwa[r.length]⟩⟩;obtain⟨v,g,j⟩:=r.get e;refine⟨⟨Y,v,rV (c.trans b) f,g⟩,?_⟩;rintro x q⟨k,y⟩;subst k;have z:=y Y (rV (c.trans b) f);rw[g]at z;cases z;exact⟨o,.refl b,j.mono c⟩
noncomputable def xF(lo:Int)(n:Nat):List q8:=(ql n).map λ(k:Nat)=>.int (lo+(k:Int))
theorem b3I{K:qB} b n:Walk K (Itr b n) G (xF b n):=by
 intro i k q o c;unfold xF;refine⟨λd e=>?_,λf=>by rwa[qD,jo]at f⟩;rw[qO]at e;by_cases a:i<n;·rw[zi a]at e;cases e;refine⟨a,?_⟩;rintro x p⟨j,g⟩;subst j g;exact⟨k,.refl c,.int _⟩
 ·rw[jG (by simpa using a)]at e;cases e
theorem PI.imp(h:PI X tg iter wi)(k:∀U H R,wi' U H R->wi U H R):PI X tg iter wi':=λa s U H R I w=>h a s U H R I (k U H R w)
theorem b4z(h:PD X iter Z (.list O)):PID X tg iter Z O:=⟨PI.imp (a5P h.pe) (by rintro U H R⟨d,e,G,S,q⟩;exact⟨d,e,G,S,λv g f b c=>by cases c with|list a r=>exact⟨_,rfl,⟨_,b.sub.seq a⟩,q _ _ _ b (b1L a r)⟩⟩)⟩
theorem b7U(h:PD X iter Z (.tuple O)):PID X tg iter Z O:=⟨PI.imp (c1m h.pe) (by rintro U H R⟨d,e,G,S,q⟩;exact⟨d,e,G,S,λv g f b c=>by cases c with|tuple a r=>exact⟨_,rfl,⟨_,rV b.sub a⟩,q _ _ _ b (b3H a r)⟩⟩)⟩
theorem a9f(e:X.mg "range"=none)(g:PD X a Z (.int n))(B:-(2^62)<=n)(i:n<2^62)(hs:j4 [a] X.env=[(false,eval a X.env)]:=by rfl)(b:j4 [a] X.env=(false,eval a X.env)::j4 [] X.env:=by rfl)(f:Gl X "range":=by rfl):PID X tg (.Call (.Name "range" p) [a] [] pos) Z (xF 0 n.toNat):=⟨PI.imp (b2t f e (yF g a1Y b).pa hs) (by rintro U H R⟨k,o,G,S,q⟩;exact⟨k,o,G,S,λs u t j d=>by cases d with|cons r c=>cases c;cases r;exact⟨n,rfl,B,i,q _ _ _ j (b3I 0 n.toNat)⟩⟩)⟩
noncomputable def tGD(K:qB)(Z:List Ent)(d:q8)(ρ':List Ent):TG:=λv U H Q=>∃H0 Gz G,RepS K H0 Gz G H U Z/\Rep K G v d/\∀σ',RepS K H0 Gz G H σ' ρ'->Q σ' H
noncomputable def c5c(K:qB)(Z:List Ent)(O:T0l)(ρ':List Ent):TGs:=λvs U H Q=>∃H0 Gz G,RepS K H0 Gz G H U Z/\RepAll K G vs O/\∀σ',RepS K H0 Gz G H σ' ρ'->Q σ' H
structure PGD(X:Cx)(tg:Expr)(Z:List Ent)(d:q8)(ρ':List Ent):Prop where run:PG X tg (tGD X.K Z d ρ')
structure PGsD(X:Cx)(ts:T0n)(Z:List Ent)(O:T0l)(ρ':List Ent):Prop where run:PGs X ts (c5c X.K Z O ρ')
variable{ρ1 ρ2:List Ent}
theorem a7v i{x:Str}(f:X.N.Nodup)(c:X.N[i]?=some x:=by rfl)(hx:Loc X.env.scope x:=by first|exact jT rfl|exact qu rfl)(e:U7 X x:=by first|exact .inl rfl|exact .inr rfl):PGD X (.Name x pos) Z d (Z.set i (.val d)):=⟨by rintro b s U H v u Q I r⟨g,j,G,S,a,q⟩;exact b7Z f c hx e b s U H v u Q I r (q _ (S.set a))⟩
theorem b4B:PGsD X [] Z [] Z:=⟨by rintro c s U H d a Q I r⟨e,f,G,S,b,q⟩;cases b;exact b7X c s U H [] a Q I r ⟨rfl,q U S⟩⟩
theorem b2u(B:PGD X e Z d ρ1)(o:PGsD X es ρ1 O ρ2)(hs:(wj (e::es) X.env).map (·.2)=assign e X.env::(wj es X.env).map (·.2):=by rfl):PGsD X (e::es) Z (d::O) ρ2:=⟨by rintro k s U H t f Q I r⟨a,b,G,S,g,q⟩;cases g with|cons j i=>exact b4C B.run o.run hs k s U H _ f Q I r ⟨_,_,rfl,a,b,G,S,j,λc p=>⟨a,b,G,p,i,q⟩⟩⟩
theorem b7Y(g:X.calm=true)(h:PGsD X es Z O ρ1)(f:(wj es X.env).length=O.length:=by rfl)(a:(wj es X.env).findIdx? (·.1)=none:=by rfl):PGD X (.Tuple es k pos) Z (.tuple O) ρ1:=⟨by rintro d s U H v u Q I r⟨i,j,G,S,c,q⟩;cases c with|tuple e b=>exact c1n g h.run f a d s U H _ u Q I r ⟨_,_,rfl,rV S.sub e,b.length,i,j,G,S,b,q⟩⟩
inductive Out where|nx(Z:List Ent)|rt(d:q8)|bk(Z:List Ent)|ct(Z:List Ent)
def c0B(K:qB)(H0 Gz G:Hp)(D:Ends):Out->Prop|.nx Z=>∀G' H' σ',aT G G'->RepS K H0 Gz G' H' σ' Z->D.nx σ' H'|.rt d=>∀v G' H',aT G G'->Grow Gz H0 G' H'->Rep K G' v d->D.rt v H'|.bk Z=>∀G' H' σ',aT G G'->RepS K H0 Gz G' H' σ' Z->D.bk σ' H'|.ct Z=>∀G' H' σ',aT G G'->RepS K H0 Gz G' H' σ' Z->D.ct σ' H'
noncomputable def tSD(K:qB)(Z:List Ent)(o:Out):TS:=λD U H=>∃H0 Gz G,RepS K H0 Gz G H U Z/\c0B K H0 Gz G D o
structure PSD(X:Cx)(st:Stmt)(Z:List Ent)(o:Out):Prop where run:PS X st (tSD X.K Z o)
inductive Weak:List Ent->List Ent->Prop|nil:Weak [] []|keep{e:Ent}{a b:List Ent}:Weak a b->Weak (e::a) (e::b)|no{e:Ent}{a b:List Ent}:Weak a b->Weak (e::a) (.no::b)
theorem Weak.refl:∀Z:List Ent,Weak Z Z|[]=>.nil|_::r=>.keep (Weak.refl r)
theorem Weak.at:∀{a b:List Ent}{i:Nat}{e:Ent},Weak a b->b[i]?=some e->e=.no\/a[i]?=some e
 |_,_,_,_,.nil,h=>by simp at h|_,_,0,e,.keep _,h=>.inr (by exact h)|_,_,0,e,.no _,h=>.inl (by simpa using h.symm)|_,_,i+1,e,.keep w,h=>by
  rcases Weak.at (i:=i) w (by simpa using h)with z|z;·exact .inl z
  ·exact .inr (by simpa using z)|_,_,i+1,e,.no w,h=>by
  rcases Weak.at (i:=i) w (by simpa using h)with z|z;·exact .inl z
  ·exact .inr (by simpa using z)
theorem Weak.length:∀{a b:List Ent},Weak a b->a.length=b.length|_,_,.nil=>rfl|_,_,.keep w=>by simp[Weak.length w]|_,_,.no w=>by simp[Weak.length w]
theorem RepS.weak{K:qB}(R:RepS K H0 Gz G H U Z)(w:Weak Z ρ'):RepS K H0 Gz G H U ρ':=by
 refine⟨R.grow,R.len.trans w.length,λi o e B a=>?_,R.inj.sub λi e B a=>?_,R.tab⟩
 ·obtain z|z:=w.at a;·subst z;trivial
  ·exact R.ent i o e B z
 ·obtain z|z:=w.at B;·subst z;cases a
  ·exact⟨z,rfl⟩
section
variable{rest:List Stmt}{o:Out}
theorem PSD.of(h:PS X st t)(k:∀H0 Gz G U H D,RepS X.K H0 Gz G H U Z->c0B X.K H0 Gz G D o->t D U H):PSD X st Z o:=⟨by rintro a s U H D I⟨H0,Gz,G,S,q⟩;exact h a s U H D I (k H0 Gz G U H D S q)⟩
end
noncomputable def cJ(cap:T0e)(Z:List Ent):List Ent:=cap.map λo=>match o with|some j=>(match Z[j]? with|some (.val d)=>.val d|some (.adr a)=>.adr a|some (.ro oa b)=>.ro oa b|_=>.no)|none=>.no
theorem a1f cap Z:∀(i:Nat) e,(cJ cap Z)[i]?=some e->a3f e=false:=λi e h=>by unfold cJ at h;rw[qO]at h;cases k:cap[i]? with|none=>rw[k]at h;cases h|some c=>rw[k]at h;cases c with|none=>cases h;rfl|some j=>have f:(match Z[j]? with|some (Ent.val d)=>Ent.val d|some (Ent.adr a)=>Ent.adr a|some (Ent.ro oa b)=>Ent.ro oa b|_=>Ent.no)=e:=qA h;cases g:Z[j]? with|none=>rw[g]at f;subst f;rfl|some q=>rw[g]at f;cases q<;>(subst f;rfl)
theorem RepS.cap{K:qB}{F I G H:Hp}{U:St}{Z:List Ent}(R:RepS K F I G H U Z) cap:RepS K H G G H (gA cap U) (cJ cap Z):=by refine⟨.refl R.sub,by simp[gA,cJ],λi o e B f=>?_,Inj.free (a1f cap Z),R.tab⟩;·unfold gA at B;unfold cJ at f;rw[qO]at B f;cases s:cap[i]? with|none=>rw[s]at B;cases B|some c=>rw[s]at B f;cases c with|none=>cases f;trivial|some j=>have B:(U[j]?).getD none=o:=qA B;have f:(match Z[j]? with|some (Ent.val d)=>Ent.val d|some (Ent.adr a)=>Ent.adr a|some (Ent.ro p b)=>Ent.ro p b|_=>Ent.no)=e:=qA f;cases g:Z[j]? with|none=>rw[g]at f;subst f;trivial|some q=>rw[g]at f;cases q with|no=>subst f;trivial|lst O=>subst f;trivial|exc c=>subst f;trivial|nst E=>subst f;trivial|dct t=>subst f;trivial|adr a=>subst f;rw[(R.at g).choose_spec.1]at B;exact B▸(R.at g).choose_spec.2|ro p b=>subst f;obtain⟨J,D,a,y,C,A,r,_⟩:=R.at g;rw[D]at B;subst C;exact⟨a,y,B.symm,A,r,λx w z=>by obtain⟨u,k,_⟩:=r.there x w;rw[z]at k;cases k⟩|val d=>subst f;obtain⟨v,e,r⟩:=R.val g;rw[e]at B;subst B;exact⟨v,rfl,r⟩
variable{t:Bool}{Q:VK}
section
variable{cap:T0e}{ρb:List Ent}{α:Type}{Y:List α}{φ f:α->q8}{cnd:α->Bool}{ρx:α->List Ent}
structure PTsD(X:Cx)(ifs:T0n)(Z:List Ent)(b:Bool):Prop where run:PTs X ifs (tTD X Z b)
theorem b4q:PTsD X [] Z true:=⟨by rintro a s U H Q I⟨b,c,G,R,q⟩;exact b7Q a s U H Q I (q G H (.refl R.sub))⟩
theorem b4p(h:PTD X c Z t):PTsD X [c] Z t:=⟨b7P h.pt⟩
def gU(K:qB)(Y:List α)(φ:α->q8)(ρb:List Ent)(ρx:α->List Ent):TG:=λv U H Q=>∃x∈Y,tGD K ρb (φ x) (ρx x) v U H Q
noncomputable def tU(K:qB)(Y:List α)(ρx:α->List Ent)(cnd:α->Bool):TT:=λU H Q=>∃x∈Y,∃H0 Gz G,RepS K H0 Gz G H U (ρx x)/\∀G' H',Grow G H G' H'->Q (cnd x) H'
noncomputable def eU(K:qB)(Y:List α)(ρx:α->List Ent)(cnd:α->Bool)(f:α->q8):TE:=λU H Q=>∃x∈Y,cnd x=true/\∃H0 Gz G,RepS K H0 Gz G H U (ρx x)/\∀v G' H',Grow G H G' H'->Rep K G' v (f x)->Q v H'
noncomputable def eUF(K:qB)(Y:List α)(ρx:α->List Ent)(cnd:α->Bool)(f:α->q8)(H0 Gz:Hp):TE:=λU H Q=>∃x∈Y,cnd x=true/\∃G,RepS K H0 Gz G H U (ρx x)/\∀v G' H',Grow G H G' H'->Rep K G' v (f x)->Q v H'
theorem b3O{g:TG}{c:TE}{a:St}(h:∀U H Q,te U H Q->c U H Q)(r:∀x U H Q d,(∀U H,Q U H->d U H)->g x U H Q->g x U H d)(q:∀U H Q d,(∀b H,Q b H->d b H)->tc U H Q->tc U H d)(t:uX J g tc te a H Q):uX J g tc c a H Q:=by
 obtain⟨W,j⟩:=t;refine⟨W,λD hD=>⟨(j D hD).1,λi m o f u w B=>?_⟩⟩;rcases(j D hD).2 i m o f u w B with z|⟨go,z⟩;·exact .inl z
 ·refine .inr ⟨go,λx s y=>r _ _ _ _ _ (λk A p=>q _ _ _ _ (λb v e=>?_) p) (z x s y)⟩;cases b with|true=>rw[if_pos rfl]at e⊢;exact h _ _ _ e|false=>rw[if_neg (by decide)]at e⊢;exact e
theorem c0P{K:qB}(R:RepS K H0 Gz G H U Z)(wk:b7d K J G H (Y.map φ))(hb:Weak (cJ cap Z) ρb)(hw:∀x∈Y,Weak (ρx x) ρb)(hz:Y.length<=j5)(q:∀D ys G' H',Grow G H G' H'->G' D=some (.lst ys)->H D=none->RepAll K G' ys ((Y.filter cnd).map f)->Q (.ref D) H'):uX J (gU K Y φ ρb ρx) (tU K Y ρx cnd) (eUF K Y ρx cnd f H G) (gA cap U) H Q:=by
 refine⟨λD i m ys σ' H'=>m=Y.length-i/\i<=Y.length/\∃G',RepS K H G G' H' σ' ρb/\G' D=none/\RepAll K G' ys (((Y.take i).filter cnd).map f),λD hD=>⟨⟨Y.length,by simp,qx _,G,?_,R.sub.free hD,by simpa using RepAll.nil⟩,?_⟩⟩;·exact((R.cap cap).more (.side R.sub hD)).weak hb
 ·rintro i m ys σ1 H1⟨rfl,hi,G1,I,hG1,L⟩F;obtain⟨wgo,w⟩:=wk i G1 H1 I.grow;by_cases p:i<Y.length
  ·have hx:=qG p;have M:=jR p;obtain⟨go,yl⟩:=wgo (φ Y[i]) (by rw[qO,hx];rfl);have tk:(Y.take (i+1)).filter cnd=(Y.take i).filter cnd++(if cnd Y[i]=true then[Y[i]]else[]):=by rw[List.take_succ,hx,List.filter_append];cases k:cnd Y[i]<;>simp[k]
   refine .inr ⟨go,λx H2 y=>?_⟩;obtain⟨G2,g2,rx⟩:=yl x H2 y;refine⟨Y[i],M,H,G,G2,I.more g2,rx,λσ3 R3=>⟨Y[i],M,H,G,G2,R3,λG4 H4 g4=>?_⟩⟩;have t:=g2.trans g4;have A:=t.hh.lst F;have X:=t.new D hG1 (by rw[F];simp);dsimp only;by_cases k:cnd Y[i]=true
   ·rw[if_pos k];refine⟨Y[i],M,k,G4,R3.more g4,λv G5 H5 g5 rv=>?_⟩;have r:=g5.hh.lst A;have T:=g5.new D X (by rw[A];simp);have N:ys.length<j5:=by
     have B:=L.length;have s:(((Y.take i).filter cnd).map f).length<=i:=by rw[qD];exact qg (jN _ _) (by rw[jj];lia)
     lia
    refine⟨r,N,Y.length-(i+1),by lia,rfl,p,G5,?_,T,?_⟩
    ·have u:=((R3.more g4).more g5).weak (hw _ M)--the list at D has one item more;nothing else speaks of D
     have g:∀(j:Nat)(e:Ent),ρb[j]?=some e->a3f e=false:=λj e s=>by
      obtain z'|z':=hb.at s;·rw[z'];rfl
      ·exact a1f cap Z j e z'
     have S:=hD;refine⟨⟨u.grow.gg,u.grow.hh.wr S r,λb o e=>?_,u.grow.new,u.grow.nt⟩,u.len,λj o e B s=>?_,Inj.free (λj e s=>g j e s),u.tab.wr r⟩;·rw[aE (aK e T)];exact u.sub b o e
     ·have E:=u.ent j o e B s;cases e with|no=>trivial|val d=>exact E|exc c=>obtain⟨b,C,z,g1,g2⟩:=E;exact⟨b,C,z,g1,by rwa[aE (bS g2 r (by unfold xcO;nofun))]⟩|lst es=>have:=g j _ s;cases this|nst dss=>have:=g j _ s;cases this|dct kvs=>have:=g j _ s;cases this|adr a=>exact E|ro oa b=>exact tQ.wr E S
    ·rw[tk,if_pos k,jC];exact(L.mono ((t.trans g5).gg)).append (.cons rv .nil)
   ·rw[if_neg k];refine⟨A,Y.length-(i+1),by lia,rfl,p,G4,(R3.more g4).weak (hw _ M),X,?_⟩;rw[tk,if_neg k,jd];exact L.mono t.gg
  ·refine .inl ⟨w (by rw[qD];lia),?_⟩;have hi':i=Y.length:=by lia
   subst hi';rw[List.take_length]at L;have sD:aT G1 (upd G1 D (.lst ys)):=cW hG1;refine q D ys (upd G1 D (.lst ys)) H1 ⟨I.grow.gg.trans sD,I.grow.hh,λb o e=>?_,λb e n=>?_,λn=>(I.grow.nt n).upd (by nofun)⟩ aJ hD (L.mono sD)
   ·by_cases P:b=D;·subst P;rw[aJ]at e;cases e;exact F
    ·rw[aE P]at e;exact I.sub b o e
   ·rw[aE (λz=>n (by rwa[z]))];exact I.grow.new b e n
theorem a8I{K:qB}(R:RepS K H0 Gz G H U Z)(i:b7d K J G H (Y.map φ))(s:Weak (cJ cap Z) ρb)(p:∀x∈Y,Weak (ρx x) ρb)(o:Y.length<=j5)(q:∀D ys G' H',Grow G H G' H'->G' D=some (.lst ys)->H D=none->RepAll K G' ys ((Y.filter cnd).map f)->Q (.ref D) H'):uX J (gU K Y φ ρb ρx) (tU K Y ρx cnd) (eU K Y ρx cnd f) (gA cap U) H Q:=b3O (t:=c0P R i s p o q) (by rintro U H' F⟨x,a,r,G',y,k⟩;exact⟨x,a,r,H,G,G',y,k⟩) (by rintro v U H' A z h⟨x,a,d,g,e,R2,j,c⟩;exact⟨x,a,d,g,e,R2,j,λb w=>h _ _ (c b w)⟩)
  (by rintro U H' A z h⟨x,a,d,g,e,R2,c⟩;exact⟨x,a,d,g,e,R2,λE C u=>h _ _ (c E C u)⟩)
theorem a4i{K:qB}(R:RepS K H0 Gz G H U Z)(a:Walk K J G (Y.map φ))(d:Weak (cJ cap Z) ρb)(c:∀x∈Y,Weak (ρx x) ρb)(b:Y.length<=j5)(q:∀D ys G' H',Grow G H G' H'->G' D=some (.lst ys)->H D=none->RepAll K G' ys ((Y.filter cnd).map f)->Q (.ref D) H'):uX J (gU K Y φ ρb ρx) (tU K Y ρx cnd) (eU K Y ρx cnd f) (gA cap U) H Q:=a8I R a.h d c b q
theorem a6R{K:qB}(R:RepS K H0 Gz G H U Z)(a:Walk K J G (Y.map φ))(e:Weak (cJ cap Z) ρb)(d:∀x∈Y,Weak (ρx x) ρb)(c:Y.length<=j5)(q:∀v G' H',Grow G H G' H'->Rep K G' v (.list ((Y.filter cnd).map f))->Q v H'):uX J (gU K Y φ ρb ρx) (tU K Y ρx cnd) (eU K Y ρx cnd f) (gA cap U) H Q:=a4i R a e d c λD i G' H' g h _ b=>q _ G' H' g (.list (.of h) b)
theorem b8d(D:X.calm=true)(M:Blk X scope N' cap)(y:PID X tg iter Z (Y.map φ))(E:Weak (cJ cap Z) ρb)(t:∀x∈Y,Weak (ρx x) ρb)(p:Y.length<=j5)(z:∀C a b fp x,x∈Y->PGD (cB X scope N' C a b fp) tg ρb (φ x) (ρx x))(w:∀C a b fp x,x∈Y->PTsD (cB X scope N' C a b fp) ifs (ρx x) (cnd x))(A:∀C a b fp x,x∈Y->cnd x=true->PD (cB X scope N' C a b fp) elt (ρx x) (f x))(hs:∀x,v6 iter X.env x=pure x:=by intro _;rfl):PD X (.ListComp elt [⟨tg,iter,ifs,0⟩] scope pos) Z (.list ((Y.filter cnd).map f)):=.of (a5R (g:=gU X.K Y φ ρb ρx) (tc:=tU X.K Y ρx cnd) (te:=eU X.K Y ρx cnd f) D M y.run (by rintro C a b fp c s U H v u Q I r⟨x,d,q⟩;exact(z C a b fp x d).run c s U H v u Q I r q)
  (by rintro C a b fp c s U H Q I⟨x,d,q⟩;exact(w C a b fp x d).run c s U H Q I q) (by rintro C a b fp c s U H Q I⟨x,d,e,i,j,G,R,q⟩;exact(A C a b fp x d e).run i j G c s U H Q I R q) hs)
  λi j G U H Q R q=>⟨i,j,G,R,λJ P N g k=>a6R (R.more g) k E t p λv L K F o=>q v L K (g.trans F) o⟩
theorem b4s i{x:Str}(P:X.N.Nodup)(M:X.calm=true)(B0:Blk X scope N' cap)(F:PID X tg iter Z (Y.map φ))(N:Weak (cJ cap Z) ρb)(A:∀x∈Y,Weak (ρx x) ρb)(z:Y.length<=j5)(K:∀C a b fp x,x∈Y->PGD (cB X scope N' C a b fp) tg ρb (φ x) (ρx x))(E:∀C a b fp x,x∈Y->PTsD (cB X scope N' C a b fp) ifs (ρx x) (cnd x))(L:∀C a b fp x,x∈Y->cnd x=true->PD (cB X scope N' C a b fp) elt (ρx x) (f x))(d:X.N[i]?=some x:=by rfl)(hx:X.env.scope.names.lookup x=some .local:=by rfl)(e:wb (.ListComp elt [⟨tg,iter,ifs,0⟩] scope pos) (some (.Name x p)) spos.line X.env=pure true:=by rfl)(hs:∀x,v6 iter X.env x=pure x:=by intro _;rfl):PSD X (.Assign [.Name x p] (.ListComp elt [⟨tg,iter,ifs,0⟩] scope pos) spos) Z (.nx (Z.set i (.val (.list ((Y.filter cnd).map f))))):=.of (b0H (g:=gU X.K Y φ ρb ρx) (tc:=tU X.K Y ρx cnd) (te:=eU X.K Y ρx cnd f) P d hx M B0 F.run (by rintro C a b fp c s U H v u Q I r⟨x,hx,q⟩;exact(K C a b fp x hx).run c s U H v u Q I r q)
  (by rintro C a b fp c s U H Q I⟨x,hx,q⟩;exact(E C a b fp x hx).run c s U H Q I q) (by rintro C a b fp c s U H Q I⟨x,hx,j,k,o,G,R,q⟩;exact(L C a b fp x hx j).run k o G c s U H Q I R q) e hs)
  λk o G U H D R q=>⟨k,o,G,R,λJ G' H' g w=>a6R (R.more g) w N A z λv T S t y=>q T S _ (g.gg.trans t.gg) (((R.more g).more t).set y)⟩
end
noncomputable def lZ(N:T0q)(O:T0l):List Ent:=O.map .val++zE (N.length-O.length) .no
theorem lR{K:qB}(s:aT G H/\iX K G H)(r:RepAll K G vs O):RepS K H G G H (start N vs) (lZ N O):=by
 have d:=r.length;refine⟨.refl s.1,by simp[start,lZ,d],λi o e B a=>?_,Inj.free (λi e a=>?_),s.2⟩
 ·unfold lZ at a;unfold start at B;by_cases b:i<O.length;·rw[qh (by simpa using b),qO]at a;rw[qh (by simp;lia),qO]at B;rw[qG b]at a;obtain⟨v,f,c⟩:=r.get (qG b);rw[f]at B;cases B;cases a;exact⟨v,rfl,c⟩
  ·rw[jB (by simpa using b),jt]at a;split at a;·cases a;trivial
   ·cases a
 ·unfold lZ at a;by_cases b:i<O.length;·rw[qh (by simpa using b),qO,qG b]at a;cases a;rfl
  ·rw[jB (by simpa using b),jt]at a;split at a;·cases a;rfl
   ·cases a
section
variable{K:qB}
abbrev fcx(P:Program)(w:World)(K:qB)(mg:T0d)(base:Heap)(N:T0q)(qual:Str)(scope:Scope)(f:Addr)(cd:Value)(A:Around)(outer:List Env)(s:Shared)(H:Hp)(E:XK):Cx:=(a1a CX0 P w K mg base N qual scope f cd A outer s H E).nox
end
section
variable{l:Addr}{Q:T0a}
end
noncomputable def c3Z:List Int->Int|[]=>0|a::r=>r.foldl max a
noncomputable def c3Y:List Int->Int|[]=>0|a::r=>r.foldl min a
def c3N(K:qB):R2:=λx y H Q=>∃l b Y zs,x=.ref l/\y=.ref b/\SqL K H l Y/\SqL K H b zs/\Y.length+zs.length<=j5/\∀p,H p=none->Q (.ref p) (upd H p (.lst (Y++zs)))
noncomputable def c0A(so:Scope)(NN:T0q)(scope:Scope)(N':T0q)(cap:T0e):Bool:=decide (scope.kind=.function)&&scope.names.all (λy=>decide (y.2=.cell->scope.names.lookup y.1=some .cell))&&scope.names.all (λy=>decide (y.2=.local->scope.names.lookup y.1=some .local))&&scope.names.all (λy=>decide (y.2=.free->so.names.lookup y.1=some .cell))&&(ql cap.length).all (λi=>match cap[i]? with|some (some j)=>(match N'[i]?,NN[j]? with|some x,some y=>decide (x=y/\scope.names.lookup x=some .free)|_,_=>false)|_=>true)&&decide (cap.length=N'.length)&&decide N'.Nodup
theorem eM{NN:T0q}{cap:T0e}(hs:X.env.scope=so)(k:X.N=NN)(h:c0A so NN scope N' cap=true):Blk X scope N' cap:=by
 unfold c0A at h;simp only[qE,decide_eq_true_eq,qp]at h;obtain⟨⟨⟨⟨⟨⟨B,u⟩,t⟩,s⟩,r⟩,p⟩,o⟩:=h;refine⟨B,u,t,λy e f=>?_,λi j a=>?_,p,o⟩;·show X.env.scope.names.lookup y.1=some .cell;rw[hs];exact s y e f
 ·have g:=(qR.mp a).1;have q:=r i (jO.mpr g);rw[a]at q;dsimp only at q;cases d:N'[i]? with|none=>rw[d]at q;cases q|some x=>rw[d]at q;cases b:NN[j]? with|none=>rw[b]at q;cases q|some y=>rw[b]at q;have c:=of_decide_eq_true q;exact⟨x,rfl,by rw[k,b,c.1],c.2⟩
noncomputable abbrev Mt:=Str×Int×Int
noncomputable abbrev dM(m:Mt):q8:=.tuple [.str m.1,.int m.2.1,.int m.2.2]
abbrev dS(s:List Mt):q8:=.tuple (s.map dM)
section
variable{R:Result->Shared->Prop}{S:Addr}{wr:T0o}{n:Nat}{P:Nat->Value->Prop}{St:Nat->Heap->Prop}
end
section
variable{l:Addr}{Q:T0a}
end
section
variable{kp:Pos}
end
section
theorem b0R:OpR X (wz .Add) (c3N X.K):=by
 rintro T s U H x y v u Q I p o⟨l,b,Y,P,L,K,B,G,hz,q⟩;subst L K;cases p;cases o;obtain⟨c,i,t,_⟩:=I.list B;obtain⟨a,g,r,_⟩:=I.list G;obtain⟨⟨c1,N,S,e⟩,z,k,E,_,C⟩:=t;obtain⟨⟨c2,M,R,d⟩,w,j,D,_,A⟩:=r;subst E C D A;have f:c.toArray.size+a.toArray.size<=j5:=by rwa[qS,qS,<-i.length,<-g.length]
 refine QI ⟨_,k,rfl⟩ ⟨_,j,rfl⟩ noFill_list_add seq_list_add F.slot_list_add F.entry_list_add (F.args_list_add_2 _ _) (list_addW l b _ _ z w N M e d f) ⟨k,j,?_⟩;have J:c.toArray++a.toArray=(c++a).toArray:=by simp
 rw[J];exact⟨.ref _,_,I.lnew (t':=s.toks) (i.append g) (by rwa[qe]),rfl,q _ I.fresh⟩
def c3L(K:qB):R2:=λx y H Q=>∃l b Y zs,x=.ref l/\y=.ref b/\SqT K H l Y/\SqT K H b zs/\Y.length+zs.length<=j5/\(Y=[]->Q (.ref b) H)/\(Y≠[]->zs=[]->Q (.ref l) H)/\(Y≠[]->zs≠[]->∀p,H p=none->Q (.ref p) (upd H p (.tup (Y++zs))))
theorem b8l:OpR X (wz .Add) (c3L X.K):=by
 rintro C s U H x y v u Q I g f⟨l,b,Y,r,q,p,B,j,P,A,z,w⟩;by_cases a:Y=[]
 ·subst q p;cases g;cases f;obtain⟨e,t,E,_⟩:=I.tuple B;obtain⟨i,r2,D,_⟩:=I.tuple j;obtain⟨⟨c1,T,t1,d⟩,o,N,J,L⟩:=E;obtain⟨⟨c2,S,t2,c⟩,k,M,G,K⟩:=D;subst N L M K;have R:e=[]:=by subst a;cases t;rfl
  exact QI ⟨_,o,rfl⟩ ⟨_,k,rfl⟩ QB seq_tuple_add F.slot_tuple_add F.entry_tuple_add (F.args_tuple_add_2 _ _) (tuple_addW0 l b _ _ J G T S d c (by rw[R];rfl)) ⟨o,k,⟨.ref b,H,I,rfl,A a⟩⟩
 ·exact b8m C s U H x y v u Q I g f ⟨l,b,Y,r,q,p,B,j,a,P,z a,w a⟩
variable{o:Expr}
theorem b4N{i:String}{r:V->List V->Hp->VK->Prop}(pa:PlainAttrs T)(f:Slot T name i)(j:typeOf (.builtin i)=pure (.type "method_descriptor"))(E:MtR X i r)(D:PD X o Z da)(F:PAD X (e::es) Z O)(C:∀x G H,aT G H->Rep X.K G x da->tyV X.K T x H)(k:∀x vs G H Q,aT G H->Rep X.K G x da->RepAll X.K G vs O->(∀v G' H',Grow G H G' H'->Rep X.K G' v d->Q v H')->r x vs H Q)(c:U8 X o name:=by rfl)(g:U4 X cpos (e::es):=by rfl)(b:(apos.endLine==cpos.line)=true:=by rfl)(hs:U5 X e es:=by rfl)(a:U6 X cpos es:=by rfl):PD X (.Call (.Attribute o name apos) (e::es) [] cpos) Z d:=.of (b0N pa f j E D.pe F.pa c g b hs a) λu w G U H Q R q=>⟨u,w,G,R,λx y L s t=>⟨C x y L s.sub t,u,w,y,R.more s,λvs N K p A=>k x vs N K Q p.sub (t.mono p.gg) A λv M J I z=>q v M J (s.trans (p.trans I)) z⟩⟩
theorem b9C:CmpD X .Eq (.int i) (.int j) (decide (i=j)):=⟨_,b4S,λx y G H Q _ b a q=>by cases b;cases a;exact⟨rfl,by simpa using q⟩⟩
theorem b9w:CmpD X .NotEq (.int i) (.int j) (!decide (i=j)):=⟨_,b4R,λx y G H Q _ b a q=>by cases b;cases a;exact⟨rfl,by simpa using q⟩⟩
theorem b9B{i j:Str}:CmpD X .Eq (.str i) (.str j) (decide (i=j)):=⟨_,b4S,λx y G H Q _ b a q=>by cases b;cases a;exact⟨rfl,by simpa using q⟩⟩
theorem b9v{i j:Str}:CmpD X .NotEq (.str i) (.str j) (!decide (i=j)):=⟨_,b4R,λx y G H Q _ b a q=>by cases b;cases a;exact⟨rfl,by simpa using q⟩⟩
theorem b9D{i j:Bool}:CmpD X .Eq (.bool i) (.bool j) (decide (i=j)):=⟨_,b4S,λx y G H Q _ b a q=>by cases b;cases a;exact⟨rfl,by simpa using q⟩⟩
theorem b9x{i j:Bool}:CmpD X .NotEq (.bool i) (.bool j) (!decide (i=j)):=⟨_,b4R,λx y G H Q _ b a q=>by cases b;cases a;exact⟨rfl,by simpa using q⟩⟩
end
structure Callee(P:Program)(w:World)(K:qB)(mg:T0d)(base:Heap)(x:Str)(k:Nat)(ps:T0q)(Fn:List q8->q8->Prop):Prop where ex:∃f fd,mg x=some (.ref f)/\jY K (.ref f)=true/\Binds K fd ps []/\FnOk P w K mg base CX0 k f fd ps (spD K Fn)
structure Def(K:qB)(mg:T0d)(x:Str)(st:Stmt):Prop where ex:∃f fd,Fun K x x st f fd/\mg x=some (.ref f)
theorem def_mk{K:qB}{h:Heap}{x:Str}{f:Addr}{kV:Value}(X:K.In h)(G:h.Ns j7 mg)(a:jA K j7 x=some (some (.ref f)))(l:K.lookup f=some ⟨oc,od,.func (jg x x (fD st) (bK st) (aD st) .none kV doc pm an cdv ct),sl⟩)(c:zD K cdv x=true)(k:jY K (.ref f)=true):Def K mg x st:=⟨f,_,a6r l c k,kU X G a⟩
section
variable{K:qB}{x:Str}{Fn:List q8->q8->Prop}
end
theorem a7W(a b:T0l):qv (.list a) (.list b)=jb a b:=by rw[qv]
theorem b3b(a b:T0l):qv (.tuple a) (.tuple b)=jb a b:=by rw[qv]
theorem tK:∀a b:List Str,jb (a.map .str) (b.map .str)=decide (a=b)
 |[],[]=>by simp[jb]|[],_::_=>by simp[jb]|_::_,[]=>by simp[jb]|x::a,y::b=>by
  have c:=tK a b;simp only[qI,jb,c,qv];by_cases h:x=y;·subst h;by_cases d:a=b<;>simp
  ·simp[h]
theorem a9T a b:qv (dM a) (dM b)=decide (a=b):=by obtain⟨k,j,i⟩:=a;obtain⟨g,f,e⟩:=b;simp only[qv,jb];by_cases B:k=g<;>by_cases d:j=f<;>by_cases c:i=e<;>simp[B,d,c]
theorem pX(h:∀d∈O,jD d=true):zd O=true:=by induction O with|nil=>rfl|cons d r a=>rw[zd,h d qa,a λe b=>h e (qF _ b)];rfl
theorem tL(h:∀d∈O,jS d<=n):kX O<=n:=by induction O with|nil=>simp[kX]|cons d r a=>have B:=h d qa;have c:=a λe b=>h e (qF _ b);simp only[kX];lia
theorem a4x(B:jD d=true)(b:jS d<=n)(a:n<=64):qY d=true:=by unfold qY;rw[B,Bool.true_and];exact decide_eq_true (qg b a)
section
variable{o:Expr}
def cutD(Y:T0l)(lo hi:Option Int):List q8:=(Y.drop (HT.sIx Y.length 0 lo)).take (HT.sIx Y.length Y.length hi-HT.sIx Y.length 0 lo)
theorem a8l{K:qB}(r:RepAll K G Y O) a b:RepAll K G (a8k Y a b) (cutD O a b):=by unfold a8k cutD;rw[r.length];exact(r.drop _).take _
theorem a7R:inV (.int i) (ns.map V.int)=decide (i∈ns):=by unfold inV;induction ns with|nil=>rfl|cons a r b=>
  rw[qI,kB,b];have e:eqV (.int a) (.int i)=decide (a=i):=rfl;rw[e];by_cases h:a=i;·subst h;simp
  ·have c:¬i=a:=λz=>h z.symm;simp[h,c]
theorem a7Q{ns:T0q}{i:Str}:inV (.str i) (ns.map V.str)=decide (i∈ns):=by unfold inV;induction ns with|nil=>rfl|cons a r b=>
  rw[qI,kB,b];have e:eqV (.str a) (.str i)=(a==i):=rfl;rw[e];by_cases h:a=i;·subst h;simp
  ·have c:¬i=a:=λz=>h z.symm;simp[h,c]
theorem a4Z(ns:T0s):(ns.map V.int).all rN=true:=by simp[rN]
theorem a4Y(ns:T0q):(ns.map V.str).all rN=true:=by simp[rN]
end
noncomputable def tyD:q8->String
 | .none => "NoneType"
 | .bool _ => "bool"
 | .int _ => "int"
 | .str _ => "str"
 | .list _ => "list"
 | .tuple _ => "tuple"
 | .dict _ => "dict"
section
variable{o:Expr}
theorem b5C{Q:T0a}{k u:Value}(I:Inv X pz U H s)(r:Rep X.K H v d)(b:RelV v u)(e:zV X.K (.type (tyD d)) k=some t)(h:∀tk,Q (.bool t) {s with toks:=tk}):wpAny (model X.prog X.w) A (call (.builtin "isinstance") [u,k]) Q E s:=by cases r with|none=>exact uF I b .non e h|bool x=>exact uF I b (.bl x) e h|int x=>exact uF I b (.int x) e h|str x=>exact uF I b (.str x) e h|list c q=>cases b;obtain⟨g,_,⟨o,n,j,i,_⟩,_⟩:=I.list c;exact jX wI I.kIn ⟨o,j,i⟩ e (λz=>nomatch z) h|tuple c q=>cases b;obtain⟨g,_,⟨o,j,i,_⟩,_⟩:=I.tuple c;exact jX PySem.W.kitx_tuple I.kIn ⟨o,j,i⟩ e (λz=>nomatch z) h|@dict a f _ c _ _=>cases(show u=qr a from b);obtain⟨_,_,y,_,p⟩:=(show cU X.prog X.w H s.heap a (.dK f)from c.ok I.hok);obtain⟨o,C,D,B,w,_⟩:=p;exact jX wJ I.kIn ⟨o,B,w.1⟩ e (λz=>nomatch z) h
end
theorem b0z:∀{bs:List Bool}{us:T0m},bH (bs.map V.bl) us->us=bs.map jv|[],_,r=>by cases r;rfl|b::bs,_,r=>by cases r with|cons c a=>cases c;rw[b0z a];rfl
theorem range_all(bs:List Bool):((ql bs.length).all λi=>bs.getD i false)=bs.all id:=by
 rw[jz];simp only[qp,jO];constructor;·intro h b c;obtain⟨i,a,rfl⟩:=zC.mp c;have:=h i a;simpa[qG a]using this
 ·intro h i a;have:=h bs[i] (jR a);simpa[qG a]using this
section
variable{o:Expr}
theorem b3o(C:X.calm=true):lK X (.builtin "all") (λY H Q=>∃(p:Addr)(bs:List Bool),Y=[.ref p]/\SqL X.K H p (bs.map V.bl)/\Q (.bl (bs.all id)) H):=by
 rintro K s U H Y F Q I r⟨p,bs,e,y,q⟩;subst e;obtain⟨u,rfl,f⟩:=vals1 r;cases f;obtain⟨w,j,k,L⟩:=I.list y;have E:=b0z j;subst E;have c:=k.isList;have lt:p<s.heap.objs.size:=by obtain⟨o,g,_⟩:=c;exact qN g
 refine call_all_walk (yd c ?_);refine⟨s.heap.objs.size,_,_,_,_,_,λi=>bs.getD i false,rfl,Walks.list (A:=X.A.in1) (I.ok.hd C) _ p (qW lt) (bs.map jv).toArray,⟨⟨_,qP _ rfl,rfl,rfl⟩,c.push _⟩,λi v J P R a M=>?_,λN G t=>?_⟩;·have a:(bs.map jv).toArray[i]?=some v:=a;rw[vd,qO]at a;cases d:bs[i]? with|none=>rw[d]at a;cases a|some b=>
   rw[d]at a;cases a;refine wt ?_;have:bs.getD i false=b:=by rw[zj,d];rfl
   rwa[<-this]
 ·have sz:(bs.map jv).toArray.size=bs.length:=by simp
  rw[sz,range_all];refine⟨.bl _,H,I.kept (λb o g=>t b o ?_ (qC _ g)),rfl,q⟩;intro D;have z:b=s.heap.objs.size:=by simpa using D
  exact absurd (qN g) (by rw[z];exact ji _)
theorem yE{K:qB}{G:Hp}:∀ns:List Int,RepAll K G (ns.map V.int) (ns.map .int)|[]=>.nil|_::r=>.cons (.int _) (yE r)
end
noncomputable def Its(n:Nat)(val:Nat->V):It:=⟨λi _=>i<n,λi H x H'=>H'=H/\x=val i,λi _=>n<=i⟩
theorem a8D{K:qB}{x:Str}{n:Nat}{R:Nat->Value->Prop}{St:Nat->Heap->Prop}{val:Nat->V}(W:∀S:Around,S.handled=none->Walks P w S it [it] [it] n R St)(f:∀i h,St i h->∃o,h.get? it=some o/\∀v,o.data≠.cell v)(hv:∀i u,i<n->R i u->RelV (val i) u)(c:∀ A i s(Q:T0a)(E:T0a),St i s.heap->Q (.ref it) s->wpAny (model P w) A (QK (.ref it)) Q E s):Turn P w K (.Name x px) (Its n val) [it] it (λi h=>i<=n/\St i h)where
 mem:=by simp
 obj:=λi h a b d=>by
  have e:b=it:=by simpa using d
  subst e;exact f i h a.2
 keep:=λi h p a k=>⟨a.1,(W {} rfl).frame i h p a.2 k⟩;item:=by intro X z t C y i N s U H E I j a g;subst z t C;obtain⟨L,J,f2,G,F,D⟩:=j it (by simp);refine(W X.A (I.ok.hd y)).item i s _ _ g a.2 λu p M T q r=>⟨u,rfl,j3 ?_⟩;have I1:Inv X N U H {s with heap:=p,toks:=M}:=I.turned (λb o d e=>r b o (by simpa using d) e) L J G F D;exact⟨val i,H,I1,hv i u g T,⟨rfl,rfl⟩,⟨g,q⟩,λb d=>(j b d).1⟩
 done:=by intro X z t C y i N s U H E I j a g;subst z t C;obtain⟨L,J,f2,G,F,D⟩:=j it (by simp);have e:=Nat.le_antisymm a.1 g;subst e;exact(W X.A (I.ok.hd y)).done s _ _ a.2 λp M r=>⟨rfl,I.turned (λb o d e=>r b o (by simpa using d) e) L J G F D⟩
 self:=λA i s Q E a h=>c A i s Q E a.2 h
noncomputable def lettersOf(z:Str):List Str:=z.cps.toList.map λc=>⟨#[c]⟩
section
variable{x:Str}
theorem b7V(h:PD X iter Z (.str z))(hc:X.calm=true):PID X (.Name x px) iter Z ((lettersOf z).map .str):=by
 refine⟨?_⟩;rintro M s U H R I⟨H0,Gz,G,S,q⟩;refine thn (h.run H0 Gz G M s U H (λv L=>v=.str z/\∃p,Grow G H p L) I S λv p L g r=>by cases r;exact⟨rfl,p,g⟩) ?_;rintro v a⟨y,H1,K,r1,e1,G1,g1⟩;subst e1;obtain⟨t,rfl⟩:=r1;have wk:Walk X.K (Its z.cps.size λi=>.str ⟨#[z.cps.getD i 0]⟩) G1 ((lettersOf z).map .str):=by
  intro i p L a s2;have N:((lettersOf z).map qw).length=z.cps.size:=by simp[lettersOf]
  refine⟨λd e=>?_,λF=>by rwa[N]at F⟩;have j:i<z.cps.size:=by have:=(qR.mp e).1;rwa[N]at this
  refine⟨j,?_⟩;rintro y H2⟨e2,e3⟩;subst e2 e3;refine⟨p,.refl s2,?_⟩;have ed:d=.str ⟨#[z.cps.getD i 0]⟩:=by unfold lettersOf at e;rw[qO,qO,qk,qd j]at e;have:=qA e;rw[<-this];simp[j]
  rw[ed];exact .str _
 have hv:∀i u,i<z.cps.size->SignAt z i u->RelV (.str ⟨#[z.cps.getD i 0]⟩) u:=by rintro i u j⟨c,t',T,rfl⟩;refine⟨t',?_⟩;rw[qd j]at T;have:=qA T;simp[j,this]
 have k:∀(cl:String)(o:Obj),o={cls:=.type cl,data:=.fields #[.str z t,.int 0 0]}->(∀w:Around,w.handled=none->Walks X.prog X.w w a.heap.objs.size [a.heap.objs.size] [a.heap.objs.size] z.cps.size (SignAt z) (λi h=>h.IsStrIter a.heap.objs.size cl z t i))->(∀(A:Around)(i:Nat)(s:Shared)(Q:T0a)(E:T0a),s.heap.IsStrIter a.heap.objs.size cl z t i->Q (.ref a.heap.objs.size) s->wpAny (model X.prog X.w) A (QK (.ref a.heap.objs.size)) Q E s)->PIE X M U (.Name x px) R (.ref a.heap.objs.size) {a with heap:=a.heap.push o}:=by
  intro cl o eo W f;subst eo;refine⟨a.heap.objs.size,[a.heap.objs.size],_,_,H1,rfl,K.kept (t':=a.toks) λb o e=>qC _ e,a8D W (by rintro i h⟨o,g,_,gd⟩;exact⟨o,g,λv z=>by rw[gd]at z;cases z⟩) hv f,⟨qx _,⟨_,qP _ rfl,rfl,rfl⟩⟩,λb hb=>?_,q _ G1 H1 g1 wk⟩;have e:b=a.heap.objs.size:=by simpa using hb
  subst e;exact K.fpOk (qQ _) (K.hok.fresh (qQ _))
 cases P:z.cps.all (·<128);·exact wpAny_pyIter_wide P (k "str_iterator" _ rfl (λw J=>Walks.strWide J _ z t) λA i s Q E C D=>wpAny_pyIter_striter_wide C D)
 ·exact wpAny_pyIter_ascii P (k "str_ascii_iterator" _ rfl (λw J=>Walks.strAscii J _ z t) λA i s Q E C D=>wpAny_pyIter_striter_ascii C D)
theorem b9y{i j:Str}:CmpD X .LtE (.str i) (.str j) (!decide (j.cps.toList<i.cps.toList)):=⟨λx y H Q=>∃i j,x=V.str i/\y=V.str j/\Q (.bl (!decide (j.cps.toList<i.cps.toList))) H,by rintro f s U H x y v u Q I b a⟨i,j,d,c,q⟩;subst d c;obtain⟨t,rfl⟩:=b;obtain⟨e,rfl⟩:=a;exact PySem.P.le_str ⟨.bl _,H,I,rfl,q⟩,λx y G H Q _ b a q=>by cases b;cases a;exact⟨_,_,rfl,rfl,q⟩⟩
end
theorem cU.there{a:Addr}(x:cU P w H h a o):∃u,h.get? a=some u:=by cases o with|lst Y=>obtain⟨_,_,_,_,e⟩:=x;exact⟨_,e⟩|tup Y=>obtain⟨_,_,_,u,e,_⟩:=x;exact⟨u,e⟩|dK b=>obtain⟨_,_,_,_,o,_,_,e,_⟩:=x;exact⟨_,e⟩|dT b=>obtain⟨_,_,_,_,o,_,_,e,_⟩:=x;exact⟨_,e⟩|set S n=>obtain⟨o,_,_,_,e,_⟩:=x;exact⟨_,e⟩|ins C j fs=>obtain⟨_,_,_,e,_⟩:=x;exact⟨_,e⟩|own y=>exact x|xd fs=>obtain⟨_,⟨_,_,_,e,_⟩,_⟩:=x;exact⟨_,e⟩|rng g i=>obtain⟨_,_,_,e⟩:=x;exact⟨_,e⟩|frz ob u=>obtain⟨e,_⟩:=x;exact⟨_,e⟩|tbl d=>exact⟨_,show h.get? a=some _ from x⟩|met f y=>exact⟨_,show h.get? a=some _ from x⟩|ext c=>exact x.2.1
theorem b5K{a:Addr}(x:HOk P w H h)(e:h.get? a=none):H a=none:=by cases q:H a with|none=>rfl|some u=>obtain⟨v,z⟩:=cU.there (x a u q);rw[e]at z;cases z
def rQ(X:Cx)(b:Addr):Prop:=(b∈X.ex\/X.s₀.heap.get? b=none)/\∀p∈X.pn,p.1≠b
def xR(fr:Addr->Prop)(fl:Value)(H:Hp)(a C:Addr)(h:Heap):Prop:=fr a/\H a=none/\∃oe vs a0 T oT ts,h.get? a=some oe/\oe.cls=.ref C/\oe.data=.fields vs/\vs[0]?=some a0/\vs[1]?=some (.ref T)/\fr T/\H T=none/\T≠a/\h.get? T=some oT/\oT.data=.fields ts/\ts[3]?=some fl
def ExcAt(fr:Addr->Prop)(H:Hp)(a C:Addr)(h:Heap):Prop:=(fr a/\H a=none/\∃oe vs a0,h.get? a=some oe/\oe.cls=.ref C/\oe.data=.fields vs/\vs[0]?=some a0/\vs[1]?=some .none)\/xR fr .none H a C h
def nU(X:Cx)(fr:Addr->Prop)(H:Hp)(a C:Addr)(h:Heap):Prop:=ExcAt fr H a C h\/∃L,X.env.frame=some L/\xR fr (v2 L) H a C h
def b1K(X:Cx)(c:Str)(e:Value)(H:Hp)(s:Shared):Prop:=∃a C,e=.ref a/\eW X.K c=some C/\nU X (rQ X) H a C s.heap
theorem xR.mono{a:Addr}{h:Heap}(x:xR fr fl H a C h)(k:∀b,fr b->fr' b):xR fr' fl H a C h:=by obtain⟨B,g,e,c,t,T,f,d,s,r,q,p,o,j,i⟩:=x;exact⟨k _ B,g,e,c,t,T,f,d,s,r,q,p,o,k _ j,i⟩
theorem ExcAt.mono{H:Hp}{a C:Addr}{h:Heap}(x:ExcAt fr H a C h)(k:∀b,fr b->fr' b):ExcAt fr' H a C h:=by
 obtain⟨B,c⟩|x:=x;·exact .inl ⟨k _ B,c⟩
 ·exact .inr (x.mono k)
theorem nU.mono{fr c:Addr->Prop}{H:Hp}{a C:Addr}{h:Heap}(x:nU X fr H a C h)(k:∀b,fr b->c b):nU X c H a C h:=by
 obtain x|⟨L,B,x⟩:=x;·exact .inl (x.mono k)
 ·exact .inr ⟨L,B,x.mono k⟩
theorem ExcAt.ob{a:Addr}{h:Heap}(x:ExcAt fr H a C h):fr a/\H a=none/\∃b vs,ExO h a C b/\b.data=.fields vs:=by
 obtain⟨B,c,b,vs,g,f,e,d,_⟩|⟨B,c,b,vs,g,T,j,i,f,e,d,_⟩:=x;·exact⟨B,c,b,vs,⟨f,e⟩,d⟩
 ·exact⟨B,c,b,vs,⟨f,e⟩,d⟩
structure Chg(X:Cx)(fr:Addr->Prop)(cs:T0o)(H:Hp)(h h':Heap):Prop where
 ch:∀b∈cs,fr b/\H b=none/\∃o vs,h.get? b=some o/\o.data=.fields vs
 un:Un (frs X.stack) cs H H h h'
 hok:HOk X.prog X.w H h'
section
variable{U:List (Option V)}{a:Addr}
theorem a7A{Ts:T0o}{M:Value}(I:Inv X pz U H s)(hst:X.stack=X.env::X.outer)(A:fr a/\H a=none/\∃o vs,s.heap.get? a=some o/\o.data=.fields vs)(hT:∀b∈Ts,fr b/\H b=none/\∃o vs,s.heap.get? b=some o/\o.data=.fields vs)(J:base=vW s.heap ((a::Ts)++frs X.stack))(r:∀b,s.heap.get? b=none->fr b)(N:Heap.NotedW base (X.env::X.outer) a (.ref C) M fl s.heap h'):Chg X fr (a::Ts) H s.heap h'/\xR fr fl H a C h':=by
 obtain⟨Q,ff,⟨R,vs,T,S,E,e1,⟨e2,e3⟩,e4,e5,e6,e7,L,K,D⟩,P⟩:=N;have j:∀b∈frs X.stack,∃o,s.heap.get? b=some o/\∀vs,o.data≠.fields vs:=λb d=>by obtain⟨_,o,ho,t⟩:=I.stack.mem d;exact⟨o,ho,t⟩
 have keep:∀b o,s.heap.get? b=some o->b∉frs X.stack->b∉a::Ts->h'.get? b=some o:=λb o e p k=>Q b o (by rw[J];exact vv _ e λz=>(qX.mp z).elim k p);have f:∀b o,s.heap.get? b=some o->b∈frs X.stack->∃y,h'.get? b=some {o with slots:=y}:=λb o e d=>by obtain⟨F,g,t⟩:=j b d;rw[e]at g;cases g;exact P b o e t
 have i:∀b∈a::Ts,fr b/\H b=none/\∃o vs,s.heap.get? b=some o/\o.data=.fields vs:=λb d=>by
  obtain rfl|d:=qM.mp d;·exact A
  ·exact hT b d
 refine⟨⟨i,⟨λb o e n p k=>keep b o e p k,λb o e n p k=>f b o e p,λb o e n _=>n,λb o e k=>?_,λ_ _ q=>q,λ_ _ _ q=>q,λ_ ps q=>⟨#[],by rw[q];rfl⟩⟩,λb u q=>?_⟩,?_⟩
 ·by_cases d:b∈frs X.stack;·obtain⟨y,z⟩:=f b o e d;exact⟨_,z⟩
  ·exact⟨o,keep b o e d k⟩
 ·have tr:∀c u,H c=some u->c∉frs X.stack/\c∉a::Ts:=λc u q=>⟨λz=>(by rw[I.stkFree c z]at q;cases q),λz=>(by rw[(i c z).2.1]at q;cases q)⟩;refine(I.hok b u q).stay (λc v w z=>?_) (λ_ z=>z) λ_ _ z=>z;obtain rfl|w:=w;·exact keep c v z (tr c u q).1 (tr c u q).2
  ·exact keep c v z (tr c _ w).1 (tr c _ w).2
 ·refine⟨A.1,A.2.1,R,vs,M,T,S,E,e1,e2,e4,e3,e5,?_⟩;have G:fr T/\H T=none:=by cases q:s.heap.get? T with|none=>exact⟨r T q,b5K I.hok q⟩|some o=>
    have d:T∈(a::Ts)++frs X.stack:=jZ λz=>by have:=vv _ q z;rw[<-J,e6]at this;cases this
    obtain d|d:=qX.mp d;·exact⟨(i T d).1,(i T d).2.1⟩
    ·exfalso;obtain⟨F,g,t⟩:=j T d;obtain⟨y,z⟩:=f T F g d;rw[L]at z;cases z;exact t E K
  exact⟨G.1,G.2,e7,L,K,D⟩
theorem b8t{Q:Unit->Shared->Prop}(k:A.frames=some X.stack)(c:X.stack=X.env::X.outer)(v:X.env.frame=some X.env.locals)(I:Inv X pz U H s)(x:ExcAt fr H a C s.heap)(d:∀b,s.heap.get? b=none->fr b)(h:∀h' ch,Chg X fr ch H s.heap h'->xR fr (v2 X.env.locals) H a C h'->Q () {s with heap:=h'}):wpAny M A (QC (.ref a) X.env) Q E s:=by
 have p:∀(l:T0o),∀g∈X.env::X.outer,∀b,g.frame=some b->b∈l++frs X.stack:=λl g S b hb=>qb _ (by rw[c];exact zr.mpr ⟨g,S,hb⟩);have P:=I.stack;obtain⟨B,w,t,r,a0,j,D,i,y,u⟩|⟨B,w,t,r,a0,T,L,K,j,D,i,y,u,e6,e7,e8,R,q,F⟩:=x;·have f:=PySem.W.funFrames_hide (c▸P) (p [a]);unfold QC;simp only[v];refine j0 (yh j i u ?_);rw[if_neg (by decide)];refine wpAny_entryW (c▸k) f v j (λb o e=>wB ([a]++frs X.stack) e) (zZ ([a]++frs X.stack) (by simp)) i (jf.mp u).1 y λh' N=>?_;rw[D]at N;obtain⟨J,G⟩:=a7A (Ts:=[]) I c ⟨B,w,t,r,j,i⟩ (λ_ z=>nomatch z) rfl d N;exact h h' _ J G
 ·have f:=PySem.W.funFrames_hide (c▸P) (p [a,T]);refine wpAny_noteFrame_onW (c▸k) f v ⟨t,r,T,L,K,j,⟨D,y⟩,i,u,zZ ([a,T]++frs X.stack) (by simp),e8,R,q,F⟩ (λb o e=>wB ([a,T]++frs X.stack) e) (zZ ([a,T]++frs X.stack) (by simp)) λh' N=>?_;obtain⟨J,G⟩:=a7A (Ts:=[T]) I c ⟨B,w,t,r,j,i⟩ (λb z=>by cases qV.mp z;exact⟨e6,e7,L,K,R,q⟩) rfl d N;exact h h' _ J G
theorem Chg.same(a:HOk X.prog X.w H h):Chg X fr [] H h h:=⟨(λ_ z=>nomatch z),⟨λ_ _ e _ _ _=>e,λ_ o e _ _ _=>⟨o.slots,e⟩,λ_ _ _ n _=>n,λ_ o e _=>⟨o,e⟩,λ_ _ q=>q,λ_ _ _ q=>q,λ_ b q=>⟨#[],by rw[q];simp⟩⟩,a⟩
theorem a2R{Q:Unit->Shared->Prop}(e:A.frames=some X.stack)(d:X.stack=X.env::X.outer)(f:X.env.frame=some X.env.locals)(I:Inv X pz U H s)(x:nU X fr H a C s.heap)(c:∀b,s.heap.get? b=none->fr b)(h:∀h' ch,Chg X fr ch H s.heap h'->xR fr (v2 X.env.locals) H a C h'->Q () {s with heap:=h'}):wpAny M A (QC (.ref a) X.env) Q E s:=by
 obtain x|⟨L,j,x⟩:=x;·exact b8t e d f I x c h
 ·rw[f]at j;cases j;have q:=h s.heap [] (Chg.same I.hok) x;obtain⟨B,y,v,t,K,T,w,u,r,J,p,G,o,F,D,z,k,i,g⟩:=x;unfold QC;simp only[f];refine j0 (yh r p o ?_);rw[if_pos (by rfl)];refine j0 (yh k i g ?_);rw[if_pos (by simp)];exact j3 q
theorem a9P{Q:Unit->Shared->Prop}(g:HOk X.prog X.w H s.heap)(x:xR fr fl H a C s.heap)(h:∀h' ch,Chg X fr ch H s.heap h'->xR fr .none H a C h'->Q () {s with heap:=h'}):wpAny M A (setFlight (.ref a) none) Q E s:=by
 obtain⟨B,J,G,D,P,T,I,F,N,L,y,K,w,t,k,r,j,d,p⟩:=x;have sz:=(jf.mp p).1;refine wpAny_setFlight_none N y w j d sz (h _ [T] ⟨λb z=>?_,⟨λb o e n _ f=>?_,λb o e n _ f=>?_,λb o e n _=>n,λb o e f=>?_,λ_ _ q=>q,λ_ _ _ q=>q,λ_ R q=>⟨#[],by rw[q];simp⟩⟩,λb u q=>?_⟩ ?_);·cases qV.mp z;exact⟨t,k,I,F,j,d⟩
 ·rwa[qm _ _ (λz=>f (by simp[z]))]
 ·exact⟨o.slots,by rwa[qm _ _ (λz=>f (by simp[z]))]⟩
 ·exact⟨o,by rwa[qm _ _ (λz=>f (by simp[z]))]⟩
 ·have tr:∀c u,H c=some u->T≠c:=λc u q z=>by rw[<-z,k]at q;cases q
  refine(g b u q).stay (λc v i z=>?_) (λ_ z=>z) λ_ _ z=>z;obtain rfl|i:=i;·rwa[qm _ _ (tr c u q)]
  ·rwa[qm _ _ (tr c _ i)]
 ·refine⟨B,J,G,D,P,T,_,_,?_,L,y,K,w,t,k,r,kS _ j (Obj.isFreed_of_fields (vO d _)),vO d _,by simp[sz]⟩;rwa[qm _ _ r]
theorem a2Y{Q:Unit->Shared->Prop}(e:A.frames=some X.stack)(d:X.stack=X.env::X.outer)(p:X.env.frame=some X.env.locals)(I:Inv X pz U H s)(x:nU X fr H a C s.heap)(c:∀b,s.heap.get? b=none->fr b)(h:∀h' ch,Un (frs X.stack) ch H H s.heap h'->(∀b∈ch,fr b)->HOk X.prog X.w H h'->ExcAt fr H a C h'->Q () {s with heap:=h'}):wpAny M A (leaving X.env (.ref a)) Q E s:=by
 refine j0 (a2R e d p I x c λB g j o=>?_);refine a9P (X:=X) (s:={s with heap:=B}) j.hok o λq f i k=>?_;refine h q (g++f) ((j.un.mono (λ_ z=>z) λb z=>jQ _ z).trans (i.un.mono (λ_ z=>z) λb z=>qb _ z)) (λb z=>?_) i.hok (.inr k);obtain z|z:=qX.mp z;·exact(j.ch b z).1
 ·exact(i.ch b z).1
theorem Inv.chg(I:Inv X pz U H s)(c:Chg X (λb=>rQ X b/\∀p∈pz,p.1≠b) ch H s.heap h'):Inv X pz U H {s with heap:=h'}:=by
 obtain⟨m,Q,R⟩:=id I.loc;obtain⟨oL,T,ep,w,G⟩:=id Q;have cL:X.env.locals∉ch:=λz=>by obtain⟨_,_,o,L,a,j⟩:=c.ch _ z;rw[w]at a;cases a;rw[G.1]at j;cases j
 have cC:∀x d,X.env.cells.lookup x=some d->d∉ch:=λx d e z=>by obtain⟨_,_,o,L,a,j⟩:=c.ch _ z;obtain⟨v,J,D,e4⟩:=I.cell x d e;rw[D]at a;cases a;rw[e4]at j;cases j
 have E:∀b o,X.s₀.heap.get? b=some o->b∉X.ex->b∉ch:=λb o e n z=>by
  rcases(c.ch b z).1.1.1 with q|q;·exact n q
  ·rw[e]at q;cases q
 have cP:∀p∈X.pn++pz,p.1∉ch:=λp t z=>by
  obtain t|t:=qX.mp t;·exact(c.ch _ z).1.1.2 p t rfl
  ·exact(c.ch _ z).1.2 p t rfl
 have C:∀b o,X.s₀.heap.get? b=some o->b≠X.env.locals:=λb o e=>qW (qU (qN e) I.ok.above);have nst:∀b,b≠X.env.locals->b∉X.fs->b∉frs X.stack:=λb N M z=>(qM.mp (I.stkSub b z)).elim N M;have f:∀x d,X.env.cells.lookup x=some d->∀v,s.heap.IsCell d v->h'.IsCell d v:=by rintro x d e v⟨o,P,S⟩;obtain⟨F,q⟩:=c.un.any P (I.freeC x d e) (cC x d e);exact⟨_,q,S⟩
 refine⟨I.ok,I.os,I.bare,⟨λb o e n y g=>?_,λb o e n y g=>?_,I.base.free,λb o e g=>?_,I.base.tups,I.base.frzs,I.base.tbls⟩,⟨m,?_,λi x v a j D=>?_⟩,λx d e=>?_,I.free,I.freeC,λp t=>?_,c.hok,I.len⟩;·exact c.un.keep b o (I.base.keep b o e n y g) (I.base.free b o e n g) (nst b (C b o e) y) (E b o e g)
 ·obtain⟨F,a⟩:=I.base.slot b o e n y g;obtain⟨A,j⟩:=c.un.any a (I.base.free b o e n g) (E b o e g);exact⟨A,j⟩
 ·obtain⟨J,a⟩:=I.base.there b o e g;exact c.un.there b J a (E b o e g)
 ·obtain⟨F,q⟩:=c.un.any w I.free cL;exact⟨_,T,ep,q,G⟩
 ·obtain⟨u,r,l⟩:=R i x v a j D;refine⟨u,r,?_⟩;obtain l|⟨k,d,e,z⟩:=l;·exact .inl l
  ·exact .inr ⟨k,d,e,f x d e _ z⟩
 ·obtain⟨v,z⟩:=I.cell x d e;exact⟨v,f x d e v z⟩
 ·obtain⟨e,n,ne,K,d⟩:=I.pin p t;exact⟨c.un.keep p.1 p.2 e n (nst p.1 ne K) (cP p t),n,ne,K,d⟩
theorem Inv.track(I:Inv X pz U H s)(k:rQ X a/\∀p∈pz,p.1≠a)(i:H a=none)(J:∃u vs,s.heap.get? a=some u/\u.data=.fields vs)(ok:cU X.prog X.w (upd H a o) s.heap a o):Inv X pz U (upd H a o) s:=by
 obtain⟨u,vs,t,j⟩:=J;have F:X.env.locals≠a:=λz=>by obtain⟨m,⟨M,P,Q,g,A⟩,_⟩:=id I.loc;rw[z,t]at g;cases g;rw[A.1]at j;cases j
 have G:∀x d,X.env.cells.lookup x=some d->d≠a:=λx d e z=>by obtain⟨v,N,y,K⟩:=I.cell x d e;rw[z,t]at y;cases y;rw[K]at j;cases j
 refine⟨I.ok,I.os,I.bare,⟨I.base.keep,I.base.slot,λb o e n r=>?_,I.base.there,λb Y e=>?_,λb o u e=>?_,λb C e=>?_⟩,I.loc,I.cell,?_,λx d e=>?_,λp f=>?_,λb v e=>?_,I.len⟩
 ·rw[aE (λz=>by
   subst z;obtain q|q:=k.1.1;·exact r q
   ·rw[e]at q;cases q)];exact I.base.free b o e n r
 ·have q:=I.base.tups b Y e;rwa[aE (aK q i)]
 ·have q:=I.base.frzs b o u e;rwa[aE (aK q i)]
 ·obtain⟨more,q⟩:=I.base.tbls b C e;exact⟨more,by rwa[aE (aK q i)]⟩
 ·rw[aE F];exact I.free
 ·rw[aE (G x d e)];exact I.freeC x d e
 ·obtain⟨e,n,ne,E,d⟩:=I.pin p f;have D:p.1≠a:=by
   obtain f|f:=qX.mp f;·exact k.1.2 p f
   ·exact k.2 p f
  exact⟨e,by rwa[aE D],ne,E,d⟩
 ·by_cases w:b=a;·subst w;rw[aJ]at e;cases e;exact ok
  ·rw[aE w]at e;exact(I.hok b v e).stay (λc L _ q=>q) (λc q=>by rwa[aE (aK q i)]) λc Y q=>by rwa[aE (aK q i)]
end
inductive Re(α:Type)where|ok(a:α)|ex(c:Str)
noncomputable abbrev Mm(α:Type):=Option (Re α)
noncomputable abbrev ret{α:Type}(a:α):Mm α:=some (.ok a)
noncomputable def bnd{α β:Type}(m:Mm α)(k:α->Mm β):Mm β:=match m with|some (.ok a)=>k a|some (.ex c)=>some (.ex c)|none=>none
noncomputable def lft{α:Type}(o:Option α):Mm α:=match o with|some a=>some (.ok a)|none=>none
abbrev EF:=List Ent->Mm q8
abbrev TF:=List Ent->Mm Bool
abbrev AF:=List Ent->Mm (List q8)
section
variable{α β:Type}
theorem b9M a(k:α->Mm β):bnd (some (.ok a)) k=k a:=rfl
theorem dB{k:α->Mm β}{r:Re β}(h:bnd m k=some r):(∃a,m=some (.ok a)/\k a=some r)\/∃c,m=some (.ex c)/\r=.ex c:=by match m,h with|some (.ok a),h=>exact .inl ⟨a,rfl,h⟩|some (.ex c),h=>exact .inr ⟨c,rfl,(qA h).symm⟩|none,h=>cases h
theorem bL{o:Option α}{r:Re α}(h:lft o=some r):∃a,o=some a/\r=.ok a:=by match o,h with|some a,h=>exact⟨a,rfl,(qA h).symm⟩|none,h=>cases h
end
def mR(X:Cx)(H0 Gz G:Hp)(Z:List Ent)(c:Str):Prop:=∀ pz s'(U:St) H' G' e,Inv X pz U H' s'->RepS X.K H0 Gz G' H' U Z->aT G G'->b1K X c e H' s'->X.xe e s'
theorem mR.mono{c:Str}(h:mR X H0 Gz G Z c)(s:aT G G'):mR X H0 Gz G' Z c:=λb a U d f e I R g x=>h b a U d f e I R (s.trans g) x
def a8x(X:Cx)(H0 Gz G:Hp)(Z:List Ent)(H:Hp)(Q:VK):Re q8->Prop|.ok d=>∀v G' H',Grow G H G' H'->Rep X.K G' v d->Q v H'|.ex c=>mR X H0 Gz G Z c
def a8w(X:Cx)(H0 Gz G:Hp)(Z:List Ent)(H:Hp)(Q:Bool->Hp->Prop):Re Bool->Prop|.ok b=>∀G' H',Grow G H G' H'->Q b H'|.ex c=>mR X H0 Gz G Z c
def b3A(X:Cx)(H0 Gz G:Hp)(Z:List Ent)(H:Hp)(Q:List V->Hp->Prop):Re (List q8)->Prop|.ok O=>∀vs G' H',Grow G H G' H'->RepAll X.K G' vs O->Q vs H'|.ex c=>mR X H0 Gz G Z c
noncomputable def rE(X:Cx)(f:EF):TE:=λU H Q=>∃Z r H0 Gz G,f Z=some r/\RepS X.K H0 Gz G H U Z/\a8x X H0 Gz G Z H Q r
noncomputable def rT(X:Cx)(f:TF):TT:=λU H Q=>∃Z r H0 Gz G,f Z=some r/\RepS X.K H0 Gz G H U Z/\a8w X H0 Gz G Z H Q r
noncomputable def rA(X:Cx)(f:AF):TA:=λU H Q=>∃Z r H0 Gz G,f Z=some r/\RepS X.K H0 Gz G H U Z/\b3A X H0 Gz G Z H Q r
structure DE(X:Cx)(e:Expr)(f:EF):Prop where run:PE X e (rE X f)
structure DT(X:Cx)(e:Expr)(f:TF):Prop where run:PT X e (rT X f)
structure DW(X:Cx)(e:Expr)(f:TF):Prop where run:PW X e (rT X f)
structure DA(X:Cx)(es:T0n)(f:AF):Prop where run:PA X es (rA X f)
variable{r:Re q8}{fa:EF}
theorem a8x.more(q:a8x X H0 Gz G Z H Q r)(g:Grow G H G1 H1):a8x X H0 Gz G1 Z H1 Q r:=by cases r with|ok d=>exactλv f e b a=>q v f e (g.trans b) a|ex c=>exact mR.mono q g.gg
theorem a8w.more{Q:Bool->Hp->Prop}{r:Re Bool}(q:a8w X H0 Gz G Z H Q r)(g:Grow G H G1 H1):a8w X H0 Gz G1 Z H1 Q r:=by cases r with|ok d=>exactλe b a=>q e b (g.trans a)|ex c=>exact mR.mono q g.gg
theorem b3A.more{Q:List V->Hp->Prop}{r:Re (List q8)}(q:b3A X H0 Gz G Z H Q r)(g:Grow G H G1 H1):b3A X H0 Gz G1 Z H1 Q r:=by cases r with|ok d=>exactλv f e b a=>q v f e (g.trans b) a|ex c=>exact mR.mono q g.gg
theorem bE{k:q8->Mm β}{r:Re β}(R:RepS X.K H0 Gz G H U Z)(e:bnd (fa Z) k=some r){T:VK}(hx:∀c,r=.ex c->mR X H0 Gz G Z c)(h:∀x v G1 H1,Grow G H G1 H1->RepS X.K H0 Gz G1 H1 U Z->Rep X.K G1 v x->k x=some r->T v H1):rE X fa U H T:=by
 obtain⟨x,b,a⟩|⟨c,b,a⟩:=dB e;·exact⟨Z,_,H0,Gz,G,b,R,λv G1 H1 d f=>h x v G1 H1 d (R.more d) f a⟩
 ·exact⟨Z,_,H0,Gz,G,b,R,hx c a⟩
theorem bT{fa:TF}{d:Type}{k:Bool->Mm d}{r:Re d}(R:RepS X.K H0 Gz G H U Z)(e:bnd (fa Z) k=some r){T:Bool->Hp->Prop}(hx:∀c,r=.ex c->mR X H0 Gz G Z c)(h:∀x G1 H1,Grow G H G1 H1->RepS X.K H0 Gz G1 H1 U Z->k x=some r->T x H1):rT X fa U H T:=by
 obtain⟨x,b,a⟩|⟨c,b,a⟩:=dB e;·exact⟨Z,_,H0,Gz,G,b,R,λG1 H1 f=>h x G1 H1 f (R.more f) a⟩
 ·exact⟨Z,_,H0,Gz,G,b,R,hx c a⟩
theorem bA{fa:AF}{d:Type}{k:List q8->Mm d}{r:Re d}(R:RepS X.K H0 Gz G H U Z)(e:bnd (fa Z) k=some r){T:List V->Hp->Prop}(hx:∀c,r=.ex c->mR X H0 Gz G Z c)(h:∀x v G1 H1,Grow G H G1 H1->RepS X.K H0 Gz G1 H1 U Z->RepAll X.K G1 v x->k x=some r->T v H1):rA X fa U H T:=by
 obtain⟨x,b,a⟩|⟨c,b,a⟩:=dB e;·exact⟨Z,_,H0,Gz,G,b,R,λv G1 H1 f g=>h x v G1 H1 f (R.more f) g a⟩
 ·exact⟨Z,_,H0,Gz,G,b,R,hx c a⟩
theorem a8x.x(q:a8x X H0 Gz G Z H Q r):∀c,r=.ex c->mR X H0 Gz G Z c:=λc e=>by subst e;exact q
theorem a8w.x{Q:Bool->Hp->Prop}{r:Re Bool}(q:a8w X H0 Gz G Z H Q r):∀c,r=.ex c->mR X H0 Gz G Z c:=λc e=>by subst e;exact q
theorem b3A.x{Q:List V->Hp->Prop}{r:Re (List q8)}(q:b3A X H0 Gz G Z H Q r):∀c,r=.ex c->mR X H0 Gz G Z c:=λc e=>by subst e;exact q
variable{fb fc:EF}{f:AF}{g g':q8->q8->Option Bool}{o' op':CmpOp}{rs:List Expr}
theorem a1F{f:EF}(h:∀Z r,f Z=some r->∃d,r=.ok d/\PD X e Z d):DE X e f:=⟨by rintro a s U H Q I⟨Z,r,g,i,G,c,R,q⟩;obtain⟨d,rfl,b⟩:=h Z r c;exact b.run g i G a s U H Q I R q⟩
theorem DE.pd{f:EF}(h:DE X e f)(q:f Z=some (.ok d)):PD X e Z d:=⟨λb c G a s U H Q I R k=>h.run a s U H Q I ⟨Z,_,b,c,G,q,R,k⟩⟩
theorem DT.ptd{f:TF}(h:DT X e f){d:Bool}(q:f Z=some (.ok d)):PTD X e Z d:=⟨λb c G a s U H Q I R k=>h.run a s U H Q I ⟨Z,_,b,c,G,q,R,k⟩⟩
noncomputable def cst(d:q8):EF:=λ_=>some (.ok d)
noncomputable def var(i:Nat):EF:=λZ=>match Z[i]? with|some (.val d)=>some (.ok d)|_=>none
theorem aG{j:_}:DE X (.Constant (.int i) j pos) (cst (.int i)):=a1F λZ r e=>⟨_,(qA e).symm,c1w⟩
theorem aP{j:_}:DE X (.Constant (.str x) j pos) (cst (.str x)):=a1F λZ r e=>⟨_,(qA e).symm,c1v⟩
theorem nR{j:_}:DE X (.Constant (.bool x) j pos) (cst (.bool x)):=a1F λZ r e=>⟨_,(qA e).symm,b8e⟩
theorem b1A{j:_}:DE X (.Constant .none j pos) (cst .none):=a1F λZ r e=>⟨_,(qA e).symm,b8c⟩
theorem tM(b:Gl X x)(a:∃t,X.mg x=some (.int i t))(c:U2 x:=by decide):DE X (.Name x pos) (cst (.int i)):=a1F λZ r e=>⟨_,(qA e).symm,by obtain⟨t,a⟩:=a;exact b4M b a c⟩
theorem c0J{i:Nat}(h:var i Z=some r):∃d,r=.ok d/\Z[i]?=some (.val d):=by
 unfold var at h;split at h;·rename_i d e;exact⟨d,(qA h).symm,e⟩
 ·cases h
theorem aC i{x:Str}(a:U0 X i x:=by exact U1):DE X (.Name x pos) (var i):=a1F λZ r e=>by obtain⟨d,c,b⟩:=c0J e;exact⟨d,c,c1u i b a⟩
structure OpD(X:Cx)(op:Operator)(x y d:q8):Prop where ex:∃r:R2,OpR X (wz op) r/\∀v u G H Q,aT G H->Rep X.K G v x->Rep X.K G u y->(∀w G' H',Grow G H G' H'->Rep X.K G' w d->Q w H')->r v u H Q
def op2(g:q8->q8->Option q8)(fa fb:EF):EF:=λZ=>bnd (fa Z) λx=>bnd (fb Z) λy=>lft (g x y)
theorem a5U{f:Value->Value->Sem Value}:OpR X f (λv u H Q=>∃r,OpR X f r/\r v u H Q):=(by rintro c s U H x y v u Q I b a⟨_,h,q⟩;exact h c s U H x y v u Q I b a q)
theorem bB{i:Operator}{g:q8->q8->Option q8}(t:∀x y d,g x y=some d->OpD X i x y d)(A:DE X a fa)(z:DE X b fb):DE X (.BinOp a i b pos) (op2 g fa fb):=⟨by rintro p s U H Q I⟨Z,r,T,Gz,G,e,R,q⟩;exact c0f a5U A.run z.run p s U H Q I (bE R e q.x λx v G1 S j K k J=>bE K J (q.more j).x λy u N L f R2 o F=>by obtain⟨d,E,rfl⟩:=bL F;obtain⟨r,B,C⟩:=(t x y d E).ex;exact⟨r,B,C v u N L Q f.sub (k.mono f.gg) o λw P M D c=>q w P M ((j.trans f).trans D) c⟩)⟩
noncomputable def aH:AF:=λ_=>some (.ok [])
def aB(f:EF)(g:AF):AF:=λZ=>bnd (f Z) λx=>bnd (g Z) λY=>some (.ok (x::Y))
theorem aF:DA X [] aH:=⟨by rintro a b s U H Q I⟨Z,r,c,d,G,e,R,q⟩;exact fE a b s U H Q I (by cases(qA e);exact q [] G H (.refl R.sub) .nil)⟩
theorem aA(k:DE X e fa)(j:DA X es f)(hs:U5 X e es:=by rfl):DA X (e::es) (aB fa f):=⟨by rintro a i s U H Q I⟨Z,r,C,D,G,e,R,q⟩;exact dC k.run j.run hs a i s U H Q I (bE R e q.x λx v E A c t d p=>bA t p (q.more c).x λy z w u b R2 g o=>by cases(qA o);exact q _ w u (c.trans b) (.cons (d.mono b.gg) g))⟩
noncomputable def dI(n:Nat):Bool:=decide (n<=100000)
theorem lY(h:dI n=true):n<=j5:=qg (of_decide_eq_true h) (by decide)
theorem b0B(h:dI n=true):n<j5:=kg (of_decide_eq_true h) (by decide)
def a1t(O:T0l):Option q8:=if dI O.length then some (.tuple O)else none
def a4N(O:T0l):Option q8:=if dI O.length then some (.list O)else none
def eB(f:AF):EF:=λZ=>bnd (f Z) λY=>lft (a1t Y)
def pR(f:AF):EF:=λZ=>bnd (f Z) λY=>lft (a4N Y)
theorem b5n(h:a1t O=some d):d=.tuple O/\O.length<=j5:=by
 unfold a1t at h;split at h;·rename_i z;exact⟨(qA h).symm,lY z⟩
 ·cases h
theorem b5o(h:a4N O=some d):d=.list O/\O.length<=j5:=by
 unfold a4N at h;split at h;·rename_i z;exact⟨(qA h).symm,lY z⟩
 ·cases h
theorem dP(h:DA X es f):DE X (.Tuple es x1 pos) (eB f):=⟨by rintro g s U H Q I⟨Z,r,v,w,G,e,R,q⟩;exact c1o h.run g s U H Q I (bA R e q.x λY k y u a t b j=>by obtain⟨d,i,rfl⟩:=bL j;obtain⟨rfl,o⟩:=b5n i;exact⟨by rwa[b.length],λp c=>q _ _ _ (a.trans (.put a.sub c)) (.tuple (.of aJ) (b.mono (cW (a.sub.free c))))⟩)⟩
theorem lG(h:DA X es f):DE X (.List es pos) (pR f):=⟨by rintro g s U H Q I⟨Z,r,v,w,G,e,R,q⟩;exact a2L h.run g s U H Q I (bA R e q.x λY k y u a t b j=>by obtain⟨d,i,rfl⟩:=bL j;obtain⟨rfl,o⟩:=b5o i;exact⟨by rwa[b.length],λp c=>q _ _ _ (a.trans (.put a.sub c)) (.list (.of aJ) (b.mono (cW (a.sub.free c))))⟩)⟩
def a8o(g:q8->q8->Option Bool)(fa fb:EF):EF:=λZ=>bnd (fa Z) λx=>bnd (fb Z) λy=>lft ((g x y).map .bool)
def bJ(g:q8->q8->Option Bool)(fa fb:EF):TF:=λZ=>bnd (fa Z) λx=>bnd (fb Z) λy=>lft (g x y)
theorem b6D(p:∀x y t,g x y=some t->CmpD X op x y t)(z:DE X a fa)(w:DE X b fb)(o:v9 op b=false:=by first|exact b4X _|with_unfolding_all rfl):DE X (.Compare a [op] [b] pos) (a8o g fa fb):=⟨by rintro k s U H Q I⟨Z,r,N,P,G,e,R,q⟩;exact b8a a5U z.run w.run o k s U H Q I (bE R e q.x λx v S M f J i F=>bE J F (q.more f).x λy u L K c R2 j E=>by obtain⟨d,D,rfl⟩:=bL E;obtain⟨t,C,rfl⟩:=qH.mp D;obtain⟨r,B,A⟩:=(p x y t C).ex;exact⟨r,B,A v u L K Q c.sub (i.mono c.gg) j (q _ _ _ (f.trans c) (.bool _))⟩)⟩
theorem aW(o:∀x y t,g x y=some t->CmpD X op x y t)(w:DE X a fa)(p:DE X b fb)(k:v9 op b=false:=by first|exact b4X _|with_unfolding_all rfl):DT X (.Compare a [op] [b] pos) (bJ g fa fb):=⟨by rintro j s U H Q I⟨Z,r,L,M,G,e,R,q⟩;exact b7R a5U w.run p.run k j s U H Q I (bE R e q.x λx v N K d E f D=>bE E D (q.more d).x λy u J F c R2 i C=>by obtain⟨t,A,rfl⟩:=bL C;obtain⟨r,B,z⟩:=(o x y t A).ex;exact⟨r,B,z v u J F _ c.sub (f.mono c.gg) i ⟨_,rfl,q _ _ (d.trans c)⟩⟩)⟩
def c3b(g g':q8->q8->Option Bool)(fa fb fc:EF):EF:=λZ=>bnd (fa Z) λx=>bnd (fb Z) λy=>bnd (lft (g x y)) λt=>if t then bnd (fc Z) λz=>lft ((g' y z).map .bool)else some (.ok (.bool false))
def c3a(g g':q8->q8->Option Bool)(fa fb fc:EF):TF:=λZ=>bnd (fa Z) λx=>bnd (fb Z) λy=>bnd (lft (g x y)) λt=>if t then bnd (fc Z) λz=>lft (g' y z)else some (.ok false)
section
variable{o:CmpOp}{v:Value}{xv:V}{x:q8}
theorem a3v{k:q8->Bool->Mm α}{r:Re α}{P:Value->Value->Bool->Shared->Prop}(B:∀x y t,g x y=some t->CmpD X o x y t)(L:DE X b fb)(I:Inv X pz U H s)(J:RelV xv v)(F:Rep X.K G xv x)(R:RepS X.K H0 Gz G H U Z)(hx:∀c,r=.ex c->mR X H0 Gz G Z c)(e:bnd (fb Z) (λy=>bnd (lft (g x y)) (k y))=some r)(h:∀u d y t a H2 f,Grow G H a H2->Inv X pz U H2 f->RelV d u->Rep X.K a d y->RepS X.K H0 Gz a H2 U Z->k y t=some r->P u (.bool t) t f):wpAny (model X.prog X.w) X.A (eval b X.env) (λu p=>wpAny (model X.prog X.w) X.A (wa o v u) (λc f=>wpAny (model X.prog X.w) X.A (truthy c) (λt E=>P u c t E) X.xe f) X.xe p) X.xe s:=by
 refine thn (L.run pz s U H (λd H2=>∃y a t,CmpD X o x y t/\Grow G H a H2/\Rep X.K a d y/\RepS X.K H0 Gz a H2 U Z/\k y t=some r) I (bE R e hx λy d a H2 j R2 i Q=>by
  obtain⟨t,A,C⟩|⟨_,A,_⟩:=dB Q;·obtain⟨t',q,z⟩:=bL A;cases z;exact⟨y,a,_,B x y _ q,j,i,R2,C⟩
  ·obtain⟨_,_,z⟩:=bL A;cases z)) λu p⟨d,H2,I2,D,y,a,t,ct,j,i,R2,C⟩=>?_;obtain⟨rr,T,S⟩:=ct.ex;refine thn (T pz p U H2 xv d v u (λw H'=>w=.bl t/\H'=H2) I2 J D (S xv d a H2 _ R2.sub (F.mono j.gg) i ⟨rfl,rfl⟩)) ?_;rintro c f⟨z,H3,I3,K,M,N⟩;subst M N;cases K;exact wt (h u d y t a H3 f j I3 D i R2 C)
def Wch(X:Cx)(pz:T0b)(U:St)(H0 Gz:Hp)(Z:List Ent){α β:Type}(EN:Hp->Hp->Re α->Prop)(P:β->Shared->Prop)(r:Re α)(M:Value->Sem β)(F:q8->Mm α):Prop:=∀v xv x H G s,Inv X pz U H s->RelV xv v->Rep X.K G xv x->RepS X.K H0 Gz G H U Z->EN G H r->F x=some r->wpAny (model X.prog X.w) X.A (M v) P X.xe s
noncomputable abbrev b9W(X:Cx)(pz:T0b)(U:St)(H0 Gz:Hp)(Z:List Ent)(Q:VK)(r:Re q8):=Wch X pz U H0 Gz Z (λG H=>a8x X H0 Gz G Z H Q) (EP X pz U Q) r
noncomputable abbrev b9X(X:Cx)(pz:T0b)(U:St)(H0 Gz:Hp)(Z:List Ent)(Q:Bool->Hp->Prop)(r:Re Bool):=Wch X pz U H0 Gz Z (λG H=>a8w X H0 Gz G Z H Q) (TP X pz U Q) r
variable{r':Sem Value}{rs:List (Sem Value)}{QT:Bool->Hp->Prop}
theorem a1c(B:∀x y t,g x y=some t->CmpD X o x y t)(A:DE X b fb)(n:b9W X pz U H0 Gz Z Q r (λu=>QH pos u (o'::ops) (r'::rs)) F):b9W X pz U H0 Gz Z Q r (λv=>QH pos v (o::o'::ops) (eval b X.env::r'::rs)) λx=>bnd (fb Z) λy=>bnd (lft (g x y)) λt=>if t then F y else some (.ok (.bool false)):=λv D x H G s I w p R q e=>chain_link (a3v B A I w p R q.x e λu i y t C f j a d z k R2 c=>by cases t with|false=>cases(qA c);exact⟨.bl false,f,d,rfl,q _ _ _ a (.bool _)⟩|true=>exact n u i y f C j d z k R2 (q.more a) c)
theorem a5f(B:∀x y t,g x y=some t->CmpD X o x y t)(D:DE X b fb):b9W X pz U H0 Gz Z Q r (λv=>QH pos v [o] [eval b X.env]) λx=>bnd (fb Z) λy=>lft ((g x y).map .bool):=λv d x H G s I w u R q e=>chain_last (thn (D.run pz s U H (λk c=>∃a,OpR X (wa o) a/\a d k c Q) I
  (bE R e q.x λj k M c f P rk J=>by obtain⟨N,F,rfl⟩:=bL J;obtain⟨t,E,rfl⟩:=qH.mp F;obtain⟨a,i,K⟩:=(B x j t E).ex;exact⟨a,i,K d k M c Q f.sub (u.mono f.gg) rk (q _ _ _ f (.bool _))⟩)) (by rintro k p⟨C,c,L,z,a,i,A⟩;exact i pz p U c d C v k Q L w z A))
theorem a1d{r:Re Bool}{F:q8->Mm Bool}(B:∀x y t,g x y=some t->CmpD X o x y t)(A:DE X b fb)(n:b9X X pz U H0 Gz Z QT r (λu=>testChain pos u (o'::ops) (r'::rs)) F):b9X X pz U H0 Gz Z QT r (λv=>testChain pos v (o::o'::ops) (eval b X.env::r'::rs)) λx=>bnd (fb Z) λy=>bnd (lft (g x y)) λt=>if t then F y else some (.ok false):=λv D x H G s I w p R q e=>test_link (a3v B A I w p R q.x e λu i y t C f j a d z k R2 c=>by cases t with|false=>cases(qA c);exact⟨f,d,q _ _ a⟩|true=>exact n u i y f C j d z k R2 (q.more a) c)
theorem a5g{r:Re Bool}(B:∀x y t,g x y=some t->CmpD X o x y t)(d:DE X b fb):b9X X pz U H0 Gz Z QT r (λv=>testChain pos v [o] [eval b X.env]) λx=>bnd (fb Z) λy=>lft (g x y):=λv z x H G s I c a R q e=>test_last (a3v (k:=λ_ t=>some (.ok t)) B d I c a R q.x (e▸congrArg (bnd (fb Z)) (funext λy=>by cases g x y<;>rfl)) λu w y t E p A f j D C R2 i=>by cases(qA i);exact⟨p,j,q _ _ f⟩)
end
theorem a8j{o:CmpOp}{F:List Ent->q8->Mm q8}(z:DE X a fa)(y:QA (o::o'::ops) (b::c::rs)=false)(W:∀pz U Z H0 Gz Q r,b9W X pz U H0 Gz Z Q r (λv=>QH pos v (o::o'::ops) (eval b X.env::eval c X.env::evalEach rs X.env)) (F Z)):DE X (.Compare a (o::o'::ops) (b::c::rs) pos) (λZ=>bnd (fa Z) (F Z)):=⟨by rintro pz s U H Q I⟨Z,r,H0,Gz,G,A,R,q⟩;exact Compare_chain (thn (z.run pz s U H (λf e=>∃x d,Rep X.K d f x/\RepS X.K H0 Gz d e U Z/\a8x X H0 Gz d Z e Q r/\F Z x=some r) I (bE R A q.x λx v d e w i p g=>⟨x,d,p,i,q.more w,g⟩)) λv j⟨f,e,C,t,x,d,k,i,u,g⟩=>W pz U Z H0 Gz Q r v f x e d j C t k i u g) y⟩
theorem a8e{o:CmpOp}{F:List Ent->q8->Mm Bool}(z:DE X a fa)(y:QA (o::o'::ops) (b::c::rs)=false)(W:∀pz U Z H0 Gz Q r,b9X X pz U H0 Gz Z Q r (λv=>testChain pos v (o::o'::ops) (eval b X.env::eval c X.env::evalEach rs X.env)) (F Z)):DT X (.Compare a (o::o'::ops) (b::c::rs) pos) (λZ=>bnd (fa Z) (F Z)):=⟨by rintro pz s U H Q I⟨Z,r,H0,Gz,G,A,R,q⟩;exact isTrue_chain (thn (z.run pz s U H (λf e=>∃x d,Rep X.K d f x/\RepS X.K H0 Gz d e U Z/\a8w X H0 Gz d Z e Q r/\F Z x=some r) I (bE R A q.x λx v d e w i p g=>⟨x,d,p,i,q.more w,g⟩)) λv j⟨f,e,C,t,x,d,k,i,u,g⟩=>W pz U Z H0 Gz Q r v f x e d j C t k i u g) y⟩
theorem c2Q(f:∀x y t,g x y=some t->CmpD X op x y t)(d:∀x y t,g' x y=some t->CmpD X op' x y t)(k:DE X a fa)(j:DE X b fb)(i:DE X c fc)(e:QA [op,op'] [b,c]=false:=by with_unfolding_all rfl):DE X (.Compare a [op,op'] [b,c] pos) (c3b g g' fa fb fc):=a8j k e λ_ _ _ _ _ _ _=>a1c f j (a5f d i)
theorem c2H(f:∀x y t,g x y=some t->CmpD X op x y t)(d:∀x y t,g' x y=some t->CmpD X op' x y t)(k:DE X a fa)(j:DE X b fb)(i:DE X c fc)(e:QA [op,op'] [b,c]=false:=by with_unfolding_all rfl):DT X (.Compare a [op,op'] [b,c] pos) (c3a g g' fa fb fc):=a8e k e λ_ _ _ _ _ _ _=>a1d f j (a5g d i)
variable{ft fu:TF}
section
variable{rest:T0n}
def a6Q:q8->Option Bool|.none=>some false|.bool b=>some b|.int i=>some (i !=0)|.str x=>if dI x.length then some ((x.length:Int)!=0)else none|.list O=>some (!O.isEmpty)|.tuple O=>some (!O.isEmpty)|.dict _=>none
theorem a4D{K:qB}(r:RepAll K G vs O):O.isEmpty=vs.isEmpty:=by have h:=r.length;cases vs<;>cases O<;>simp at h⊢
theorem b7l{K:qB}(s:aT G H)(r:Rep K G v d)(h:a6Q d=some t):c3j K v H t:=by cases r with
 |none=>exact(qA h).symm|bool b=>exact(qA h).symm|int i=>exact(qA h).symm|str x=>
  have h:(if dI x.length=true then some ((x.length:Int)!=0)else none)=some t:=h;split at h;·rename_i z;exact⟨lY z,(qA h).symm⟩
  ·cases h|list a r=>exact .inl ⟨_,s.seq a,by rw[<-a4D r];exact(qA h).symm⟩|tuple a r=>exact .inr (.inl ⟨_,rV s a,by rw[<-a4D r];exact(qA h).symm⟩)|dict _ _ _=>cases h
def iS(fa:EF):TF:=λZ=>bnd (fa Z) λx=>lft (a6Q x)
theorem lE(g:DE X a fa)(f:∀whole,isTrue a X.env whole=(do let v<-whole;QP a.pos;holding [v] (truthy v)):=by intro _;rfl):DT X a (iS fa):=⟨by rintro d s U H Q I⟨Z,r,p,u,G,e,R,q⟩;exact b4r g.run f d s U H Q I (bE R e q.x λx v w o b k c j=>by obtain⟨t,i,rfl⟩:=bL j;exact⟨t,b7l b.sub c i,q _ _ b⟩)⟩
def lC(ft:TF):TF:=λZ=>bnd (ft Z) λt=>some (.ok (!t))
theorem lF(c:DT X a ft):DT X (.UnaryOp .Not a pos) (lC ft):=⟨by rintro b s U H Q I⟨Z,r,j,k,G,e,R,q⟩;exact c1k c.run b s U H Q I (bT R e q.x λt o i d g f=>by cases(qA f);exact q _ _ d)⟩
noncomputable def uV:q8->Option Bool|.bool b=>some b|_=>none
def c1L(fa:EF):EF:=λZ=>bnd (fa Z) λx=>lft ((uV x).map λt=>.bool (!t))
theorem a3y(h:uV d=some t):d=.bool t:=by cases d<;>first|(cases h;done)|(cases(qA h);rfl)
theorem c2M(f:DE X a fa):DE X (.UnaryOp .Not a pos) (c1L fa):=⟨by rintro c s U H Q I⟨Z,r,u,w,G,e,R,q⟩;exact c1q f.run c s U H Q I (bE R e q.x λx v y p g o b k=>by obtain⟨d,j,rfl⟩:=bL k;obtain⟨t,i,rfl⟩:=qH.mp j;cases a3y i;cases b;exact⟨_,rfl,q _ _ _ g (.bool _)⟩)⟩
def b0u(f g:TF):TF:=λZ=>bnd (f Z) λt=>if t then g Z else some (.ok false)
def orT(f g:TF):TF:=λZ=>bnd (f Z) λt=>if t then some (.ok true)else g Z
theorem a6x(b:DT X a ft):DW X (.BoolOp .And [a] pos) ft:=⟨b7M b.run⟩
theorem oF(b:DT X a ft):DW X (.BoolOp .Or [a] pos) ft:=⟨c1f b.run⟩
theorem b0a(j:DT X a ft)(i:DW X (.BoolOp .And (b::rest) pos) fu):DW X (.BoolOp .And (a::b::rest) pos) (b0u ft fu):=⟨by rintro f g s U H Q I⟨Z,r,o,p,G,e,R,q⟩;exact c1g j.run i.run f g s U H Q I (bT R e q.x λt u v d k c=>by cases t with|true=>rw[if_pos rfl]at c⊢;exact⟨Z,r,o,p,u,c,k,q.more d⟩|false=>rw[if_neg (by decide)]at c⊢;cases(qA c);exact q _ _ d)⟩
theorem uT(j:DT X a ft)(i:DW X (.BoolOp .Or (b::rest) pos) fu):DW X (.BoolOp .Or (a::b::rest) pos) (orT ft fu):=⟨by rintro f g s U H Q I⟨Z,r,o,p,G,e,R,q⟩;exact c3O j.run i.run f g s U H Q I (bT R e q.x λt u v d k c=>by cases t with|true=>rw[if_pos rfl]at c⊢;cases(qA c);exact q _ _ d|false=>rw[if_neg (by decide)]at c⊢;exact⟨Z,r,o,p,u,c,k,q.more d⟩)⟩
theorem DW.dt(h:DW X e ft):DT X e ft:=⟨h.run _⟩
def b3z(f g:EF):EF:=λZ=>bnd (f Z) λx=>bnd (lft (uV x)) λt=>if t then g Z else some (.ok (.bool false))
def orE(f g:EF):EF:=λZ=>bnd (f Z) λx=>bnd (lft (uV x)) λt=>if t then some (.ok (.bool true))else g Z
theorem b0e{b:_}(c:DE X a fa):DE X (.BoolOp b [a] pos) fa:=⟨c1p c.run⟩
theorem a6A(p:DE X a fa)(o:DE X (.BoolOp .And (b::rest) pos) fb):DE X (.BoolOp .And (a::b::rest) pos) (b3z fa fb):=⟨λk s U H Q I⟨Z,r,y,A,G,e,R,q⟩=>c1t p.run o.run k s U H Q I (bE R e q.x λx v C E i w j u=>by
  obtain⟨t,g,d⟩|⟨c,g,_⟩:=dB u;·obtain⟨D,f,z⟩:=bL g;cases z;cases a3y f;cases j;refine⟨t,rfl,?_⟩;cases t with|true=>rw[if_pos rfl]at d⊢;exact⟨Z,r,y,A,C,d,w,q.more i⟩|false=>rw[if_neg (by decide)]at d⊢;cases(qA d);exact q _ _ _ i (.bool _)
  ·obtain⟨_,_,z⟩:=bL g;cases z)⟩
def ifE(f:TF)(fa fb:EF):EF:=λZ=>bnd (f Z) λt=>if t then fa Z else fb Z
theorem b1C(p:DT X c ft)(v:DE X a fa)(u:DE X b fb):DE X (.IfExp c a b pos) (ifE ft fa fb):=⟨by rintro o s U H Q I⟨Z,r,i,j,G,e,R,q⟩;exact a7w p.run v.run u.run o s U H Q I (bT R e q.x λt k w f g d=>by cases t with|true=>rw[if_pos rfl]at d⊢;exact⟨Z,r,i,j,k,d,g,q.more f⟩|false=>rw[if_neg (by decide)]at d⊢;exact⟨Z,r,i,j,k,d,g,q.more f⟩)⟩
def ixD(x i:q8):Option q8:=match x,i with|.tuple O,.int k=>atI O k|.list O,.int k=>atI O k|.str z,.int k=>if dI z.length then(atI z.cps.toList k).map λc=>.str ⟨#[c]⟩else none|_,_=>none
theorem b8L{K:qB}{u:V}{x i:q8}(s:aT G H)(f:Rep K G v x)(o:Rep K G u i)(h:ixD x i=some d)(q:∀w,Rep K G w d->Q w H):rIx K v u H Q:=by cases o with
 |int k=>cases f with
  |tuple g r=>obtain⟨w,e,a⟩:=b1H r (show atI _ k=some d from h);exact .inr (.inl ⟨_,_,_,w,rfl,rfl,rV s g,e,q w a⟩)|list g r=>obtain⟨w,e,a⟩:=b1H r (show atI _ k=some d from h);exact .inl ⟨_,_,_,w,rfl,rfl,s.seq g,e,q w a⟩|str z=>
   have h:(if dI z.length=true then(atI z.cps.toList k).map λc=>qw ⟨#[c]⟩else none)=some d:=h;split at h;·rename_i p;obtain⟨c,t,rfl⟩:=qH.mp h;exact .inr (.inr ⟨_,_,c,rfl,rfl,lY p,t,q _ (.str _)⟩)
   ·cases h|none=>cases h|bool b=>cases h|int j=>cases h|dict _ _ _=>cases h
 |none=>cases f<;>cases h|bool b=>cases f<;>cases h|str b=>cases f<;>cases h|list _ _=>cases f<;>cases h|tuple _ _=>cases f<;>cases h|dict _ _ _=>cases f<;>cases h
theorem aV(p:DE X a fa)(o:DE X b fb)(hs:a2i b:=by exactλ_ _=>rfl):DE X (.Subscript a b pos) (op2 ixD fa fb):=⟨by rintro k s U H Q I⟨Z,r,F,J,G,e,R,q⟩;exact b4I c2l p.run o.run hs k s U H Q I (bE R e q.x λx v L E g C i A=>bE C A (q.more g).x λy u K D f R2 j z=>by obtain⟨d,t,rfl⟩:=bL z;exact b8L f.sub (i.mono f.gg) j t λw c=>q w _ _ (g.trans f) c)⟩
structure CallD(X:Cx)(f:Value)(O:T0l)(d:q8):Prop where ex:∃r:List V->Hp->VK->Prop,lK X f r/\∀vs G H Q,aT G H->RepAll X.K G vs O->(∀w G' H',Grow G H G' H'->Rep X.K G' w d->Q w H')->r vs H Q
theorem a5i{f:Value}:lK X f (λvs H Q=>∃r,lK X f r/\r vs H Q):=(by rintro c s U H vs a Q I b⟨_,h,q⟩;exact h c s U H vs a Q I b q)
def cQ(g:List q8->Option q8)(fa:AF):EF:=λZ=>bnd (fa Z) λY=>lft (g Y)
theorem dX{i:String}{x:Str}{g:List q8->Option q8}(C:∀O d,g O=some d->CallD X (.builtin i) O d)(y:X.mg x=none)(u:wl x=some (.builtin i))(D:DA X (e::es) f)(z:Gl X x:=by rfl)(v:x≠"__name__":=by decide)(c:U2 x:=by decide)(A:U5 X e es:=by rfl)(b:U6 X pos es:=by rfl):DE X (.Call (.Name x p) (e::es) [] pos) (cQ g f):=⟨by rintro t s U H Q I⟨Z,r,T,Gz,G,e,R,q⟩;exact oQ a5i z y u D.run v c A b t s U H Q I (bA R e q.x λY k N L j S o K=>by obtain⟨d,J,rfl⟩:=bL K;obtain⟨r,B,E⟩:=(C Y d J).ex;exact⟨r,B,E k N L Q j.sub o λw P M F a=>q w P M (j.trans F) a⟩)⟩
theorem eF{x:Str}{g:List q8->Option q8}(A:∀O d,g O=some d->CallD X (.type T) O d)(v:X.mg x=none)(t:wl x=some (.type T))(C:DA X (e::es) f)(y:Gl X x:=by rfl)(u:x≠"__name__":=by decide)(c:U2 x:=by decide)(z:U5 X e es:=by rfl)(b:U6 X pos es:=by rfl):DE X (.Call (.Name x p) (e::es) [] pos) (cQ g f):=⟨by rintro o s U H Q I⟨Z,r,S,Gz,G,e,R,q⟩;exact a4E a5i y v t C.run u c z b o s U H Q I (bA R e q.x λY j M K i P k J=>by obtain⟨d,F,rfl⟩:=bL J;obtain⟨r,B,D⟩:=(A Y d F).ex;exact⟨r,B,D j M K Q i.sub k λw N L E a=>q w N L (i.trans E) a⟩)⟩
def iJ:Ent->Ent|.lst O=>.val (.list O)|.dct kvs=>.val (.dict (kvs.map λp=>(cD p.1,p.2)))|e=>e
def frzAll(Z:List Ent):List Ent:=Z.map iJ
noncomputable def a9d:q8->Bool|.none=>true|.bool _=>true|.int _=>true|.str _=>true|_=>false
theorem Rep.plain{K:qB}(h:a9d d=true)(r:Rep K G v d):Rep K G' v d:=by cases r with|none=>exact .none|bool b=>exact .bool b|int i=>exact .int i|str x=>exact .str x|list _ _=>cases h|tuple _ _=>cases h|dict _ _ _=>cases h
end
section
variable{K:qB}
theorem b5Y(Z:List Ent) n:(∃e,Z[n]?=some e/\(Z.take (n+1)).map iJ++Z.drop (n+1)=((Z.take n).map iJ++Z.drop n).set n (iJ e))\/(Z[n]?=none/\(Z.take (n+1)).map iJ++Z.drop (n+1)=(Z.take n).map iJ++Z.drop n):=by
 by_cases b:n<Z.length
 ·refine .inl ⟨Z[n],by simp,?_⟩;apply je;intro j;rw[kR];by_cases c:j<n;·rw[if_neg (by lia),qh (by simp;lia),qh (by simp;lia),qO,qO,kQ (by exact Nat.lt_succ_of_lt ‹_›),kQ (by omega)]
  ·by_cases a:j=n;·subst a;rw[if_pos rfl,if_pos (by simp;omega),qh (by simp;lia),qO,kQ (by lia)];simp[b]
   ·rw[if_neg (by lia),jB (by simp;lia),jB (by simp;lia),zu,zu];simp only[qD,jj];congr 1;lia
 ·refine .inr ⟨by simp;omega,?_⟩;rw[List.take_of_length_le (by omega),List.take_of_length_le (by omega),List.drop_of_length_le (by omega),List.drop_of_length_le (by omega)]
theorem RepS.frzTo(R:RepS K H0 Gz G H U Z):∀n:Nat,∃G',aT G G'/\RepS K H0 Gz G' H U ((Z.take n).map iJ++Z.drop n)
 |0=>⟨G,.refl _,by exact R⟩|n+1=>by
  obtain⟨g,f,p⟩:=R.frzTo n;obtain⟨e,t,k⟩|⟨_,k⟩:=b5Y Z n
  ·have u:=(qR.mp t).1;have at':((Z.take n).map iJ++Z.drop n)[n]?=some e:=by rw[jB (by simp;lia),zu];simp only[qD,jj];rwa[show n+(n-min n Z.length)=n by lia]
   rw[k];cases e with
   |lst O=>obtain⟨q,i,R2⟩:=p.freeze at';exact⟨q,f.trans i,R2⟩|dct s=>obtain⟨q,i,R2⟩:=p.freezeD at';exact⟨q,f.trans i,R2⟩|val d=>
    refine⟨g,f,?_⟩;have:((Z.take n).map iJ++Z.drop n).set n (iJ (.val d))=(Z.take n).map iJ++Z.drop n:=by
     apply je;intro j;rw[kR];split;·rename_i h;subst h;rw[at'];have:=(qR.mp at').1;rw[if_pos this];rfl
     ·rfl
    rwa[this]|no=>
    refine⟨g,f,?_⟩;have:((Z.take n).map iJ++Z.drop n).set n (iJ .no)=(Z.take n).map iJ++Z.drop n:=by
     apply je;intro j;rw[kR];split;·rename_i h;subst h;rw[at'];have:=(qR.mp at').1;rw[if_pos this];rfl
     ·rfl
    rwa[this]|exc c=>
    refine⟨g,f,?_⟩;have:((Z.take n).map iJ++Z.drop n).set n (iJ (.exc c))=(Z.take n).map iJ++Z.drop n:=by
     apply je;intro j;rw[kR];split;·rename_i h;subst h;rw[at'];have:=(qR.mp at').1;rw[if_pos this];rfl
     ·rfl
    rwa[this]|adr a=>
    refine⟨g,f,?_⟩;have:((Z.take n).map iJ++Z.drop n).set n (iJ (.adr a))=(Z.take n).map iJ++Z.drop n:=by
     apply je;intro j;rw[kR];split;·rename_i h;subst h;rw[at'];have:=(qR.mp at').1;rw[if_pos this];rfl
     ·rfl
    rwa[this]|ro r b=>
    refine⟨g,f,?_⟩;have:((Z.take n).map iJ++Z.drop n).set n (iJ (.ro r b))=(Z.take n).map iJ++Z.drop n:=by
     apply je;intro j;rw[kR];split;·rename_i h;subst h;rw[at'];have:=(qR.mp at').1;rw[if_pos this];rfl
     ·rfl
    rwa[this]|nst o=>
    refine⟨g,f,?_⟩;have:((Z.take n).map iJ++Z.drop n).set n (iJ (.nst o))=(Z.take n).map iJ++Z.drop n:=by
     apply je;intro j;rw[kR];split;·rename_i h;subst h;rw[at'];have:=(qR.mp at').1;rw[if_pos this];rfl
     ·rfl
    rwa[this]
  ·rw[k];exact⟨g,f,p⟩
theorem RepS.frzAll(R:RepS K H0 Gz G H U Z):∃G',aT G G'/\RepS K H0 Gz G' H U (frzAll Z):=by
 obtain⟨G',s,a⟩:=R.frzTo Z.length;refine⟨G',s,?_⟩;have:(Z.take Z.length).map iJ++Z.drop Z.length=L3.frzAll Z:=by simp[L3.frzAll]
 rwa[this]at a
end
section
variable{rest:T0n}
def thT(f:TF):TF:=λZ=>match f (frzAll Z)with|some (.ok b)=>some (.ok b)|_=>none
theorem c4x(h:DT X e ft):DT X e (thT ft):=⟨by
 rintro f s U H Q I⟨Z,r,k,o,G,a,R,q⟩;unfold thT at a;split at a;·rename_i b g;cases(qA a);obtain⟨p,d,i⟩:=R.frzAll;exact h.run f s U H Q I ⟨_,_,k,o,p,g,i,λt j c=>q G j ⟨.refl _,c.hh,d.trans (c.gg.trans c.sub),λ_ z _=>z,id⟩⟩
 ·cases a⟩
end
inductive So where|nx(Z:List Ent)|rt(d:q8)|bk(Z:List Ent)|ct(Z:List Ent)|xc(c:Str)(Z:List Ent)
noncomputable abbrev SF:=List Ent->Option So
noncomputable def bns{α:Type}(m:Mm α)(Z:List Ent)(k:α->Option So):Option So:=match m with|some (.ok a)=>k a|some (.ex c)=>some (.xc c Z)|none=>none
theorem tO{k:α->Option So}{r:So}(h:bns m Z k=some r):(∃a,m=some (.ok a)/\k a=some r)\/∃c,m=some (.ex c)/\r=.xc c Z:=by match m,h with|some (.ok a),h=>exact .inl ⟨a,rfl,h⟩|some (.ex c),h=>exact .inr ⟨c,rfl,(qA h).symm⟩|none,h=>cases h
def a0g(X:Cx)(H0 Gz G:Hp)(D:Ends):So->Prop|.nx Z=>∀G' H' σ',aT G G'->RepS X.K H0 Gz G' H' σ' Z->D.nx σ' H'|.rt d=>∀v G' H',aT G G'->Grow Gz H0 G' H'->Rep X.K G' v d->D.rt v H'|.bk Z=>∀G' H' σ',aT G G'->RepS X.K H0 Gz G' H' σ' Z->D.bk σ' H'|.ct Z=>∀G' H' σ',aT G G'->RepS X.K H0 Gz G' H' σ' Z->D.ct σ' H'|.xc c Z=>mR X H0 Gz G Z c
theorem a0g.mono{i j G k:Hp}{D:Ends}{o:So}(h:a0g X i j G D o)(s:aT G k):a0g X i j k D o:=by cases o with|nx Z=>exactλf e a b R=>h f e a (s.trans b) R|rt d=>exactλv f e b g r=>h v f e (s.trans b) g r|bk Z=>exactλf e a b R=>h f e a (s.trans b) R|ct Z=>exactλf e a b R=>h f e a (s.trans b) R|xc c Z=>exact mR.mono h s
noncomputable def rS(X:Cx)(f:SF):TS:=λD U H=>∃Z o H0 Gz G,f Z=some o/\RepS X.K H0 Gz G H U Z/\a0g X H0 Gz G D o
structure DS(X:Cx)(st:Stmt)(f:SF):Prop where run:PS X st (rS X f)
structure DB(X:Cx)(sts:List Stmt)(f:SF):Prop where run:PSs X sts (rS X f)
section
variable{o:So}
theorem sE{k:q8->Option So}(R:RepS X.K H0 Gz G H U Z)(e:bns (fa Z) Z k=some o)(q:a0g X H0 Gz G D o){T:VK}(h:∀x v G1 H1,Grow G H G1 H1->RepS X.K H0 Gz G1 H1 U Z->Rep X.K G1 v x->k x=some o->a0g X H0 Gz G1 D o->T v H1):rE X fa U H T:=by
 obtain⟨x,d,b⟩|⟨c,d,b⟩:=tO e;·exact⟨Z,_,H0,Gz,G,d,R,λv G1 H1 a f=>h x v G1 H1 a (R.more a) f b (q.mono a.gg)⟩
 ·subst b;exact⟨Z,_,H0,Gz,G,d,R,q⟩
theorem sA{fa:AF}{k:List q8->Option So}(R:RepS X.K H0 Gz G H U Z)(e:bns (fa Z) Z k=some o)(q:a0g X H0 Gz G D o){T:List V->Hp->Prop}(h:∀x v G1 H1,Grow G H G1 H1->RepS X.K H0 Gz G1 H1 U Z->RepAll X.K G1 v x->k x=some o->a0g X H0 Gz G1 D o->T v H1):rA X fa U H T:=by
 obtain⟨x,d,b⟩|⟨c,d,b⟩:=tO e;·exact⟨Z,_,H0,Gz,G,d,R,λv G1 H1 a f=>h x v G1 H1 a (R.more a) f b (q.mono a.gg)⟩
 ·subst b;exact⟨Z,_,H0,Gz,G,d,R,q⟩
theorem sT{fa:TF}{k:Bool->Option So}(R:RepS X.K H0 Gz G H U Z)(e:bns (fa Z) Z k=some o)(q:a0g X H0 Gz G D o){T:Bool->Hp->Prop}(h:∀x G1 H1,Grow G H G1 H1->RepS X.K H0 Gz G1 H1 U Z->k x=some o->a0g X H0 Gz G1 D o->T x H1):rT X fa U H T:=by
 obtain⟨x,d,b⟩|⟨c,d,b⟩:=tO e;·exact⟨Z,_,H0,Gz,G,d,R,λG1 H1 a=>h x G1 H1 a (R.more a) b (q.mono a.gg)⟩
 ·subst b;exact⟨Z,_,H0,Gz,G,d,R,q⟩
end
section
variable{rest:List Stmt}{f g:SF}
noncomputable def dG:SF:=λZ=>some (.nx Z)
noncomputable def aY(f g:SF):SF:=λZ=>match f Z with|some (.nx ρ')=>g ρ'|r=>r
theorem bP:DB X [] dG:=⟨by rintro a s U H D I⟨Z,o,b,c,G,e,R,q⟩;exact b0G a s U H D I (by cases(qA e);exact q G H U (.refl _) R)⟩
theorem aL(B:DS X st f)(C:DB X rest g):DB X (st::rest) (aY f g):=⟨by
 rintro p s U H D I⟨Z,o,i,k,G,e,R,q⟩;unfold aY at e;split at e;·rename_i a E;refine we (thn (B.run p s U H {D with nx:=λb j=>rS X g D b j} I ⟨Z,_,i,k,G,E,R,λK j b u F=>⟨a,o,i,k,K,e,F,q.mono u⟩⟩) λr t z=>?_);cases r with|next=>obtain⟨b,j,J,z⟩:=z;exact C.run p t b j D J z|ret v=>exact z|brk=>exact z|cont=>exact z
 ·rename_i z;have A:∀a,o≠.nx a:=λa w=>z a (by rw[e,w]);have y:a0g X i k G {D with nx:=λ_ _=>False} o:=by cases o with|nx a=>exact absurd rfl (A a)|rt d=>exact q|bk a=>exact q|ct a=>exact q|xc c a=>exact q
  refine we (thn (B.run p s U H {D with nx:=λ_ _=>False} I ⟨Z,o,i,k,G,e,R,y⟩) λr t z=>?_);cases r with|next=>obtain⟨_,_,_,z⟩:=z;exact z.elim|ret v=>exact z|brk=>exact z|cont=>exact z⟩
theorem aQ(h:DS X st f):DB X [st] f:=⟨a5L h.run⟩
def a0U(i:Nat)(f:SF):SF:=λZ=>match Z[i]? with|some (.lst O)=>f (Z.set i (.val (.list O)))|some (.dct kvs)=>f (Z.set i (.val (.dict (kvs.map λp=>(cD p.1,p.2)))))|_=>f Z
theorem xP i(h:DB X rest f):DB X rest (a0U i f):=⟨by
 rintro b s U H D I⟨Z,o,g,j,G,e,R,q⟩;unfold a0U at e;split at e;·rename_i O c;obtain⟨k,a,d⟩:=R.freeze c;exact h.run b s U H D I ⟨_,o,g,j,k,e,d,q.mono a⟩
 ·rename_i p c;obtain⟨k,a,d⟩:=R.freezeD c;exact h.run b s U H D I ⟨_,o,g,j,k,e,d,q.mono a⟩
 ·exact h.run b s U H D I ⟨Z,o,g,j,G,e,R,q⟩⟩
def retS(fa:EF):SF:=λZ=>bns (fa Z) Z λd=>some (.rt d)
theorem aU(h:DE X e fa):DS X (.Return (some e) pos) (retS fa):=⟨by rintro c s U H D I⟨Z,o,k,p,G,e,R,q⟩;exact b4t h.run c s U H D I (sE R e q λx v i g j f a d b=>by cases(qA d);exact b v i g (.refl _) f.grow a)⟩
def a3q(fa:EF):SF:=λZ=>bns (fa Z) Z λ_=>some (.nx Z)
theorem b1t(h:DE X e fa)(hs:wb e none pos.line X.env=pure false:=by rfl):DS X (.Expr e pos) (a3q fa):=⟨by rintro b s U H D I⟨Z,o,k,p,G,e,R,q⟩;exact uC h.run hs b s U H D I (sE R e q λx v g f j d i c a=>by cases(qA c);exact a g f U (.refl _) d)⟩
def ifS(ft:TF)(f g:SF):SF:=λZ=>bns (ft Z) Z λt=>if t then f Z else g Z
theorem dH{x y:List Stmt}(r:DT X c ft)(v:DB X x f)(u:DB X y g):DS X (.If c x y pos) (ifS ft f g):=⟨by rintro p s U H D I⟨Z,o,i,j,G,e,R,q⟩;exact c0d r.run v.run u.run p s U H D I (sT R e q λt k z w d a b=>by cases t with|true=>rw[if_pos rfl]at a⊢;exact⟨Z,o,i,j,k,a,d,b⟩|false=>rw[if_neg (by decide)]at a⊢;exact⟨Z,o,i,j,k,a,d,b⟩)⟩
def fU(i:Nat)(fa:EF):SF:=λZ=>bns (fa Z) Z λd=>some (.nx (Z.set i (.val d)))
theorem fH i{x:Str}(g:X.N.Nodup)(h:DE X e fa)(d:X.N[i]?=some x:=by rfl)(hx:Loc X.env.scope x:=by first|exact jT rfl|exact qu rfl)(hs:wb e (some (.Name x p)) pos.line X.env=pure false:=by rfl)(f:U7 X x:=by first|exact .inl rfl|exact .inr rfl):DS X (.Assign [.Name x p] e pos) (fU i fa):=⟨by rintro c s U H D I⟨Z,o,w,y,G,e,R,q⟩;exact a2H g d hx h.run hs f c s U H D I (sE R e q λx v t r u k a j b=>by cases(qA j);exact b t r _ (.refl _) (k.set a))⟩
def b5e(i:Nat)(f:AF):SF:=λZ=>bns (f Z) Z λO=>if dI O.length then some (.nx (Z.set i (.lst O)))else none
theorem b6o i{x:Str}{f:AF}(u:X.N.Nodup)(h:DA X es f)(k:X.N[i]?=some x:=by rfl)(hx:Loc X.env.scope x:=by first|exact jT rfl|exact qu rfl)(hs:wb (.List es p2) (some (.Name x p)) pos.line X.env=pure false:=by rfl)(r:U7 X x:=by first|exact .inl rfl|exact .inr rfl):DS X (.Assign [.Name x p] (.List es p2) pos) (b5e i f):=⟨λg s U H D I⟨Z,o,C,E,G,e,R,q⟩=>a2H u k hx (a2L h.run) hs r g s U H D I (sA R e q λO y w A z v c b d=>by
 split at b;·rename_i j;cases(qA b);exact⟨by rw[c.length];exact lY j,λa t=>d w _ _ (.refl _) (v.fresh t c)⟩
 ·cases b)⟩
def b3y(i:Nat)(fa:EF):SF:=λZ=>match Z[i]? with|some (.lst O)=>bns (fa Z) Z λd=>if dI O.length then some (.nx (Z.set i (.lst (O++[d]))))else none|_=>none
theorem c2K i{x:Str}(h:DE X e fa)(k:U0 X i x:=by exact U1)(f:U8 X (.Name x p) "append":=by rfl)(j:U4 X cp (e::[]):=by rfl)(c:(ap.endLine==cp.line)=true:=by rfl)(g:U5 X e []:=by rfl)(b:U6 X cp []:=by rfl)(u:wb (.Call (.Attribute (.Name x p) "append" ap) [e] [] cp) none pos.line X.env=pure false:=by rfl):DS X (.Expr (.Call (.Attribute (.Name x p) "append" ap) [e] [] cp) pos) (b3y i fa):=⟨λF s U H D I⟨Z,o,Q,S,G,t,R,q⟩=>uC (b0N vJ PySem.F.slot_list_append PySem.F.type_list_append a0E (cM k.1 k.2 k.3 k.4) (dC h.run fE g) f j c g b) u F s U H D I (by
  unfold b3y at t;split at t
  ·rename_i O y;obtain⟨a,Y,A,B,N,M,r⟩:=R.own y;refine⟨.ref a,A,.inl ⟨rfl,Y,.of B⟩,sE R t q λd v L P z K C w E=>?_⟩;split at w;·rename_i J;cases(qA w);exact⟨a,Y,v,rfl,rfl,z.hh.lst B,by rw[r.length];exact b0B J,E L _ U (.refl _) (K.wrote y A ((r.mono z.gg).append (.cons C .nil)))⟩
   ·cases w
  ·cases t)⟩
end
variable{is:List Nat}{fi:AF}
section
variable{rest:List Stmt}{f g:SF}
inductive Tg where|nm(i:Nat)|tp(is:T0t)|nn(i:Nat)(js:T0t)
noncomputable def iI:List Ent->List Nat->List q8->List Ent|Z,i::is,d::O=>iI (Z.set i (.val d)) is O|Z,_,_=>Z
def tgD(t:Tg)(Z:List Ent)(d:q8):Option (List Ent):=match t,d with|.nm i,d=>some (Z.set i (.val d))|.tp is,.tuple O=>if is.length=O.length then some (iI Z is O)else none|.nn i js,.tuple [d,.tuple O]=>if js.length=O.length then some (iI (Z.set i (.val d)) js O)else none|_,_=>none
structure DG(X:Cx)(tg:Expr)(t:Tg):Prop where run:∀Z d ρ',tgD t Z d=some ρ'->PGD X tg Z d ρ'
structure DGs(X:Cx)(ts:T0n)(is:T0t):Prop where run:∀Z O,is.length=O.length->PGsD X ts Z O (iI Z is O)
theorem eK i{x:Str}(e:X.N.Nodup)(b:X.N[i]?=some x:=by rfl)(hx:Loc X.env.scope x:=by first|exact jT rfl|exact qu rfl)(c:U7 X x:=by first|exact .inl rfl|exact .inr rfl):DG X (.Name x pos) (.nm i):=⟨λZ d a h=>by cases(qA h);exact a7v i e b hx c⟩
theorem a2f:DGs X [] []:=⟨λZ O h=>by cases O with|nil=>exact b4B|cons _ _=>cases h⟩
theorem fI i{x:Str}(e:X.N.Nodup)(h:DGs X es is)(b:X.N[i]?=some x:=by rfl)(hx:Loc X.env.scope x:=by first|exact jT rfl|exact qu rfl)(c:U7 X x:=by first|exact .inl rfl|exact .inr rfl)(hs:(wj (.Name x pos::es) X.env).map (·.2)=assign (.Name x pos) X.env::(wj es X.env).map (·.2):=by rfl):DGs X (.Name x pos::es) (i::is):=⟨λZ O a=>by cases O with|nil=>cases a|cons d O=>exact b2u (a7v i e b hx c) (h.run _ O (by simpa using a)) hs⟩
theorem a6z(g:X.calm=true)(h:DGs X es is)(f:(wj es X.env).length=is.length:=by rfl)(c:(wj es X.env).findIdx? (·.1)=none:=by rfl):DG X (.Tuple es k pos) (.tp is):=⟨λZ d b a=>by cases d with
 |tuple O=>
  have a:(if is.length=O.length then some (iI Z is O)else none)=some b:=a;split at a;·rename_i e;cases(qA a);exact b7Y g (h.run Z O e) (f.trans e) c
  ·cases a|none=>cases a|bool _=>cases a|int _=>cases a|str _=>cases a|list _=>cases a|dict _=>cases a⟩
theorem c0N{i:Nat}(h:tgD (.nn i js) Z d=some ρ'):∃a O,d=.tuple [a,.tuple O]/\js.length=O.length/\ρ'=iI (Z.set i (.val a)) js O:=by
 unfold tgD at h;split at h;·rename_i e;cases e
 ·rename_i e;cases e
 ·rename_i f b a O e;cases e;split at h;·rename_i c;exact⟨a,O,rfl,c,(qA h).symm⟩
  ·cases h
 ·cases h
def rG(X:Cx)(t:Tg):TG:=λv U H Q=>∃Z d ρ' H0 Gz G,tgD t Z d=some ρ'/\RepS X.K H0 Gz G H U Z/\Rep X.K G v d/\∀σ',RepS X.K H0 Gz G H σ' ρ'->Q σ' H
theorem DG.pg{t:Tg}(h:DG X tg t):PG X tg (rG X t):=(by rintro c s U H v u Q I r⟨Z,d,a,f,g,G,e,R,b,q⟩;exact(h.run Z d a e).run c s U H v u Q I r ⟨f,g,G,R,b,q⟩)
def a1J(t:Tg)(fa:EF):SF:=λZ=>bns (fa Z) Z λd=>(tgD t Z d).map So.nx
theorem c2I{t:Tg}(h:DE X e fa)(k:DG X tg t)(hs:ug [tg] e pos.line X.env=pure false:=by rfl)(j:uf [tg] e X.env=pure none:=by rfl)(B:(wj [tg] X.env).map (·.2)=[assign tg X.env]:=by rfl):DS X (.Assign [tg] e pos) (a1J t fa):=⟨by rintro i s U H D I⟨Z,o,A,C,G,p,R,q⟩;exact c1l h.run k.pg hs j B i s U H D I (sE R p q λd v c z E w f u g=>by obtain⟨b,r,rfl⟩:=qH.mp u;exact⟨Z,d,b,A,C,c,r,w,f,λa y=>g c z a (.refl _) y⟩)⟩
def c6e(X:Cx)(H0 Gz G:Hp)(Z:List Ent)(H:Hp)(R:It->Hp->Prop):Re (List q8)->Prop|.ok O=>∀J G' H',Grow G H G' H'->Walk X.K J G' O->R J H'|.ex c=>mR X H0 Gz G Z c
noncomputable def rIt(X:Cx)(f:AF):TI:=λU H R=>∃Z r H0 Gz G,f Z=some r/\RepS X.K H0 Gz G H U Z/\c6e X H0 Gz G Z H R r
structure DI(X:Cx)(tg iter:Expr)(f:AF):Prop where run:PI X tg iter (rIt X f)
theorem DI.pid{f:AF}(h:DI X tg iter f)(e:f Z=some (.ok O)):PID X tg iter Z O:=⟨by rintro a s U H R I⟨b,c,G,S,q⟩;exact h.run a s U H R I ⟨Z,_,b,c,G,e,S,q⟩⟩
theorem c4z{f:AF}(h:∀Z r,f Z=some r->∃O,r=.ok O/\PID X tg iter Z O):DI X tg iter f:=⟨by rintro a s U H R I⟨Z,r,c,d,G,e,S,q⟩;obtain⟨O,rfl,b⟩:=h Z r e;exact b.run a s U H R I ⟨c,d,G,S,q⟩⟩
noncomputable def a2t:q8->Option (List q8)|.list O=>some O|.tuple O=>some O|_=>none
def mW(fa:EF):AF:=λZ=>bnd (fa Z) λx=>lft (a2t x)
theorem gI(h:DE X iter fa):DI X tg iter (mW fa):=⟨by
 rintro d s U H R I⟨Z,r,g,i,G,e,S,q⟩;obtain⟨x,b,f⟩|⟨c,b,f⟩:=dB e;·obtain⟨O,a,rfl⟩:=bL f;cases x with|list j=>cases(qA a);exact(b4z (h.pd b)).run d s U H R I ⟨g,i,G,S,q⟩|tuple j=>cases(qA a);exact(b7U (h.pd b)).run d s U H R I ⟨g,i,G,S,q⟩|none=>cases a|bool _=>cases a|int _=>cases a|str _=>cases a|dict _=>cases a
 ·subst f;exact a5P h.run d s U H R I ⟨Z,_,g,i,G,b,S,q⟩⟩
noncomputable def intD:q8->Option Int|.int i=>some i|_=>none
theorem a6n(h:intD d=some i):d=.int i:=by cases d<;>first|(cases h;done)|(cases(qA h);rfl)
noncomputable def b1e(n:Int):Bool:=decide (-(2^62)<=n)&&decide (n<2^62)
theorem a7S(h:b1e n=true):-(2^62)<=n/\n<2^62:=by unfold b1e at h;rw[qE]at h;exact⟨of_decide_eq_true h.1,of_decide_eq_true h.2⟩
def a8Z(fa:EF):AF:=λZ=>match fa Z with|some (.ok (.int n))=>if b1e n then some (.ok (xF 0 n.toNat))else none|_=>none
theorem b1w(d:X.mg "range"=none)(h:DE X a fa)(hs:j4 [a] X.env=[(false,eval a X.env)]:=by rfl)(b:j4 [a] X.env=(false,eval a X.env)::j4 [] X.env:=by rfl)(f:Gl X "range":=by rfl):DI X tg (.Call (.Name "range" p) [a] [] pos) (a8Z fa):=c4z λZ r e=>by
 unfold a8Z at e;split at e
 ·rename_i n g;split at e;·rename_i c;exact⟨_,(qA e).symm,a9f d (h.pd g) (a7S c).1 (a7S c).2 hs b f⟩
  ·cases e
 ·cases e
def iU(t:Tg)(fb:SF):List q8->List Ent->Option So|[],Z=>some (.nx Z)|d::O,Z=>match tgD t Z d with|none=>none|some ρ1=>(match fb ρ1 with|some (.nx ρ2)=>iU t fb O ρ2|some (.ct ρ2)=>iU t fb O ρ2|some (.bk ρ2)=>some (.nx ρ2)|some (.rt d)=>some (.rt d)|some (.xc c ρ2)=>some (.xc c ρ2)|none=>none)
def b8U(t:Tg)(fi:AF)(fb:SF):SF:=λZ=>bns (fi Z) Z λO=>iU t fb O Z
theorem b6p{t:Tg}(hp:u7 (model X.prog X.w) X.A X.env X.xe)(hc:X.calm=true)(hi:DI X tg iter fi)(hg:DG X tg t)(hb:DB X body g)(hs:∀x,v6 iter X.env x=pure x:=by intro _;rfl):DS X (.For tg iter body [] pos) (b8U t fi g):=⟨λpz s U H D I⟨Z,o,f,j,G,ef,R,q⟩=>b4v hp hc hi.run hg.pg hb.run hs pz s U H D I (by
  obtain⟨O,e1,M⟩|⟨c,e1,M⟩:=tO ef
  ·refine⟨Z,_,f,j,G,e1,R,λJ G1 H1 L wk=>?_⟩;refine⟨λi m u H'=>m=O.length-i/\i<=O.length/\∃k S,aT G1 S/\RepS X.K f j S H' u k/\iU t g (O.drop i) k=some o,⟨O.length,by simp,qx _,Z,G1,.refl _,R.more L,by simpa using M⟩,?_⟩;rintro i m u H'⟨rfl,hin,k,S,s',R',d⟩;obtain⟨F,w⟩:=wk i S H' s' R'.sub;by_cases A:i<O.length
   ·rw[List.drop_eq_getElem_cons A]at d;have hx:=qG A;refine .inr ⟨(F _ hx).1,λE T=>∃a e,aT G1 e/\RepS X.K f j e T E a/\iU t g (O.drop (i+1)) a=some o,?_,λx T y=>?_⟩;·rintro E T⟨a,e,s2,R2,M⟩;exact⟨O.length-(i+1),by omega,rfl,A,a,e,s2,R2,M⟩
    ·obtain⟨e,g2,rx⟩:=(F _ hx).2 x T y;unfold iU at d;split at d;·cases d
     ·rename_i b et;refine⟨k,O[i],b,f,j,e,et,R'.more g2,rx,λσ3 P=>?_⟩;have K:=s'.trans g2.gg;split at d;·rename_i a p;exact⟨b,_,f,j,e,p,P,λC Q r z N=>⟨a,C,K.trans z,N,d⟩⟩
      ·rename_i a p;exact⟨b,_,f,j,e,p,P,λC Q r z N=>⟨a,C,K.trans z,N,d⟩⟩
      ·rename_i a p;cases(qA d);exact⟨b,_,f,j,e,p,P,λC Q r z N=>q C Q r (L.gg.trans (K.trans z)) N⟩
      ·rename_i d' p;cases(qA d);exact⟨b,_,f,j,e,p,P,λv C Q z gr rv=>q v C Q (L.gg.trans (K.trans z)) gr rv⟩
      ·rename_i c' a p;cases(qA d);exact⟨b,_,f,j,e,p,P,mR.mono q (L.gg.trans K)⟩
      ·cases d
   ·have hi':i=O.length:=by lia
    subst hi';rw[List.drop_length]at d;cases(qA d);exact .inl ⟨w (qQ _),q S H' u (L.gg.trans s') R'⟩
  ·subst M;exact⟨Z,_,f,j,G,e1,R,q⟩)⟩
end
def sU(t:Tg)(ρb:List Ent)(ft:TF)(fe:EF):List q8->Option (List q8)|[]=>some []|d::O=>match tgD t ρb d with|none=>none|some ρx=>(match ft ρx with|some (.ok true)=>(match fe ρx with|some (.ok v)=>(sU t ρb ft fe O).map (v::·)|_=>none)|some (.ok false)=>sU t ρb ft fe O|_=>none)
def fR(t:Tg)(cap:T0e)(fi:AF)(ft:TF)(fe:EF):EF:=λZ=>bnd (fi Z) λO=>if dI O.length then lft ((sU t (cJ cap Z) ft fe O).map .list)else none
noncomputable def ttT:TF:=λ_=>some (.ok true)
def cX(t:Tg)(ρb:List Ent)(d:q8):List Ent:=(tgD t ρb d).getD []
def cT(t:Tg)(ρb:List Ent)(ft:TF)(d:q8):Bool:=match ft (cX t ρb d)with|some (.ok b)=>b|_=>false
def cV(t:Tg)(ρb:List Ent)(fe:EF)(d:q8):q8:=match fe (cX t ρb d)with|some (.ok v)=>v|_=>.none
theorem sS{t:Tg}{ρb:List Ent}{ft:TF}{fe:EF}:∀{O es:T0l},sU t ρb ft fe O=some es->(∀d∈O,tgD t ρb d=some (cX t ρb d)/\ft (cX t ρb d)=some (.ok (cT t ρb ft d))/\(cT t ρb ft d=true->fe (cX t ρb d)=some (.ok (cV t ρb fe d))))/\es=(O.filter (cT t ρb ft)).map (cV t ρb fe)
 |[],es,h=>by cases(qA h);exact⟨λ_ z=>absurd z (by simp),rfl⟩|d::O,es,h=>by
  unfold sU at h;split at h;·cases h
  ·rename_i f j;have ex:cX t ρb d=f:=by unfold cX;rw[j];rfl
   split at h
   ·rename_i e;have a:cT t ρb ft d=true:=by unfold cT;rw[ex,e]
    split at h
    ·rename_i v o;obtain⟨p,q,rfl⟩:=qH.mp h;obtain⟨i,g⟩:=sS q;have c:cV t ρb fe d=v:=by unfold cV;rw[ex,o]
     refine⟨λk b=>?_,?_⟩
     ·obtain rfl|b:=qM.mp b;·rw[ex,a,c];exact⟨j,e,λ_=>o⟩
      ·exact i k b
     ·rw[jE a,qI,c,g]
    ·cases h
   ·rename_i e;have a:cT t ρb ft d=false:=by unfold cT;rw[ex,e]
    obtain⟨i,g⟩:=sS h;refine⟨λk b=>?_,?_⟩
    ·obtain rfl|b:=qM.mp b;·rw[ex,a];exact⟨j,e,λz=>by cases z⟩
     ·exact i k b
    ·rw[jV (by rw[a];decide),g]
   ·cases h
noncomputable def a2m(cap:T0e):Tg->Bool
 |.nm i=>(match cap[i]? with|some (some _)=>false|_=>true)|.tp is=>is.all λi=>match cap[i]? with|some (some _)=>false|_=>true
 |.nn i js=>(match cap[i]? with|some (some _)=>false|_=>true)&&js.all λi=>match cap[i]? with|some (some _)=>false|_=>true
theorem rZ:∀{a b:List Ent}{i:Nat}{e:Ent},Weak a b->(b[i]?=some .no\/b[i]?=none)->Weak (a.set i e) b
 |_,_,_,_,.nil,_=>.nil|_::_,_,0,_,.keep w,h=>by
  obtain h|h:=h;·cases(qA h);exact .no w
  ·cases h|_::_,_,0,_,.no w,_=>.no w|_::_,_,i+1,_,.keep w,h=>.keep (rZ w (by exact h))|_::_,_,i+1,_,.no w,h=>.no (rZ w (by exact h))
theorem a6D{cap:T0e}{i:Nat}(h:(match cap[i]? with|some (some _)=>false|_=>true)=true):(cJ cap Z)[i]?=some .no\/(cJ cap Z)[i]?=none:=by unfold cJ;rw[qO];cases e:cap[i]? with|none=>exact .inr rfl|some o=>rw[e]at h;cases o with|none=>exact .inl rfl|some j=>cases h
theorem a2j{cap:T0e}{Z:List Ent}:∀{is:T0t}{O:T0l}{a:List Ent},(is.all λi=>match cap[i]? with|some (some _)=>false|_=>true)=true->Weak a (cJ cap Z)->Weak (iI a is O) (cJ cap Z)|[],O,a,_,w=>by cases O<;>exact w|i::is,[],a,_,w=>w|i::is,d::O,a,h,w=>by rw[ja,qE]at h;exact a2j (is:=is) (O:=O) (a:=a.set i (.val d)) h.2 (rZ w (a6D h.1))
theorem a1O{t:Tg}(b:a2m cap t=true)(h:tgD t (cJ cap Z) d=some ρx):Weak ρx (cJ cap Z):=by cases t with
 |nm i=>cases(qA h);exact rZ (.refl _) (a6D b)|tp c=>cases d with
  |tuple O=>
   have h:(if c.length=O.length then some (iI (cJ cap Z) c O)else none)=some ρx:=h;split at h;·cases(qA h);exact a2j b (.refl _)
   ·cases h|none=>cases h|bool _=>cases h|int _=>cases h|str _=>cases h|list _=>cases h|dict _=>cases h
 |nn i e=>obtain⟨a,O,rfl,f,rfl⟩:=c0N h;have b:((match cap[i]? with|some (some _)=>false|_=>true)&&e.all λi=>match cap[i]? with|some (some _)=>false|_=>true)=true:=b;rw[qE]at b;exact a2j b.2 (rZ (.refl _) (a6D b.1))
section
variable{cap:T0e}{t:Tg}{fe:EF}
structure DTs(X:Cx)(ifs:T0n)(f:TF):Prop where run:∀Z b,f Z=some (.ok b)->PTsD X ifs Z b
theorem nN:DTs X [] ttT:=⟨λZ b e=>by cases(qA e);exact b4q⟩
theorem nM(h:DT X c ft):DTs X [c] ft:=⟨λZ b e=>b4p (h.ptd e)⟩
theorem gC(w:X.calm=true)(D:Blk X scope N' cap)(v:DI X tg iter fi)(K:a2m cap t=true)(J:∀C a b fp,DG (cB X scope N' C a b fp) tg t)(F:∀C a b fp,DTs (cB X scope N' C a b fp) ifs ft)(L:∀C a b fp,DE (cB X scope N' C a b fp) elt fe)(hs:∀x,v6 iter X.env x=pure x:=by intro _;rfl):DE X (.ListComp elt [⟨tg,iter,ifs,0⟩] scope pos) (fR t cap fi ft fe):=⟨by
 rintro u s U H Q I⟨Z,r,y,A,G,e,R,q⟩;obtain⟨O,p,j⟩|⟨c,p,j⟩:=dB e
 ·split at j;·rename_i E;obtain⟨d,M,rfl⟩:=bL j;obtain⟨P,N,rfl⟩:=qH.mp M;obtain⟨k,rfl⟩:=sS N;exact(b8d (Y:=O) (φ:=λd=>d) (ρb:=cJ cap Z) (ρx:=cX t (cJ cap Z)) (cnd:=cT t (cJ cap Z) ft) (f:=cV t (cJ cap Z) fe) w D (by simpa using v.pid p) (.refl _) (λx i=>a1O K (k x i).1) (lY E)
    (λC a b fp x i=>(J C a b fp).run _ _ _ (k x i).1) (λC a b fp x i=>(F C a b fp).run _ _ (k x i).2.1) (λC a b fp x i o=>(L C a b fp).pd ((k x i).2.2 o)) hs).run y A G u s U H Q I R q
  ·cases j
 ·subst j;exact a5R (g:=λ_ _ _ _=>False) (tc:=λ_ _ _=>False) (te:=λ_ _ _=>False) w D v.run (λ_ _ _ _ _ _ _ _ _ _ _ _ _ z=>z.elim) (λ_ _ _ _ _ _ _ _ _ _ z=>z.elim) (λ_ _ _ _ _ _ _ _ _ _ z=>z.elim) hs u s U H Q I
   ⟨Z,_,y,A,G,p,R,q⟩⟩
theorem a6y i{x:Str}(K:X.N.Nodup)(J:X.calm=true)(N:Blk X scope N' cap)(F:DI X tg iter fi)(T:a2m cap t=true)(S:∀C a b fp,DG (cB X scope N' C a b fp) tg t)(Q:∀C a b fp,DTs (cB X scope N' C a b fp) ifs ft)(he:∀C a b fp,DE (cB X scope N' C a b fp) elt fe)(k:X.N[i]?=some x:=by rfl)(hx:X.env.scope.names.lookup x=some .local:=by rfl)(r:wb (.ListComp elt [⟨tg,iter,ifs,0⟩] scope pos) (some (.Name x p)) spos.line X.env=pure true:=by rfl)(hs:∀x,v6 iter X.env x=pure x:=by intro _;rfl):DS X (.Assign [.Name x p] (.ListComp elt [⟨tg,iter,ifs,0⟩] scope pos) spos) (fU i (fR t cap fi ft fe)):=⟨by
 rintro E s U H D I⟨Z,o,L,M,G,e,R,q⟩;obtain⟨d,A,y⟩|⟨c,A,y⟩:=tO e
 ·cases(qA y);obtain⟨O,v,j⟩|⟨c,_,j⟩:=dB A
  ·split at j;·rename_i P;obtain⟨d',ed,z⟩:=bL j;cases z;obtain⟨es,e5,rfl⟩:=qH.mp ed;obtain⟨u,rfl⟩:=sS e5;exact(b4s i (Y:=O) (φ:=λd=>d) (ρb:=cJ cap Z) (ρx:=cX t (cJ cap Z)) (cnd:=cT t (cJ cap Z) ft) (f:=cV t (cJ cap Z) fe) K J N (by simpa using F.pid v) (.refl _) (λx hx=>a1O T (u x hx).1) (lY P)
     (λC a b fp x hx=>(S C a b fp).run _ _ _ (u x hx).1) (λC a b fp x hx=>(Q C a b fp).run _ _ (u x hx).2.1) (λC a b fp x hx w=>(he C a b fp).pd ((u x hx).2.2 w)) k hx r hs).run E s U H D I ⟨L,M,G,R,q⟩
   ·cases j
  ·cases j
 ·subst y;obtain⟨O,v,j⟩|⟨c',v,j⟩:=dB A
  ·split at j;·obtain⟨_,_,z⟩:=bL j;cases z
   ·cases j
  ·cases j;exact b0H (g:=λ_ _ _ _=>False) (tc:=λ_ _ _=>False) (te:=λ_ _ _=>False) K k hx J N F.run (λ_ _ _ _ _ _ _ _ _ _ _ _ _ z=>z.elim) (λ_ _ _ _ _ _ _ _ _ _ z=>z.elim) (λ_ _ _ _ _ _ _ _ _ _ z=>z.elim) r hs E s U H D I
    ⟨Z,_,L,M,G,v,R,q⟩⟩
end
noncomputable def pA(m:Nat)(O:T0l):List Ent:=O.map .val++zE (m-O.length) .no
def mC(m n:Nat)(f:SF)(O:T0l):Mm q8:=if O.length=n then(match f (pA m O)with|some (.rt d)=>some (.ok d)|some (.nx _)=>some (.ok .none)|_=>none)else none
abbrev eG(P:Program)(w:World)(K:qB)(mg:T0d)(base:Heap)(x:Str)(k:Nat)(ps:T0q)(F:List q8->Mm q8):Prop:=Callee P w K mg base x k ps λO d=>F O=some (.ok d)
section
variable{K:qB}{x:Str}{F:List q8->Mm q8}
def bC(F:List q8->Mm q8)(fa:AF):EF:=λZ=>bnd (fa Z) λO=>match F O with|some (.ok d)=>some (.ok d)|_=>none
theorem aZ{fa:AF}(C:eG X.prog X.w X.K X.mg X.base x k ps F)(y:Room k X.A)(D:DA X (e::es) fa)(z:Gl X x:=by rfl)(i:U2 x:=by decide)(A:U5 X e es:=by rfl)(g:U6 X pos es:=by rfl):DE X (.Call (.Name x p) (e::es) [] pos) (bC F fa):=⟨by
 rintro w s U H Q I⟨Z,r,H0,Gz,G,K,R,q⟩;obtain⟨f,fd,a,b,c,S⟩:=C.ex;refine b8b S y z a b c .nil (c0g (X:=X)) D.run i A g w s U H Q I (bA R K q.x λO T P H1 o L t j=>?_);split at j;·rename_i d J;cases(qA j);exact⟨P,O,d,⟨o.sub,L.tab⟩,by simpa using t,J,λv N M E u=>q v N M (o.trans E) u⟩
 ·cases j⟩
theorem a0p N O:lZ N O=pA N.length O:=rfl
theorem c2v{f:SF}{fa:Addr} m n(J:Fun K x x st fa fd)(S:FnScope N ps (aD st))(D:N.length=m)(C:ps.length=n)(c:∀ cdv A a s H E,Room k (A.deeper (w4 x (aD st) s.heap.objs.size fa cdv))->DB (fcx P w K mg base N x (aD st) fa cdv A a s H E) (bK st) f):FnOk P w K mg base CX0 (k+1) fa fd ps (spD K λO d=>mC m n f O=some (.ok d)):=by
 refine J.ok S (λy H Q E⟨G,O,d,s,r,b,_⟩=>?_) (λcdv A a s H y Q E p⟨G,O,d,o,r,b,q⟩=>?_)
 ·have b:mC m n f O=some (.ok d):=b;unfold mC at b;split at b;·rename_i F;rw[r.length,F,C]
  ·cases b
 ·have b:mC m n f O=some (.ok d):=b;unfold mC at b;split at b
  ·rw[<-D,<-a0p]at b;split at b;·rename_i L e;cases(qA b);exact⟨_,(c cdv A a s H E p).run,lZ N O,_,H,G,G,e,lR o r,λv j i _ g z=>q v j i g z⟩
   ·rename_i u e;cases(qA b);exact⟨_,(c cdv A a s H E p).run,lZ N O,_,H,G,G,e,lR o r,λj i t _ I=>q .non j i I.grow .none⟩
   ·cases b
  ·cases b
theorem bY{f:SF} m n(D:Def K mg x st)(S:FnScope N ps (aD st))(i:N.length=m)(g:ps.length=n)(j:∀ kV doc pm(an:T0k) cdv ct(us:T0m),us.length=ps.length->uk (jg x x (fD st) (bK st) (aD st) .none kV doc pm an cdv ct) ⟨us,[]⟩=pure (ps.zip us))(b:∀ fa cdv A a s H E,Room k (A.deeper (w4 x (aD st) s.heap.objs.size fa cdv))->DB (fcx P w K mg base N x (aD st) fa cdv A a s H E) (bK st) f):eG P w K mg base x (k+1) ps (mC m n f):=by obtain⟨fa,o,d,c⟩:=D.ex;exact⟨fa,o,c,d.kp,d.binds j,c2v m n d S i g λcdv A a s H E e=>b fa cdv A a s H E e⟩
end
noncomputable def iD{α:Type}(f:q8->Option α):List q8->Option (List α)|[]=>some []|d::O=>match f d with|none=>none|some a=>(iD f O).map (a::·)
noncomputable def b2a:q8->Option Str|.str i=>some i|_=>none
theorem a5w{i:Str}(h:b2a d=some i):d=.str i:=by cases d<;>first|(cases h;done)|(cases(qA h);rfl)
theorem iP{f:q8->Option α}{g:α->q8}(h:∀d a,f d=some a->d=g a):∀{O:T0l}{as:List α},iD f O=some as->O=as.map g
 |[],as,e=>by cases(qA e);rfl|d::O,as,e=>by
  unfold iD at e;split at e;·cases e
  ·rename_i a b;obtain⟨i,c,rfl⟩:=qH.mp e;rw[qI,<-h d a b,iP h c]
theorem yZ{f:q8->Option α}{g:α->q8}(h:∀a,f (g a)=some a):∀as:List α,iD f (as.map g)=some as|[]=>rfl|a::as=>by rw[qI,iD,h a];rw[yZ h as];rfl
theorem b1Z(ns:T0q):iD b2a (ns.map .str)=some ns:=yZ (g:=.str) (λ_=>rfl) ns
variable{y:q8}
section
variable{x:q8}
theorem b4T{a:Operator}{g:Int->Int->Int}(d:OpR X (wz a) (rI0 λi j=>.int (g i j))):OpD X a (.int i) (.int j) (.int (g i j)):=⟨_,d,λv u G H Q s b c q=>by cases b;cases c;exact⟨_,_,rfl,rfl,q _ _ _ (.refl s) (.int _)⟩⟩
theorem a5V{a:Operator}{C:Int->Int->Prop}{g:Int->Int->Int}(d:OpR X (wz a) (rI C λi j=>.int (g i j)))(e:C i j):OpD X a (.int i) (.int j) (.int (g i j)):=⟨_,d,λv u G H Q s b c q=>by cases b;cases c;exact⟨_,_,rfl,rfl,e,q _ _ _ (.refl s) (.int _)⟩⟩
def cF(x y:q8):Option q8:=match x,y with|.int i,.int j=>some (.int (i+j))|.str i,.str j=>if dI (i.length+j.length)then some (.str (i++j))else none|.list a,.list b=>if dI (a.length+b.length)then some (.list (a++b))else none|.tuple a,.tuple b=>if dI (a.length+b.length)then some (.tuple (a++b))else none|_,_=>none
theorem bV x y d(h:cF x y=some d):OpD X .Add x y d:=by
 unfold cF at h;split at h;·cases(qA h);exact b4T c1I
 ·split at h;·rename_i i j k;cases(qA h);exact⟨_,a9k,λv u G H Q s f g q=>by cases f;cases g;exact⟨_,_,rfl,rfl,lY k,q _ _ _ (.refl s) (.str _)⟩⟩
  ·cases h
 ·split at h;·rename_i a b k;cases(qA h);exact⟨_,b0R,λv u G H Q s f g q=>by cases f with|list B e=>cases g with|list p c=>exact⟨_,_,_,_,rfl,rfl,s.seq B,s.seq p,by rw[e.length,c.length];exact lY k,λl o=>q _ _ _ (.put s o) (.list (.of aJ) ((e.append c).mono (cW (s.free o))))⟩⟩
  ·cases h
 ·split at h;·rename_i a b k;cases(qA h);exact⟨_,b8l,λv u G H Q s f g q=>by cases f with|tuple B e=>cases g with|tuple p c=>
      refine⟨_,_,_,_,rfl,rfl,rV s B,rV s p,by rw[e.length,c.length];exact lY k,λz=>?_,λz r=>?_,λ_ _ l o=>q _ _ _ (.put s o) (.tuple (.of aJ) ((e.append c).mono (cW (s.free o))))⟩;·subst z;cases e;exact q _ G H (.refl s) (.tuple p c)
      ·subst r;cases c;exact q _ G H (.refl s) (by rw[jd];exact .tuple B e)⟩
  ·cases h
 ·cases h
noncomputable def b1Y(x y:q8):Option q8:=match x,y with|.int i,.int j=>some (.int (i-j))|_,_=>none
theorem b3X x y d(h:b1Y x y=some d):OpD X .Sub x y d:=by
 unfold b1Y at h;split at h;·cases(qA h);exact b4T c1z
 ·cases h
noncomputable def nY(i:Int):Bool:=decide (-(2^64)<i)&&decide (i<2^64)
theorem a4u(h:nY i=true):-(2^64)<i/\i<2^64:=by unfold nY at h;rw[qE]at h;exact⟨of_decide_eq_true h.1,of_decide_eq_true h.2⟩
def oC(x y:q8):Option q8:=match x,y with|.int i,.int j=>if nY i||nY j then some (.int (i*j))else none|_,_=>none
theorem sO x y d(h:oC x y=some d):OpD X .Mult x y d:=by
 unfold oC at h;split at h
 ·split at h;·rename_i a;cases(qA h);rw[vj]at a;exact a5V c1C (a.imp a4u a4u)
  ·cases h
 ·cases h
noncomputable def a9t(x y:q8):Option q8:=match x,y with|.int i,.int j=>if 0<j then some (.int (i%j))else none|_,_=>none
theorem a6c x y d(h:a9t x y=some d):OpD X .Mod x y d:=by
 unfold a9t at h;split at h
 ·split at h;·rename_i a;cases(qA h);exact a5V c1D a
  ·cases h
 ·cases h
noncomputable def b8Y(x y:q8):Option q8:=match x,y with|.int i,.int j=>if 0<j/\j<1073741824 then some (.int (i/j))else none|_,_=>none
theorem c2x x y d(h:b8Y x y=some d):OpD X .FloorDiv x y d:=by
 unfold b8Y at h;split at h
 ·split at h;·rename_i a;cases(qA h);exact a5V b8k a
  ·cases h
 ·cases h
noncomputable def ltD(x y:q8):Option Bool:=match x,y with|.int i,.int j=>some (decide (i<j))|_,_=>none
noncomputable def leD(x y:q8):Option Bool:=match x,y with|.int i,.int j=>some (decide (i<=j))|.str i,.str j=>some (!decide (j.cps.toList<i.cps.toList))|_,_=>none
noncomputable def gtD(x y:q8):Option Bool:=match x,y with|.int i,.int j=>some (decide (j<i))|_,_=>none
noncomputable def geD(x y:q8):Option Bool:=match x,y with|.int i,.int j=>some (decide (j<=i))|_,_=>none
theorem a1w x y t(h:ltD x y=some t):CmpD X .Lt x y t:=by
 unfold ltD at h;split at h;·cases(qA h);exact c2V
 ·cases h
theorem a1A x y t(h:leD x y=some t):CmpD X .LtE x y t:=by
 unfold leD at h;split at h;·cases(qA h);exact c2W
 ·cases(qA h);exact b9y
 ·cases h
theorem b5O x y t(h:gtD x y=some t):CmpD X .Gt x y t:=by
 unfold gtD at h;split at h;·cases(qA h);exact cmp_gt
 ·cases h
theorem c4n x y t(h:geD x y=some t):CmpD X .GtE x y t:=by
 unfold geD at h;split at h;·cases(qA h);exact c2X
 ·cases h
noncomputable def eqD(x y:q8):Option Bool:=match x,y with|.int i,.int j=>some (decide (i=j))|.str i,.str j=>some (decide (i=j))|.bool i,.bool j=>some (decide (i=j))|x,y=>if qY x&&qY y then some (qv x y)else none
noncomputable def neD(x y:q8):Option Bool:=match x,y with|.int i,.int j=>some (!decide (i=j))|.str i,.str j=>some (!decide (i=j))|.bool i,.bool j=>some (!decide (i=j))|x,y=>if qY x&&qY y then some (!PyData.eqv x y)else none
theorem iF(hu:X.A.units+64<cLine) x y t(h:eqD x y=some t):CmpD X .Eq x y t:=by
 unfold eqD at h;split at h;·cases(qA h);exact b9C
 ·cases(qA h);exact b9B
 ·cases(qA h);exact b9D
 ·split at h;·rename_i a;rw[qE]at a;cases(qA h);exact c2Y hu a.1 a.2
  ·cases h
theorem uQ(hu:X.A.units+64<cLine) x y t(h:neD x y=some t):CmpD X .NotEq x y t:=by
 unfold neD at h;split at h;·cases(qA h);exact b9w
 ·cases(qA h);exact b9v
 ·cases(qA h);exact b9x
 ·split at h;·rename_i a;rw[qE]at a;cases(qA h);exact c2U hu a.1 a.2
  ·cases h
def inD(x y:q8):Option Bool:=match x,a2t y with|.int i,some O=>(iD intD O).map λns=>decide (i∈ns)|.str i,some O=>(iD b2a O).map λns=>decide (i∈ns)|_,_=>none
def c1Q(x y:q8):Option Bool:=(inD x y).map (!·)
theorem pC{K:qB}(s:aT G H)(h:a2t y=some O)(r:Rep K G v y):∃p vs,v=.ref p/\(SqL K H p vs\/SqT K H p vs)/\RepAll K G vs O:=by cases r with|list a r=>cases(qA h);exact⟨_,_,rfl,.inl (s.seq a),r⟩|tuple a r=>cases(qA h);exact⟨_,_,rfl,.inr (rV s a),r⟩|dict _ _ _=>cases h|none=>cases h|bool _=>cases h|int _=>cases h|str _=>cases h
theorem c4e x y t(h:inD x y=some t):CmpD X .In x y t:=by
 unfold inD at h;split at h;·rename_i i O e;obtain⟨f,o,rfl⟩:=qH.mp h;have:=iP (g:=.int) (λd a q=>a6n q) o;subst this;exact⟨_,a4J,λv u G H Q s b c q=>by obtain⟨p,w,rfl,j,r⟩:=pC s e c;have k:=r.ints;subst k;cases b;exact⟨p,_,rfl,j,rfl,a4Z f,by rw[a7R];simpa using q⟩⟩
 ·rename_i i O e;obtain⟨f,o,rfl⟩:=qH.mp h;have:=iP (g:=.str) (λd a q=>a5w q) o;subst this;exact⟨_,a4J,λv u G H Q s b c q=>by obtain⟨p,w,rfl,j,r⟩:=pC s e c;have k:=r.strs;subst k;cases b;exact⟨p,_,rfl,j,rfl,a4Y f,by rw[a7Q];simpa using q⟩⟩
 ·cases h
theorem c1O x y t(h:c1Q x y=some t):CmpD X .NotIn x y t:=by
 obtain⟨z,b,rfl⟩:=qH.mp h;clear h;unfold inD at b;split at b;·rename_i i O e;obtain⟨j,o,rfl⟩:=qH.mp b;have:=iP (g:=.int) (λd a q=>a6n q) o;subst this;exact⟨_,yH,λv u G H Q s c f q=>by obtain⟨p,w,rfl,b,r⟩:=pC s e f;have k:=r.ints;subst k;cases c;exact⟨p,_,rfl,b,rfl,a4Z j,by rw[a7R];simpa using q⟩⟩
 ·rename_i i O e;obtain⟨j,o,rfl⟩:=qH.mp b;have:=iP (g:=.str) (λd a q=>a5w q) o;subst this;exact⟨_,yH,λv u G H Q s c f q=>by obtain⟨p,w,rfl,b,r⟩:=pC s e f;have k:=r.strs;subst k;cases c;exact⟨p,_,rfl,b,rfl,a4Y j,by rw[a7Q];simpa using q⟩⟩
 ·cases b
def sX(O:T0l):Option q8:=match O with|[.list Y]=>some (.int Y.length)|[.tuple Y]=>some (.int Y.length)|[.str z]=>if dI z.length then some (.int z.length)else none|_=>none
theorem pS O d(h:sX O=some d):CallD X (.builtin "len") O d:=by
 unfold sX at h;split at h;·cases(qA h);exact⟨_,pY,λc G H Q s r q=>by cases r with|cons r a=>cases a;cases r with|list b r=>exact⟨_,_,rfl,.inl (s.seq b),by rw[r.length];exact q _ G H (.refl s) (.int _)⟩⟩
 ·cases(qA h);exact⟨_,pY,λc G H Q s r q=>by cases r with|cons r a=>cases a;cases r with|tuple b r=>exact⟨_,_,rfl,.inr (rV s b),by rw[r.length];exact q _ G H (.refl s) (.int _)⟩⟩
 ·split at h;·rename_i e;cases(qA h);exact⟨_,a6G,λc G H Q s r q=>by cases r with|cons r a=>cases a;cases r with|str z=>exact⟨_,rfl,lY e,q _ G H (.refl s) (.int _)⟩⟩
  ·cases h
 ·cases h
def c5C(O:T0l):Option q8:=match O with|[.int i,.int j]=>some (.int (max i j))|[.list Y]=>(match iD intD Y with|some (n::ns)=>some (.int (c3Z (n::ns)))|_=>none)|_=>none
def c5A(O:T0l):Option q8:=match O with|[.int i,.int j]=>some (.int (min i j))|[.list Y]=>(match iD intD Y with|some (n::ns)=>some (.int (c3Y (n::ns)))|_=>none)|_=>none
def allB(O:T0l):Option q8:=match O with|[.list Y]=>(iD uV Y).map λns=>.bool (ns.all id)|_=>none
theorem b6Y(i:X.calm=true) O d(h:allB O=some d):CallD X (.builtin "all") O d:=by
 unfold allB at h;split at h;·obtain⟨c,e,rfl⟩:=qH.mp h;have:=iP (g:=.bool) (λd a q=>a3y q) e;subst this;exact⟨_,b3o i,λj G H Q s r q=>by cases r with|cons r b=>cases b;cases r with|list f r=>have e:=r.bools;subst e;exact⟨_,c,rfl,s.seq f,q _ G H (.refl s) (.bool _)⟩⟩
 ·cases h
noncomputable def mV(O:T0l):Option q8:=match O with|[.list Y]=>some (.tuple Y)|[.tuple Y]=>some (.tuple Y)|_=>none
theorem nW O d(h:mV O=some d):CallD X (.type "tuple") O d:=by
 unfold mV at h;split at h;·cases(qA h);exact⟨_,uU,λe G H Q s r q=>by cases r with|cons r b=>cases b;cases r with|list a r=>exact⟨_,_,rfl,.inl ⟨s.seq a,λl c=>q _ _ _ (.put s c) (.tuple (.of aJ) (r.mono (cW (s.free c))))⟩⟩⟩
 ·cases(qA h);exact⟨_,uU,λe G H Q s r q=>by cases r with|cons r b=>cases b;cases r with|tuple a r=>exact⟨_,_,rfl,.inr ⟨rV s a,q _ G H (.refl s) (.tuple a r)⟩⟩⟩
 ·cases h
noncomputable def a3U(O:T0l):Option q8:=match O with|[.list Y]=>some (.list Y)|[.tuple Y]=>some (.list Y)|_=>none
theorem b5s O d(h:a3U O=some d):CallD X (.type "list") O d:=by
 unfold a3U at h;split at h;·cases(qA h);exact⟨_,yW,λe G H Q s r q=>by cases r with|cons r b=>cases b;cases r with|list c r=>exact⟨_,_,rfl,.inl (s.seq c),λl a=>q _ _ _ (.put s a) (.list (.of aJ) (r.mono (cW (s.free a))))⟩⟩
 ·cases(qA h);exact⟨_,yW,λe G H Q s r q=>by cases r with|cons r b=>cases b;cases r with|tuple c r=>exact⟨_,_,rfl,.inr (rV s c),λl a=>q _ _ _ (.put s a) (.list (.of aJ) (r.mono (cW (s.free a))))⟩⟩
 ·cases h
noncomputable def c5P(O:T0l):Option q8:=match O with|[.bool b]=>some (.int (if b then 1 else 0))|[.int i]=>some (.int i)|_=>none
end
noncomputable def c5w:q8->Option q8|.int i=>some (.int (-i))|_=>none
def op1(g:q8->Option q8)(fa:EF):EF:=λZ=>bnd (fa Z) λx=>lft (g x)
def b6L(g1 g2 g3:q8->q8->Option Bool)(fa fb fc fd:EF):EF:=λZ=>bnd (fa Z) λx=>bnd (fb Z) λy=>bnd (lft (g1 x y)) λt=>if t then bnd (fc Z) λz=>bnd (lft (g2 y z)) λu=>if u then bnd (fd Z) λw=>lft ((g3 z w).map .bool)else some (.ok (.bool false))else some (.ok (.bool false))
def b1G(g1 g2 g3:q8->q8->Option Bool)(fa fb fc fd:EF):TF:=λZ=>bnd (fa Z) λx=>bnd (fb Z) λy=>bnd (lft (g1 x y)) λt=>if t then bnd (fc Z) λz=>bnd (lft (g2 y z)) λu=>if u then bnd (fd Z) λw=>lft (g3 z w)else some (.ok false)else some (.ok false)
noncomputable def isB(k x:q8):Option Bool:=match k,x with|.none,.none=>some true|.none,.bool _=>some false|.none,.int _=>some false|.none,.str _=>some false|.none,.list _=>some false|.none,.tuple _=>some false|.none,.dict _=>some false|.bool a,.bool b=>some (b==a)|_,_=>none
def isE(neg:Bool)(k:q8)(fa:EF):EF:=λZ=>bnd (fa Z) λx=>lft ((isB k x).map λt=>.bool (neg !=t))
def isT(neg:Bool)(k:q8)(fa:EF):TF:=λZ=>bnd (fa Z) λx=>lft ((isB k x).map λt=>neg !=t)
abbrev OF:=List Ent->Mm (Option Int)
noncomputable def b0U:OF:=λ_=>some (.ok none)
def b0T(fa:EF):OF:=λZ=>bnd (fa Z) λx=>lft ((intD x).map some)
def slD(x:q8)(lo hi:Option Int):Option q8:=match x with|.list O=>some (.list (cutD O lo hi))|.tuple O=>if HT.sIx O.length 0 lo=0/\HT.sIx O.length O.length hi=O.length then none else some (.tuple (cutD O lo hi))|_=>none
def slE(fa:EF)(lo hi:OF):EF:=λZ=>bnd (fa Z) λx=>bnd (lo Z) λl=>bnd (hi Z) λh=>lft (slD x l h)
noncomputable def tyI:q8->Option Bool|.int _=>some true|.bool _=>some true|.dict _=>none|_=>some false
noncomputable def tyB:q8->Option Bool|.bool _=>some true|.dict _=>none|_=>some false
noncomputable def tyS:q8->Option Bool|.str _=>some true|.dict _=>none|_=>some false
noncomputable def tyT:q8->Option Bool|.tuple _=>some true|.dict _=>none|_=>some false
def b8N(T:String)(x:q8):Option Bool:=if T="int"then tyI x else if T="bool"then tyB x else if T="str"then tyS x else if T="tuple"then tyT x else none
def isD(T:String)(x:q8):Option q8:=(b8N T x).map .bool
noncomputable def mP(ns:T0q):List Str:=ns.foldl (λa n=>if n∈a then a else a++[n]) []
noncomputable def cZ(a b:Str):Bool:=!decide (b.cps.toList<a.cps.toList)
def gW(ns:T0q):List Str:=ns.mergeSort cZ
variable{o1 o2 o3:CmpOp}{g1 g2 g3:q8->q8->Option Bool}
section
variable{d:Expr}{fd:EF}
theorem b9r(B:∀x y t,g1 x y=some t->CmpD X o1 x y t)(o:∀x y t,g2 x y=some t->CmpD X o2 x y t)(k:∀x y t,g3 x y=some t->CmpD X o3 x y t)(j:DE X a fa)(i:DE X b fb)(g:DE X c fc)(f:DE X d fd)(e:QA [o1,o2,o3] [b,c,d]=false:=by with_unfolding_all rfl):DE X (.Compare a [o1,o2,o3] [b,c,d] pos) (b6L g1 g2 g3 fa fb fc fd):=a8j j e λ_ _ _ _ _ _ _=>a1c B i (a1c o g (a5f k f))
theorem b9k(B:∀x y t,g1 x y=some t->CmpD X o1 x y t)(o:∀x y t,g2 x y=some t->CmpD X o2 x y t)(k:∀x y t,g3 x y=some t->CmpD X o3 x y t)(j:DE X a fa)(i:DE X b fb)(g:DE X c fc)(f:DE X d fd)(e:QA [o1,o2,o3] [b,c,d]=false:=by with_unfolding_all rfl):DT X (.Compare a [o1,o2,o3] [b,c,d] pos) (b1G g1 g2 g3 fa fb fc fd):=a8e j e λ_ _ _ _ _ _ _=>a1d B i (a1d o g (a5g k f))
theorem c1F:OpR X (wa .Is) (λx y H Q=>∃c d,x=.bl c/\y=.bl d/\Q (.bl (c==d)) H):=by rintro g s U H x y v u Q I b a⟨c,d,f,e,q⟩;subst f e;cases b;cases a;exact is_bool (bU I q rfl)
theorem b9A(h:isB .none x=some t):CmpD X .Is x .none t:=⟨_,c1E,λv u G H Q s a b q=>by cases b;refine⟨rfl,?_⟩;cases a<;>(have h:=qA h;subst h;exact q)⟩
theorem b5G{c:Bool}{x:q8}(h:isB (.bool c) x=some t):∃d,x=.bool d/\t=(d==c):=by cases x<;>first|(cases h;done)|(exact⟨_,rfl,(qA h).symm⟩)
theorem b9z{c:Bool}{x:q8}(h:isB (.bool c) x=some t):CmpD X .Is x (.bool c) t:=by obtain⟨d,rfl,rfl⟩:=b5G h;exact⟨_,c1F,λv u G H Q s a b q=>by cases a;cases b;exact⟨_,_,rfl,rfl,q⟩⟩
def isG(neg:Bool)(k:q8)(x y:q8):Option Bool:=match k,y with|.none,.none=>(isB k x).map λt=>neg !=t|.bool a,.bool b=>if a=b then(isB k x).map λt=>neg !=t else none|_,_=>none
theorem c2o a k(b:k=.none\/∃c,k=.bool c):isT a k fa=bJ (isG a k) fa (cst k):=by funext Z;unfold isT bJ cst;cases fa Z with|none=>rfl|some r=>cases r with|ex c=>rfl|ok x=>
   obtain rfl|⟨c,rfl⟩:=b;·rfl
   ·show lft _=lft _;simp only[isG,if_pos]
theorem c2p{k x:q8}(h:isG false k x y=some t):CmpD X .Is x y t:=by
 unfold isG at h;split at h;·obtain⟨a,e,rfl⟩:=qH.mp h;have:=b9A (X:=X) e;cases a<;>exact this
 ·split at h;·rename_i b;subst b;obtain⟨a,e,rfl⟩:=qH.mp h;have:=b9z (X:=X) e;cases a<;>exact this
  ·cases h
 ·cases h
theorem b0b{j:_}(b:DE X a fa):DT X (.Compare a [.Is] [.Constant .none j p] pos) (isT false .none fa):=by rw[c2o _ _ (.inl rfl)];exact aW (λ_ _ _ h=>c2p h) b b1A
end
end L2.L3
variable{t:L2.L3.Tg}{r:L2.L3.Re q8}{f:L2.L3.SF}{Z ρ' ρ1 ρ2:List L2.L3.Ent}{fa fb fc fe fk fv fx:L2.L3.EF}{ft fu:L2.L3.TF}{fi aa:L2.L3.AF}{b':L2.L3.BS}{e2 e3:L2.L3.Ent}
namespace L2.SX
open PySem
def rY(Y:Array Nat):Prop:=Y.toList.Pairwise (·<·)
variable{Y:Array Nat}
theorem rY.lt(h:rY Y)(a:i<j)(b:j<Y.size):Y[i]<Y[j]:=by have:=List.pairwise_iff_getElem.mp h i j (by simpa using vY a b) (by simpa using b) a;exact this
theorem b5R{j:Nat}(h:rY Y):∀ fuel lo hi,hi-lo<=fuel->lo<=hi->hi<=Y.size->(∀i a,i<lo->Y[i]<j)->(∀i a,hi<=i->j<=Y[i])->zb Y j fuel lo hi<=Y.size/\(∀i a,i<zb Y j fuel lo hi->Y[i]<j)/\∀i(a:i<Y.size),zb Y j fuel lo hi<=i->j<=Y[i]
 |0,lo,hi,hf,hl,hs,B,h2=>by
  have:lo=hi:=by lia
  subst this;exact⟨hs,B,h2⟩|fuel+1,lo,hi,hf,hl,hs,B,h2=>by
  unfold zb;by_cases b:lo<hi
  ·rw[if_pos b];dsimp only;have e:(lo+hi)/2<Y.size:=by lia
   have k:Y.getD ((lo+hi)/2) j=Y[(lo+hi)/2]:=by simp[e]
   rw[k];by_cases c:Y[(lo+hi)/2]<j
   ·rw[if_pos c];refine b5R h fuel _ hi (by lia) (by lia) hs (λi a f=>?_) h2;by_cases d:i=(lo+hi)/2;·subst d;exact c
    ·exact vY (h.lt (by lia) e) c
   ·rw[if_neg c];refine b5R h fuel lo _ (by lia) (by lia) (by exact Nat.le_of_lt ‹_›) B (λi a g=>?_);by_cases d:i=(lo+hi)/2;·subst d;lia
    ·have:=h.lt (i:=(lo+hi)/2) (j:=i) (by lia) a;lia
  ·rw[if_neg b];have:lo=hi:=by lia
   subst this;exact⟨hs,B,h2⟩
theorem tP(h:rY Y) j:qj Y j<=Y.size/\(∀i a,i<qj Y j->Y[i]<j)/\∀i(a:i<Y.size),qj Y j<=i->j<=Y[i]:=b5R h _ _ _ (by lia) (qx _) (qQ _) (λ_ _ z=>absurd z (by lia)) (λi a z=>absurd z (by lia))
theorem b0p(h:rY Y)(a:i<Y.size):qj Y (Y[i]+1)=i+1:=by
 obtain⟨f,c,b⟩:=tP h (Y[i]+1);have e:¬qj Y (Y[i]+1)<=i:=λz=>by have:=b i a z;lia
 have d:¬i+1<qj Y (Y[i]+1):=λz=>by
  have lt:i+1<Y.size:=by lia
  have:=c (i+1) lt z;have:=h.lt (i:=i) (j:=i+1) (by lia) lt;lia
 lia
theorem b0o Y(h:rY Y):qj Y 0=0:=by obtain⟨c,a,b⟩:=tP h 0;cases e:qj Y 0 with|zero=>rfl|succ n=>have:=a 0 (by lia) (by lia);lia
theorem a7p(h:rY Y)(w:Y[qj Y j]?≠some j):rY (j6.insertAt Y (qj Y j) j):=by
 obtain⟨C,z,v⟩:=tP h j;unfold rY;rw[j6.toList_insertAt,List.pairwise_append];have ne:∀i(c:i<Y.size),qj Y j<=i->j<Y[i]:=λi c o=>by
  have a:=v i c o;by_cases e:Y[i]=j
  ·exfalso;by_cases y:i=qj Y j;·exact w (by rw[<-y];simp[c,e])
   ·have lt:qj Y j<i:=by lia
    have:=h.lt (i:=qj Y j) (j:=i) lt c;have:=v (qj Y j) (by exact Q6 ‹_› ‹_›) (qQ _);lia
  ·lia
 refine⟨h.sublist (vG _ _),?_,λa q b p=>?_⟩
 ·rw[jh];refine⟨λa q=>?_,h.sublist (List.drop_sublist _ _)⟩;obtain⟨k,g,e⟩:=zC.mp q;rw[List.getElem_drop]at e;subst e;have:qj Y j+k<Y.size:=by simpa using(by rw[zG,qJ]at g;lia:qj Y j+k<Y.size)
  have:=ne (qj Y j+k) this (by lia);simpa using this
 ·obtain⟨k,g,e⟩:=zC.mp q;rw[List.getElem_take]at e;subst e;rw[jj,qJ]at g;have t:k<Y.size:=by lia
  have A:=z k t (by lia);have r:Y.toList[k]'(by exact t)<j:=by simpa using A
  obtain rfl|p:=qM.mp p;·exact r
  ·obtain⟨d,f,u⟩:=zC.mp p;rw[List.getElem_drop]at u;subst u;have s:qj Y j+d<Y.size:=by rw[zG,qJ]at f;lia
   have:=ne (qj Y j+d) s (by lia);have:j<Y.toList[qj Y j+d]'(by simpa using s):=by simpa using this
   lia
structure TOk(t:j6)(led:Bool):Prop where
 led:t.led=led
 rise:t.plain=true->rY t.place
theorem TOk.fresh led:TOk (zf 0 0 led) led:=⟨rfl,λ_=>by simp[zf,rY]⟩
theorem TOk.standIn{t:j6}{led:Bool}(h:TOk t led) n:TOk (t.standIn n) led:=⟨h.led,λz=>by cases z⟩
variable{t:j6}
theorem TOk.off(h:TOk t led):TOk {t with plain:=false} led:=⟨h.led,λz=>by cases z⟩
theorem TOk.orStandIn{led:Bool}(h:TOk t led) n:TOk (t.orStandIn n) led:=by
 unfold j6.orStandIn;split;·exact h
 ·exact h.standIn n
theorem b2f(h:t.slot j=.empty\/t.slot j=.dummy):t.place[qj t.place j]?≠some j:=by
 intro z;have:t.slot j=.live (qj t.place j):=by unfold j6.slot;rw[if_pos (by rw[z];simp)]
 obtain h|h:=h<;>(rw[this]at h;cases h)
theorem xG{f:Nat->Int}{h:Int}:∀ fuel p j d,(∀k,p.dummy=some k->t.slot k=.dummy)->j6.probe.go t f h fuel p=some (.empty j d)->(t.slot j=.empty)/\∀k,d=some k->t.slot k=.dummy
 |0,p,j,d,_,e=>by cases e|fuel+1,p,j,d,hd,e=>by
  unfold j6.probe.go at e;split at e;·rename_i c;cases(qA e);exact⟨c,hd⟩
  ·rename_i c;refine xG fuel _ j d (λk b=>?_) e;have a:∀q:j6.Probe,(t.advance q).dummy=q.dummy:=λq=>by unfold j6.advance;split<;>rfl
   rw[a]at b;cases b;exact c
  ·split at e;·cases e
   ·refine xG fuel _ j d (λk b=>?_) e;have a:∀q:j6.Probe,(t.advance q).dummy=q.dummy:=λq=>by unfold j6.advance;split<;>rfl
    rw[a]at b;exact hd k b
theorem TOk.layNew{led:Bool}(h:TOk t led) es hs x:TOk (layNew t es hs x).2.1 led:=by
 unfold PySem.layNew;split
 ·rename_i c q e;have f:TOk (t.put c).1 led:=by
   refine⟨h.led,λi=>?_⟩;have g:=h.rise i;refine a7p g (b2f ?_);unfold j6.freeSlot j6.probe at e;split at e;·rename_i j d p;obtain⟨a,b⟩:=xG _ _ j d (λk o=>by simp[j6.probeStart]at o) p;cases(qA e);cases d with|none=>exact .inl a|some k=>exact .inr (b k rfl)
   ·cases e
  exact f.orStandIn _
 ·exact h.standIn _
theorem TOk.relayAll{led:Bool}(h:TOk t led) es c:TOk (relayAll t es c).2.1 led:=by
 unfold PySem.relayAll;split
 ·rename_i p f e;dsimp only;split;·unfold j6.relaid j6.laid at e;cases i:j6.layClean (j6.sizeAbove c-1) (es.map (·.1))with|none=>rw[i]at e;cases e|some d=>rw[i]at e;have e:=qA e;have o:=(congrArg Prod.fst e).symm;subst o;refine⟨h.led,λ_=>?_⟩;show List.Pairwise (·<·) _;simp only;rw[jK,List.pairwise_filterMap];refine List.pairwise_lt_range.imp ?_;intro a b g x k y j;obtain⟨u,_,rfl⟩:=qH.mp k;obtain⟨v,_,rfl⟩:=qH.mp j;exact g
  ·exact h.standIn _
 ·exact h.standIn _
end L2.SX
namespace L2.SX
open PySem PyProof.Rows
variable{es:Array (Int×Value)}{t:j6}
section
variable{K:Type}[DecidableEq K]
structure Good(knd:KeyKind prog w K)(h:Heap)(a:Addr)(ks:List K)(led:Bool):Prop where
 ex:∃o es ep t,h.get? a=some o/\o.ExactSet/\o.data=.set es ep t/\ElemsOf knd es.toList/\(∀k,k∈ks↔∃e∈es.toList,knd.is k e.2=true)/\es.size=ks.length/\t.fits es.size=true/\TOk t led
 nd:ks.Nodup
 few:ks.length<yk
noncomputable def addK(ks:List K)(k:K):List K:=if k∈ks then ks else ks++[k]
variable{knd:KeyKind prog w K}{ks:List K}
theorem Good.keeps(g:Good knd h a ks led)(k:∀o,h.get? a=some o->h'.get? a=some o):Good knd h' a ks led:=by obtain⟨o,c,d,t,b,r⟩:=g.ex;exact⟨⟨o,c,d,t,k o b,r⟩,g.nd,g.few⟩
theorem stored{h:Heap}{o:Obj}{es':Array (Int×Value)}{t':j6}(b:h.get? a=some o)(c:o.data=.set es ep t):(h.update a (kr es' t')).get? a=some {o with data:=.set es' (ep+1) t'}:=by have e:=putSet_of es' t' c;have q:=kS (kr es' t') b (by rw[e];rfl);rwa[e]at q
theorem bV{k:K}{x:Value}{Q:Bool->Shared->Prop}(u:knd.is k x=true)(M:x.scannable=true)(g:Good knd s.heap a ks led)(hroom:ks.length+1<yk)(h:∀h' b,jx a s.heap h'->Good knd h' a (addK ks k) led->Q b {s with heap:=h'}):wpAny (model prog w) A (QL a x (knd.hash k)) Q E s:=by
 obtain⟨o,T,ep,t,ho,hex,hd,P,D,hn,hf,hT⟩:=g.ex;have hb:T.size<yk:=by rw[hn];exact g.few
 refine k7 (j0 (wq ho hd hf ?_));dsimp only;rw[byScan_of M hb P];simp only;refine j0 (j0 (w9 (j0 (wpAny_setScan_of u ho hd hf P ?_))));cases hr:List.findIdx? (λe=>knd.is k e.2) T.toList with|some j=>obtain⟨hj,hpj,_⟩:=List.findIdx?_eq_some_iff_getElem.mp hr;have hk:=(D k).mpr ⟨T.toList[j],jR hj,hpj⟩;refine j3 (j3 ?_);have q:=h s.heap false (Heap.SameBut.refl a s.heap) (by unfold addK;rwa[if_pos hk]);exact q|none=>
  have hk:k∉ks:=λz=>by obtain⟨e,v,X⟩:=(D k).mp z;have:=List.findIdx?_eq_none_iff.mp hr e v;rw[X]at this;cases this
  have gone:∀(b:Bool){i:Shared}{G:Unit->Shared->Prop},G () i->wpAny (model prog w) A (match b with|true=>rule "set.scan.the-table-gave-way"|false=>pure ()) G E i:=by
   intro b i G q;cases b;·exact j3 q
   ·exact w9 q
  have d:=layNew_perm t T (knd.hash k) x;have f:=layNew_fits t T (knd.hash k) x;have F:=hT.layNew T (knd.hash k) x;generalize layNew t T (knd.hash k) x=L at d f F⊢;obtain⟨c,t1,wd,gave⟩:=L;dsimp only at d f F⊢;rw[kE]at d;have I:=(P.push u M).perm d;have C:∀J,J∈addK ks k↔∃e∈c.toList,knd.is J e.2=true:=by
   intro J;unfold addK;rw[if_neg hk,qX,qV,D J];constructor
   ·rintro(⟨e,v,X⟩|rfl);·exact⟨e,d.mem_iff.mpr (jQ _ v),X⟩
    ·exact⟨_,d.mem_iff.mpr (qb _ (qV.mpr rfl)),u⟩
   ·rintro⟨e,v,X⟩;rcases qX.mp (d.mem_iff.mp v)with v|v;·exact .inl ⟨e,v,X⟩
    ·rw[qV]at v;subst v;exact .inr (knd.inj x J k X u)
  have r:(addK ks k).length=ks.length+1:=by unfold addK;rw[if_neg hk];simp
  have H:c.size=(addK ks k).length:=by rw[r,<-hn,<-qJ,d.length_eq];simp
  have hb1:c.size<yk:=by rwa[H,r]
  have hnd:(addK ks k).Nodup:=by unfold addK;rw[if_neg hk,jL];exact⟨g.nd,by simp,λa ha b hb=>by rw[qV]at hb;subst hb;exactλz=>hk (z▸ha)⟩
  have y:∀{gv:Bool->Sem Unit}(hgv:∀(b:Bool)(i:Shared)(G:Unit->Shared->Prop),G () i->wpAny (model prog w) A (gv b) G E i){p:j6},p.fits c.size=true->TOk p led->∀{R:Option Bool->Shared->Prop},(∀h',jx a s.heap h'->Good knd h' a (addK ks k) led->R (some true) {s with heap:=h'})->wpAny (model prog w) A (do
     storeSet a c p if(!wd&&p.tooFull)=true then do
       gv (relayAll p c (zM c.size)).2.2
       storeSet a (relayAll p c (zM c.size)).1 (relayAll p c (zM c.size)).2.1
       pure (some true)else pure (some true)) R E s:=by
   intro gv hgv p hf2 hT2 R hR;refine j0 (y6 ho hd ?_ (yz hb1));have N:=stored (es':=c) (t':=p) ho hd;have sb1:=vH s.heap a (kr c p);split
   ·have p2:=relayAll_perm p c (zM c.size);have f2:=relayAll_fits p c (zM c.size);have hT3:=hT2.relayAll c (zM c.size);generalize relayAll p c (zM c.size)=W at p2 f2 hT3⊢;obtain⟨S,t3,gv2⟩:=W;have sz2:S.size=c.size:=by rw[<-qJ,p2.length_eq,qJ]
    refine j0 (hgv _ _ _ ?_);refine j0 (y6 N rfl ?_ (yz (by rwa[sz2])));have ho2:=stored (a:=a) (es':=S) (t':=t3) N rfl;refine j3 (hR _ (sb1.trans (vH _ a _)) ⟨⟨_,S,_,t3,ho2,hex,rfl,I.perm p2,λJ=>(C J).trans ⟨by rintro ⟨e,v,q⟩;exact⟨e,p2.mem_iff.mpr v,q⟩,by rintro ⟨e,v,q⟩;exact⟨e,p2.mem_iff.mp v,q⟩⟩,by rwa[sz2],f2,hT3⟩,hnd,by rwa[r]⟩)
   ·exact j3 (hR _ sb1 ⟨⟨_,c,_,p,N,hex,rfl,I,C,H,hf2,hT2⟩,hnd,by rwa[r]⟩)
  refine j0 (gone _ ?_);split
  ·refine j0 ?_;rw[hashByValue_scannable 8 M];refine j3 ?_;split;·refine y (λb i G q=>by cases b<;>first|exact j3 q|exact w9 q) f F λh' sb gg=>?_;exact j3 (h h' true sb gg)
   ·refine y (λb i G q=>by cases b<;>first|exact j3 q|exact w9 q) (j6.fits_plain_off f) F.off λh' sb gg=>?_;exact j3 (h h' true sb gg)
  ·refine j0 (j3 ?_);simp only;refine y (λb i G q=>by cases b<;>first|exact j3 q|exact w9 q) f F λh' sb gg=>?_;exact j3 (h h' true sb gg)
end
section
variable{K:Type}[DecidableEq K]{knd:KeyKind prog w K}{R:Result->Shared->Prop}{wr:T0o}{G:Array uu->Array uu->Prop}{n:Nat}{P:Nat->Value->Prop}{St:Nat->Shared->Prop}
def metK(val:Nat->K)(i:Nat):List K:=((ql i).map val).foldl addK []
theorem metK_succ(val:Nat->K) i:metK val (i+1)=addK (metK val i) (val i):=by unfold metK;rw[List.range_succ,jC,List.foldl_append];rfl
theorem metK_len(val:Nat->K):∀i,(metK val i).length<=i
 |0=>by simp[metK]|i+1=>by
  have:=metK_len val i;rw[metK_succ];unfold addK;split;·lia
  ·simp;omega
theorem b8F(W:WalksS prog w A.in1 I fp wr G n P St) S(j:S∉fp) val(f:∀i v,P i v->knd.is (val i) v=true/\v.scannable=true)(t:∀i v A'(X:T0a) s' K,P i v->K (knd.hash (val i)) {s' with toks:=s'.toks+1}->wpAny (model prog w) A' (pyHash v) K X s')(H:n+1<yk):∀ m i s,n-i=m->i<=n->St i s->Good knd s.heap S (metK val i) led->(∀s',Moved (S::wr) G s s'->Good knd s'.heap S (metK val n) led->R (.ok (.ret .none)) s')->wn (model prog w) A (.builtin "set.update.loop" ⟨[.ref S,.ref I],[]⟩) R s:=by
 have F:S∉wr:=λz=>j (W.sub _ z);have D:∀b∈wr,b∈S::wr:=λb H=>qF _ H;intro m;induction m with|zero=>
  intro i s M Q p g y;obtain rfl:i=n:=by lia
  refine v4 zp ?_;rw[jU kN _];exact j0 (W.done s _ _ p λs' d=>j3 (y s' (d.mono D) (g.keeps λo e=>d.heap S o F e)))|succ m L=>
  intro i s M Q p g y;have lt:i<n:=by lia
  refine v4 zp ?_;rw[jU kN _];refine j0 (W.item i s _ _ lt p λv s' pv k d=>?_);have T:=g.keeps (h':=s'.heap) λo e=>d.heap S o F e;obtain⟨N,r⟩:=f i v pv;refine j0 (k7 ?_);refine k7 (j0 (t i v _ _ _ _ pv ?_));have room:(metK val i).length+1<yk:=by have:=metK_len val i;lia
  refine bV (knd:=knd) (s:={s' with toks:=s'.toks+1}) N r T room λh' b E J=>?_;rw[<-metK_succ]at J;refine j3 ⟨wy kN _,L (i+1) _ (by lia) lt (W.frame _ s' _ _ k (kj _) λc u o e=>?_) J λq a C=>?_⟩;·rwa[E.2 c (λz:c=S=>j (z▸u))]
  ·refine y q (Moved.trans W.gtrans ((d.mono D).then_heap (kj _) λc o u e=>?_) a) C;rwa[E.2 c (λz:c=S=>u (by rw[z];exact qa))]
end
noncomputable def ledOf(w:World):Bool:=!w.params.followText "set-order"
abbrev dE(w:World):Obj:={cls:=.type "set",dict:=none,data:=.set #[] 0 (.fresh 0 0 (ledOf w))}
section
variable{K:Type}[DecidableEq K]{knd:KeyKind prog w K}
theorem b5Q(h:Heap):Good knd (h.push (dE w)) h.objs.size [] (ledOf w):=⟨⟨_,#[],0,_,qP _ rfl,⟨rfl,rfl,rfl⟩,rfl,λe a=>by simp at a,λk=>by simp,rfl,rfl,.fresh _⟩,List.nodup_nil,by show 0<yk;decide⟩
theorem new_one v{Q1:T0a}(h:Q1 (.ref s.heap.objs.size) {s with heap:=s.heap.push (dE w)}):wn (model prog w) A (.call (.builtin "set.__new__") ⟨[.type "set",v],[]⟩) (wants Q1 E) s:=by refine codeAny_of_tree ?_;show wpAny _ A.in1 (u8 "set.__new__" ⟨[.type "set",v],[]⟩>>=λ_=>again (.builtin "set.__new__" ⟨[.type "set",v],[]⟩)) _ _ s;refine j0 (ul (F.newCall_set_1 v) (j3 ⟨wy F.plain_set_new _,v4 F.entry_set_new ?_⟩));rw[jU F.plain_set_new _];unfold Builtin.«set.__new__»Builtin.Frozenset.newClass;have sub:=sub_set_self;obtain⟨hp,gs,dr,tk,os⟩:=s;dsimp only;wp_walk;refine w8 (j3 ?_);dsimp only[newObj];exact j0 (wpAny_alloc (j3 (j3 h)))
theorem set_of(hh:A.handled=none)(hl:s.heap.IsList l items)(hval:∀i v,items[i]?=some v->knd.is (val i) v=true/\v.scannable=true)(hpy:∀i v A'(E':T0a) s' Q',items[i]?=some v->Q' (knd.hash (val i)) {s' with toks:=s'.toks+1}->wpAny (model prog w) A' (pyHash v) Q' E' s')(hb:items.size+1<yk)(h:∀ h' tk,Good knd h' s.heap.objs.size (metK val items.size) (ledOf w)->(∀b o,b<s.heap.objs.size->s.heap.get? b=some o->h'.get? b=some o)->Q (.ref s.heap.objs.size) {s with heap:=h',toks:=tk}):wpAny (model prog w) A (call (.type "set") [.ref l]) Q E s:=by
 obtain⟨c,tl,hmro⟩:=jk.mro;have hmade:=jk.made;have hsub:=jk.sub;refine yg (codeAny_of_tree ?_);show wpAny _ _ (callAny (.type "set") ⟨[.ref l],[]⟩) _ _ _;refine j3 ⟨Code.quiet_builtin _ (by decide+kernel),v4 F.entry_type_call ?_⟩;rw[Around.under_plain (weight_type_call_type "set" [.ref l] []) rfl];have n1:=jk.notType;have n2:=jk.canCreate;have n3:=F.typeCall_set_1 (.ref l);repeat(any_goals(first|assumption|wp_step))
 refine wc (new_one (.ref l) (E:=E) (Q1:=λob s1=>ob=.ref s.heap.objs.size/\s1={s with heap:=s.heap.push (dE w)}) ⟨rfl,rfl⟩) λr s1 hr=>?_;cases r with|error e=>exact hr|ok fl=>cases fl with
  |ret ob=>
   obtain⟨rfl,rfl⟩:=hr;have hS:(s.heap.push (dE w)).get? s.heap.objs.size=some (dE w):=qP _ rfl;have hT:vB {s with heap:=s.heap.push (dE w)} (.ref s.heap.objs.size) "set":=⟨_,hS,rfl⟩;have k1:=jk.init.lookup;have k2:=jk.init.bind (.ref s.heap.objs.size);repeat(any_goals(first|assumption|wp_step))
   refine wc (yf (R:=wants (λr s2=>r=.none/\∃h' tk,s2={s with heap:=h',toks:=tk}/\Good knd h' s.heap.objs.size (metK val items.size) (ledOf w)/\∀b o,b<s.heap.objs.size->s.heap.get? b=some o->h'.get? b=some o) E)
    jk.init.plain F.entry_set_init (check_set_init_1 hT ?_)) λr2 s2 hr2=>?_
   ·obtain⟨ol,g0,c0,nl,d0⟩:=hl;obtain⟨ocl,odc,odt,osl⟩:=ol;dsimp only at c0 d0;subst c0 d0;have g1:(s.heap.push (dE w)).get? l=some {cls:=.type "list",dict:=odc,data:=.seq items nl,slots:=osl}:=qC _ g0;have s1:=F.sub_list_set;have s2:=F.sub_list_frozenset;have ne:(zH "list"==zH "dict")=false:=by decide
    have L1:(s.heap.push (dE w)).IsList l items:=⟨_,g1,rfl,nl,rfl⟩;unfold Builtin.«set.__init__»noKeywords Builtin.Frozenset.updateFrom;generalize hI:QK=PI;wp_walk;subst hI;refine yd L1 (j0 (u0 ?_));have lt:l<s.heap.objs.size:=qN g0;have h3:A.in1.in1.in1.handled=none:=by simp[hh]
    have nI:l≠(s.heap.push (dE w)).objs.size:=by rw[jW];exact qW (jn lt)
    have nf:s.heap.objs.size∉[(s.heap.push (dE w)).objs.size,l]:=by
     rw[jW];intro z;rcases qM.mp z with z|z;·exact absurd z (qW (zF _))
     ·rw[qV]at z;exact absurd z (kJ lt)
    refine b8F (knd:=knd) (led:=ledOf w) ((Walks.list h3 _ l nI items).toS) s.heap.objs.size nf val hval hpy hb (items.size-0) 0 _ (by omega) (qx _) ⟨⟨_,qP _ rfl,rfl,rfl⟩,L1.push _⟩ ?g0 ?gR;case g0=>exact(b5Q (knd:=knd) s.heap).keeps λo e=>qC _ e
    case gR=>
     intro s' mv g';obtain⟨h',gs',dr',tk',os'⟩:=s';obtain rfl:gs'=s.gens:=mv.gens;obtain rfl:dr'=s.drawn:=mv.drawn;obtain rfl:os'=s.os:=mv.os;show wpAny _ _ _ _ _ _;refine j3 ?_;show wpAny _ _ (ret kC) _ _ _;refine j3 ⟨rfl,h',tk',rfl,g',λb o hb' e=>?_⟩;refine mv.heap b o (λz=>?_) (qC _ (qC _ e));rcases qM.mp z with z|z;·exact absurd z (qW hb')
     ·rw[qV,jW]at z;exact absurd z (qW (jn hb'))
   ·cases r2 with|error e=>exact hr2|ok fl2=>
     cases fl2 with|ret r=>
      obtain⟨rfl,h',tk,rfl,g',kp⟩:=hr2;repeat(any_goals(first|assumption|wp_step))
      exact h _ _ g' kp|_=>exact hr2.elim
  |_=>exact hr.elim
end
theorem slot_next:Slot "set_iterator" "__next__" "set_iterator.__next__":=.of (owner:="set_iterator") (n:="__next__") (by rw[typeLookup_type,y7];kernel_rfl) (by decide+kernel) (by decide+kernel) (by decide+kernel) (by first|exact .inl (by decide+kernel)|exact .inr (by decide+kernel)) (by rw[isSubtype_type];kernel_rfl)
theorem entry_next:entryFor table "set_iterator.__next__"=some Builtin.«set_iterator.__next__»:=entryFor_of_fast (by kernel_rfl)
theorem args_next v:argsOk "set_iterator.__next__" ⟨[v],[]⟩:=by kernel_rfl
theorem a9V:entryFor table "set.__iter__"=some Builtin.«frozenset.__iter__»:=entryFor_alias (id':="frozenset.__iter__") (by kernel_rfl) rfl (by decide+kernel) (by kernel_rfl)
noncomputable abbrev itO(f0:Value)(i:Nat)(a:Addr)(n ep:Nat):Obj:={cls:=.type "set_iterator",data:=.fields #[f0,v2 i,.ref a,v2 n,v2 ep]}
structure SetAt(h:Heap)(a:Addr)(es:Array (Int×Value))(ep:Nat)(t:j6):Prop where
 ex:∃o,h.get? a=some o/\o.cls=.type "set"/\o.data=.set es ep t
 fits:t.fits es.size=true
theorem SetAt.keeps(g:SetAt h a es ep t)(k:∀o,h.get? a=some o->h'.get? a=some o):SetAt h' a es ep t:=by obtain⟨o,b,r⟩:=g.ex;exact⟨⟨o,k o b,r⟩,g.fits⟩
theorem SetAt.state{Q:(Array (Int×Value)×Nat×j6)->Shared->Prop}(g:SetAt s.heap a es ep t)(h:Q (es,ep,t) s):wpAny (model prog w) A (setState a) Q E s:=by obtain⟨o,b,_,c⟩:=g.ex;exact wq b c g.fits h
theorem SetAt.entries{Q:Array (Int×Value)->Shared->Prop}(g:SetAt s.heap a es ep t)(h:Q es s):wpAny (model prog w) A (uz a) Q E s:=by exact j0 (g.state (j3 h))
theorem next_item{Q:Option Value->Shared->Prop}(hI:s.heap.get? I=some (itO (v2 f0) i a es.size ep))(g:SetAt s.heap a es ep t)(hn:∀ A'(E':T0a)(Q':Option (Value×Nat)->Shared->Prop),Q' (some (x,nx)) s->wpAny (model prog w) A' (uq a f0 i ep) Q' E' s)(hQ:∀h',h'.get? I=some (itO (v2 nx) (i+1) a es.size ep)->jx I s.heap h'->Q (some x) {s with heap:=h'}):wpAny (model prog w) A (yq (.ref I)) Q E s:=by have hT:s.TypeIs (.ref I) "set_iterator":=⟨_,hI,rfl⟩;refine j0 (ym (wp (name:=vN "__next__") hT slot_next (v8 slot_next hT entry_next ?_ (args_next _))));unfold Builtin.«set_iterator.__next__»;generalize hSE:uz=SE;generalize hSN:uq=SN;generalize hSF:setField=SF;wp_walk;subst hSE hSN hSF;refine g.entries ?_;rw[if_neg (by simp)];show wpAny _ A.in1 (uq a (f0:Int).toNat (i:Int).toNat (ep:Int).toNat>>=_) _ _ s;rw[jp,jp,jp];refine j0 (hn _ _ _ ?_);refine j0 (ww hI (by simp) λB g1 s1=>?_);refine j0 (ww g1 (by simp) λh2 g2 s2=>?_);refine j3 ⟨x,rfl,j3 (hQ h2 ?_ (s1.trans s2))⟩;rw[g2];rfl
theorem next_end{Q:Option Value->Shared->Prop}(hh:A.handled=none)(hI:s.heap.get? I=some (itO (v2 f0) i a es.size ep))(g:SetAt s.heap a es ep t)(hn:∀ A'(E':T0a) Q',Q' none s->wpAny (model prog w) A' (uq a f0 i ep) Q' E' s)(hQ:∀h',Heap.ExtBut I s.heap h'->Q none {s with heap:=h'}):wpAny (model prog w) A (yq (.ref I)) Q E s:=by have hT:s.TypeIs (.ref I) "set_iterator":=⟨_,hI,rfl⟩;refine j0 (ym (wp (name:=vN "__next__") hT slot_next (v8 slot_next hT entry_next ?_ (args_next _))));unfold Builtin.«set_iterator.__next__»;generalize hSE:uz=SE;generalize hSN:uq=SN;generalize hSF:setField=SF;generalize hNE:newExc=NE;generalize hRN:@raiseNew=RN;wp_walk;subst hSE hSN hSF hNE hRN;refine g.entries ?_;rw[if_neg (by simp)];show wpAny _ A.in1 (uq a (f0:Int).toNat (i:Int).toNat (ep:Int).toNat>>=_) _ _ s;rw[jp,jp,jp];refine j0 (hn _ _ _ ?_);refine j0 (ww hI (by simp) λB g1 s1=>?_);refine j0 ?_;refine j0 (k9 ?_ (by size_fits));refine j0 (m:=ux _ _) (ul (a:=kC) (by first|rfl|(simp only;rfl)) ?_);refine k9 ?_ (by size_fits);refine j0 (wpAny_handled ?_);rw[show A.in1.handled=none from hh];refine j0 (j3 (wpAny_throw ?_));exact j0 (ud (T:="StopIteration") (b:=true) ⟨_,qP _ rfl,rfl⟩ isSubtype_stop (j3 (hQ _ ((s1.extBut.push _).push _))))
variable{T:Addr}
noncomputable abbrev plO(pl:T0t):Obj:={cls:=.type "tuple",data:=.seq (pl.map λ(k:Nat)=>v2 k).toArray}
theorem a9n{p:Nat}{hx:Int}{x:Value}{Q:Option Value->Shared->Prop}(hI:s.heap.get? I=some (itO (.ref T) i a es.size ep))(hT:s.heap.get? T=some (plO pl))(g:SetAt s.heap a es ep t)(hp:pl[i]?=some p)(he:es[p]?=some (hx,x))(hQ:∀h',h'.get? I=some (itO (.ref T) (i+1) a es.size ep)->jx I s.heap h'->Q (some x) {s with heap:=h'}):wpAny (model prog w) A (yq (.ref I)) Q E s:=by
 have hty:s.TypeIs (.ref I) "set_iterator":=⟨_,hI,rfl⟩;refine j0 (ym (wp (name:=vN "__next__") hty slot_next (v8 slot_next hty entry_next ?_ (args_next _))));unfold Builtin.«set_iterator.__next__»;generalize hSE:uz=SE;generalize hSN:setNextDrawn=SN;generalize hSF:setField=SF;generalize hSI:seqItems?=SI;wp_walk;subst hSE hSN hSF hSI;refine g.entries ?_;rw[if_neg (by simp)];refine j0 (yj hT rfl ?_);dsimp only;have e1:(pl.map λ(k:Nat)=>v2 k).toArray[(i:Int).toNat]?=some (v2 p):=by rw[jp,vd,qO,hp];rfl
 rw[e1];show wpAny _ A.in1 (setNextDrawn a (p:Int).toNat (ep:Int).toNat>>=_) _ _ s;rw[jp,jp];refine j0 (j0 (g.state ?_));dsimp only;rw[if_neg (by simp),he];refine j3 ?_;refine j0 (ww hI (by simp) λB g1 s1=>?_);refine j3 ⟨x,rfl,j3 (hQ B ?_ s1)⟩;rw[g1];rfl
theorem b2x{Q:Option Value->Shared->Prop}(hh:A.handled=none)(hI:s.heap.get? I=some (itO (.ref T) i a es.size ep))(hT:s.heap.get? T=some (plO pl))(g:SetAt s.heap a es ep t)(hp:pl[i]?=none)(hQ:∀h',Heap.ExtBut I s.heap h'->Q none {s with heap:=h'}):wpAny (model prog w) A (yq (.ref I)) Q E s:=by
 have hty:s.TypeIs (.ref I) "set_iterator":=⟨_,hI,rfl⟩;unfold yq;refine j0 (ym (wp (name:=vN "__next__") hty slot_next (v8 slot_next hty entry_next ?_ (args_next _))));unfold Builtin.«set_iterator.__next__»;generalize hSE:uz=SE;generalize hSF:setField=SF;generalize hSI:seqItems?=SI;generalize hNE:newExc=NE;generalize hRN:@raiseNew=RN;wp_walk;subst hSE hSF hSI hNE hRN;refine g.entries ?_;dsimp only;rw[if_neg (by simp)];show wpAny _ A.in1 (seqItems? (.ref T)>>=_) _ _ s;refine j0 (yj hT rfl ?_);dsimp only;have e1:(pl.map λ(k:Nat)=>v2 k).toArray[(i:Int).toNat]?=none:=by rw[jp,vd,qO,hp];rfl
 rw[e1];dsimp only;refine j0 (ww hI (by simp) λh0 g0 s0=>?_);refine j0 (ww g0 (by simp) λB g1 s1=>?_);refine j0 ?_;dsimp only[newExc,newTuple];refine j0 (k9 ?_ (by size_fits));refine j0 (m:=ux _ _) (ul (a:=kC) (by first|rfl|(simp only[ux];rfl)) ?_);refine k9 ?_ (by size_fits);dsimp only[raiseNew];refine j0 (wpAny_handled ?_);rw[show A.in1.handled=none from hh];refine j0 (j3 (wpAny_throw ?_));refine j0 (ud (T:="StopIteration") (b:=true) ⟨_,qP _ rfl,rfl⟩ isSubtype_stop ?_);exact j3 (hQ _ (((s0.trans s1).extBut.push _).push _))
theorem b1g b:∀ fuel k a(c:Array α),a.length=fuel->(w5.go b fuel k a c).toList.Perm (c.toList++a)
 |0,k,a,c,h=>by have:a=[]:=vK.mp h;subst this;simp[w5.go]|fuel+1,k,a,c,h=>by
  unfold w5.go;have lt:b k%a.length<a.length:=Nat.mod_lt _ (by lia);rw[qG lt];refine(b1g b fuel (k+1) _ _ (by rw[List.length_eraseIdx,if_pos lt];lia)).trans ?_;rw[kE,wL];refine List.Perm.append_left _ ?_;show(a[b k%a.length]::a.eraseIdx (b k%a.length)).Perm a;generalize b k%a.length=m at lt;rw[wK];have e:a=a.take m++a[m]::a.drop (m+1):=by rw[List.getElem_cons_drop,List.take_append_drop]
  exact List.Perm.trans List.perm_middle.symm (List.Perm.of_eq e.symm)
theorem a0B a(Y:Array α):(w5 a Y).toList.Perm Y.toList:=by unfold w5;have:=b1g a Y.size 0 Y.toList #[] (by simp);simpa using this
theorem c3p(b:w.params.followText "set-order"=true){Q:Array (Int×Value)->Shared->Prop}(g:SetAt s.heap a es ep t)(h:Q (w5 (w.params.setOrder a ep) es) s):wpAny (model prog w) A (setWalk a) Q E s:=by refine j0 (g.state ?_);refine j0 (j0 (w8 (j3 ?_)));show wpAny _ _ (if w.params.followText "set-order"=true then _ else _) _ _ s;rw[if_pos b];exact j0 (w8 (j3 h))
theorem nextT(b:w.params.followText "set-order"=true){Q:Option (Value×Nat)->Shared->Prop}(g:SetAt s.heap a es ep t)(h:Q (((w5 (w.params.setOrder a ep) es)[i]?).map λe=>(e.2,f0)) s):wpAny (model prog w) A (uq a f0 i ep) Q E s:=by refine j0 (g.state ?_);refine j0 ?_;refine j0 (w8 (j3 ?_));show wpAny _ _ (if w.params.followText "set-order"=true then _ else _) _ _ s;rw[if_pos b,if_neg (by simp)];exact j0 (c3p b g (j3 h))
theorem c0j(d:w.params.followText "set-order"=false)(b:(!t.plain&&decide (es.size>1))=false)(c:t.led=true){Q:Option (Value×Nat)->Shared->Prop}(g:SetAt s.heap a es ep t)(h:Q (match es[qj t.place f0]?,t.place[qj t.place f0]? with|some (_,x),some j=>some (x,j+1)|_,_=>none) s):wpAny (model prog w) A (uq a f0 i ep) Q E s:=by refine j0 (g.state ?_);refine j0 ?_;refine j0 (w8 (j3 ?_));show wpAny _ _ (if w.params.followText "set-order"=true then _ else(if(!t.plain&&decide (es.size>1))=true then _ else _)) _ _ s;rw[d,if_neg (by decide),b,if_neg (by decide)];show wpAny _ _ ((if(!t.led&&!es.isEmpty)=true then unsupported "set:maker-not-led"else pure PUnit.unit)>>=λ_=>_) _ _ s;rw[c];rw[if_neg (by simp)];exact j0 (j3 (j3 h))
theorem b3n{n:Nat}{Q:Nat->Shared->Prop}(b:n≠0)(h:∀k,k<n->Q k {s with drawn:=s.drawn.bump src}):wpAny M A (choose src n) Q E s:=λa p ha=>by unfold choose;rw[Sem.wp_choose];exact⟨b,h _ (Nat.mod_lt _ (by lia))⟩
theorem b1u{M:Model}{A:Around}{E:T0a}:∀ n Y s(Q:List α->Shared->Prop),Y.length=n->(∀ys d',ys.Perm Y->Q ys {s with drawn:=d'})->wpAny M A (drawOrder n Y) Q E s
 |0,Y,s,Q,hn,h=>by have:Y=[]:=vK.mp hn;subst this;exact j3 (h [] s.drawn .nil)|n+1,[],s,Q,hn,h=>by cases hn|n+1,x::Y,s,Q,hn,h=>by
  refine j0 (b3n (by simp) λk a=>?_);rw[qG a];refine j0 (b1u n _ _ _ (by rw[List.length_eraseIdx,if_pos a];lia) λys d' b=>j3 (h _ d' ?_));refine(b.cons _).trans ?_;generalize c:x::Y=left at a⊢;rw[wK];have e:left=left.take k++left[k]::left.drop (k+1):=by rw[List.getElem_cons_drop,List.take_append_drop]
  exact List.perm_middle.symm.trans (List.Perm.of_eq e.symm)
theorem slot_self:Slot "set_iterator" "__iter__" "set_iterator.__iter__":=.of (owner:="set_iterator") (n:="__iter__") (by rw[typeLookup_type,y7];kernel_rfl) (by decide+kernel) (by decide+kernel) (by decide+kernel) (by first|exact .inl (by decide+kernel)|exact .inr (by decide+kernel)) (by rw[isSubtype_type];kernel_rfl)
theorem entry_self:entryFor table "set_iterator.__iter__"=some Builtin.«dict_keyiterator.__iter__»:=entryFor_alias (id':="dict_keyiterator.__iter__") (by kernel_rfl) rfl (by decide+kernel) (by kernel_rfl)
theorem args_self v:argsOk "set_iterator.__iter__" ⟨[v],[]⟩:=by kernel_rfl
theorem a0r(a:s.TypeIs (.ref I) "set_iterator")(h:Q (.ref I) s):wpAny (model prog w) A (QK (.ref I)) Q E s:=by refine wpAny_pyIter_slot a slot_self (v8 slot_self a entry_self ?_ (args_self _));exact j3 ⟨_,rfl,"set_iterator",_,a,slot_next.lookup,h⟩
theorem c0G(d:w.params.followText "set-order"=true)(p:a≠I)(z:A.handled=none):Walks prog w A I [I,a] [I] es.size (λi v=>((w5 (w.params.setOrder a ep) es).toList.map (·.2))[i]?=some v)
  (λi h=>h.get? I=some (itO (v2 0) i a es.size ep)/\SetAt h a es ep t)where
 sub:=λb d=>by simp at d;simp[d]
 frame:=λi h j c u=>⟨u I (by simp) _ c.1,c.2.keeps λo e=>u a (by simp) o e⟩;item:=λi s Q E H c g=>by
  have y:(w5 (w.params.setOrder a ep) es).size=es.size:=by rw[<-qJ,(a0B _ _).length_eq,qJ]
  have f:i<(w5 (w.params.setOrder a ep) es).size:=by lia
  refine next_item c.1 c.2 (x:=(w5 (w.params.setOrder a ep) es)[i].2) (nx:=0) (λG F D q=>nextT d c.2 (by rwa[qd f])) λj C r=>?_;refine g _ j s.toks ?_ ⟨C,c.2.keeps λo e=>r.extBut _ _ p e⟩ λb o d e=>r.extBut b o (by simpa using d) e;rw[qO,qk,qd f];rfl
 done:=λs Q E c g=>by
  have y:(w5 (w.params.setOrder a ep) es).size=es.size:=by rw[<-qJ,(a0B _ _).length_eq,qJ]
  refine next_end z c.1 c.2 (λG F D q=>nextT d c.2 (by rwa[zR (by lia)])) λj x=>g j s.toks λb o d e=>x b o (by simpa using d) e
 self:=λi s Q E c g=>by have k:s.TypeIs (.ref I) "set_iterator":=⟨_,c.1,rfl⟩;exact a0r k g
noncomputable def slotAt(t:j6):Nat->Nat|0=>0|i+1=>t.place.getD i 0+1
theorem yX(a:rY t.place)(b:t.place.size=n):∀i,i<=n->qj t.place (slotAt t i)=i
 |0,_=>b0o _ a|i+1,h=>by
  have lt:i<t.place.size:=by lia
  show qj t.place (t.place.getD i 0+1)=i+1;have:t.place.getD i 0=t.place[i]:=by simp[lt]
  rw[this];exact b0p a lt
theorem c0I(d:w.params.followText "set-order"=false)(f:(!t.plain&&decide (es.size>1))=false)(D:t.led=true)(z:rY t.place)(C:t.place.size=es.size)(p:a≠I)(F:A.handled=none):Walks prog w A I [I,a] [I] es.size (λi v=>(es.toList.map (·.2))[i]?=some v) (λi h=>i<=es.size/\h.get? I=some (itO (v2 (slotAt t i)) i a es.size ep)/\SetAt h a es ep t)where
 sub:=λb d=>by simp at d;simp[d]
 frame:=λi h k c y=>⟨c.1,y I (by simp) _ c.2.1,c.2.2.keeps λo e=>y a (by simp) o e⟩;item:=λi s Q E r c j=>by
  have g:i<t.place.size:=by lia
  have bl:=yX z C i (by exact Nat.le_of_lt ‹_›);refine next_item c.2.1 c.2.2 (x:=es[i].2) (nx:=slotAt t (i+1)) (λK J H q=>c0j d f D c.2.2 (by
   rw[bl,qd r,qd g];have:slotAt t (i+1)=t.place[i]+1:=by show t.place.getD i 0+1=_;simp[g]
   rwa[this]at q)) λk G u=>?_;refine j _ k s.toks ?_ ⟨r,G,c.2.2.keeps λo e=>u.extBut _ _ p e⟩ λb o d e=>u.extBut b o (by simpa using d) e;rw[qO,qk,qd r];rfl
 done:=λs Q E c j=>by have bl:=yX z C es.size (qQ _);refine next_end F c.2.1 c.2.2 (λK J H q=>c0j d f D c.2.2 (by rwa[bl,zR (qQ _)])) λk x=>j k s.toks λb o d e=>x b o (by simpa using d) e
 self:=λi s Q E c j=>a0r ⟨_,c.2.1,rfl⟩ j
theorem c0H(d:pl.Perm (ql es.size))(C:a≠I)(D:T≠I)(G:A.handled=none):Walks prog w A I [I,a,T] [I] es.size (λi v=>(pl.map λk=>(es.toList.map (·.2)).getD k .none)[i]?=some v) (λi h=>h.get? I=some (itO (.ref T) i a es.size ep)/\h.get? T=some (plO pl)/\SetAt h a es ep t)where
 sub:=λb g=>by simp at g;simp[g]
 frame:=λi h u c z=>⟨z I (by simp) _ c.1,z T (by simp) _ c.2.1,c.2.2.keeps λo e=>z a (by simp) o e⟩;item:=λi s Q E J c r=>by
  have q:pl.length=es.size:=by rw[d.length_eq,jo]
  have f:i<pl.length:=by lia
  have F:=d.mem_iff.mp (jR f);have j:=jO.mp F;refine a9n (p:=pl[i]) (hx:=es[pl[i]].1) (x:=es[pl[i]].2) c.1 c.2.1 c.2.2 (qG f) (qd j) λu H y=>?_;refine r _ u s.toks ?_ ⟨H,y.extBut _ _ D c.2.1,c.2.2.keeps λo e=>y.extBut _ _ C e⟩ λb o g e=>y.extBut b o (by simpa using g) e;rw[qO,qG f];simp[j]
 done:=λs Q E c r=>by
  have q:pl.length=es.size:=by rw[d.length_eq,jo]
  exact b2x G c.1 c.2.1 c.2.2 (jG (by lia)) λu x=>r u s.toks λb o g e=>x b o (by simpa using g) e
 self:=λi s Q E c r=>a0r ⟨_,c.1,rfl⟩ r
theorem a9g{b:Type} Y(d:b)(h:pl.Perm (ql Y.length)):(pl.map λk=>Y.getD k d).Perm Y:=by
 refine(h.map _).trans (List.Perm.of_eq ?_);apply je;intro i;rw[qO];by_cases a:i<Y.length;·rw[zi a,qG a];simp[a]
 ·rw[jG (by simpa using a),jG (by lia)];rfl
theorem b5B(g:SetAt s.heap a es ep t)(hT:TOk t (ledOf w))(few:es.size<=j5)(h:∀ h' d'(I:Addr)(vs:T0m)(fp:T0o)(St:Nat->Heap->Prop),vs.Perm (es.toList.map (·.2))->(U9 s.heap h')->s.heap.objs.size<=I->I∈fp->(∀b∈fp,b=a\/s.heap.objs.size<=b)->(∀A':Around,A'.handled=none->Walks prog w A' I fp [I] es.size (λi v=>vs[i]?=some v) St)->St 0 h'->Q (.ref I) {s with heap:=h',drawn:=d'}):wpAny (model prog w) A (QK (.ref a)) Q E s:=by
 obtain⟨o,ho,hc,hd⟩:=g.ex;have hty:s.TypeIs (.ref a) "set":=⟨o,ho,hc⟩;have lt:=qN ho;have hpl:t.place.size=es.size:=by have:=g.fits;simp only[j6.fits,qE,beq_iff_eq]at this;exact this.1
 refine wpAny_pyIter_slot hty F.slot_set_iter (v8 F.slot_set_iter hty a9V ?_ (F.args_set_iter_1 _));unfold Builtin.«frozenset.__iter__»;generalize hSD:setDrawn=SD;generalize hSE:setEpoch=SE;generalize hSZ:Builtin.Frozenset.sizeOf=SZ;wp_walk;subst hSD hSE hSZ;refine j0 (g.entries (j3 ?_));have fin:∀(f0:Value)(s2:Shared),SetAt s2.heap a es ep t->Q (.ref s2.heap.objs.size) {s2 with heap:=s2.heap.push (itO f0 0 a es.size ep)}->wpAny (model prog w) A.in1 (setEpoch a>>=λe=>newFields "set_iterator" [f0,v2 0,qr a,v2 (es.size:Nat),v2 (e:Nat)]>>=λv=>ret v) (λfin s'=>∃v,fin=Fin.done (Flow.ret v)/\∃T' r,s'.TypeIs v T'/\typeLookup (zH T') (vN "__next__")=pure (some r)/\Q v s') E s2:=by intro f0 s2 g2 q;refine j0 ?_;refine j0 (g2.state (j3 ?_));refine j0 ?_;exact k9 (j3 ⟨_,rfl,"set_iterator",_,⟨_,qP _ rfl,rfl⟩,slot_next.lookup,q⟩) (by size_fits)
 have plain:∀(vs:T0m)(St:Nat->Heap->Prop),vs.Perm (es.toList.map (·.2))->(∀A':Around,A'.handled=none->Walks prog w A' s.heap.objs.size [s.heap.objs.size,a] [s.heap.objs.size] es.size (λi v=>vs[i]?=some v) St)->St 0 (s.heap.push (itO (v2 0) 0 a es.size ep))->Q (.ref s.heap.objs.size) {s with heap:=s.heap.push (itO (v2 0) 0 a es.size ep)}:=by
  intro vs St hp W st;refine h _ s.drawn s.heap.objs.size vs [s.heap.objs.size,a] St hp (λb o e=>qC _ e) (qQ _) (by simp) (λb hb=>?_) W st;obtain z|z:=qM.mp hb;·exact .inr (by rw[z];exact qQ _)
  ·exact .inl (qV.mp z)
 have hne:=qW lt;have g1:SetAt (s.heap.push (itO (v2 0) 0 a es.size ep)) a es ep t:=g.keeps λo e=>qC _ e;refine j0 ?_;refine j0 (g.state ?_);refine j0 (j0 (w8 (j3 (j3 ?_))));show wpAny _ _ (if(!w.params.followText "set-order"&&(!t.plain&&decide (es.size>1)))=true then _ else _) _ _ s;cases hbt:w.params.followText "set-order"with|true=>rw[if_neg (by simp)];exact j0 (j3 (fin (v2 0) s g (plain _ _ ((a0B _ _).map _) (λA' hA=>c0G hbt hne hA) ⟨qP _ rfl,g1⟩)))|false=>
  have hled:t.led=true:=by rw[hT.led];unfold ledOf;rw[hbt];rfl
  cases hdr:(!t.plain&&decide (es.size>1))with|false=>
   rw[if_neg (by simp)];refine j0 (j3 ?_);have hr:rY t.place:=by cases hp:t.plain with|true=>exact hT.rise hp|false=>
     rw[hp]at hdr;have:¬es.size>1:=by simpa using hdr
     unfold rY;have hl:t.place.toList.length<=1:=by rw[qJ];lia
     match t.place.toList,hl with|[],_=>exact .nil|[x],_=>exact List.pairwise_singleton _ _
   exact fin (v2 0) s g (plain _ _ (.refl _) (λA' hA=>c0I hbt hdr hled hr hpl hne hA) ⟨qx _,qP _ rfl,g1⟩)|true=>
   rw[if_pos (by simp)];refine j0 (b1u es.size (ql es.size) s _ (by simp) λpl d' hpl'=>?_);refine j0 ?_;refine k9 ?_ (by
    have B:pl.length=es.size:=by rw[hpl'.length_eq,jo]
    show(pl.map λ(k:Nat)=>v2 k).toArray.size<=j5;rwa[qS,qD,B]);have g2:SetAt (s.heap.push (plO pl)) a es ep t:=g.keeps λo e=>qC _ e;refine fin (.ref s.heap.objs.size) {s with heap:=s.heap.push (plO pl),drawn:=d'} g2 ?_;have sz:(s.heap.push (plO pl)).objs.size=s.heap.objs.size+1:=jW ..;have hp2:(pl.map λk=>(es.toList.map (·.2)).getD k kC).Perm (es.toList.map (·.2)):=a9g _ _ (by simpa using hpl');refine h _ d' (s.heap.push (plO pl)).objs.size _ [(s.heap.push (plO pl)).objs.size,a,s.heap.objs.size] _ hp2 (λb o e=>qC _ (qC _ e)) (by rw[sz];exact kj _) (by simp) (λb hb=>?_)
    (λA' hA=>c0H (ep:=ep) (t:=t) hpl' (by rw[sz];exact qW (jn lt)) (by rw[sz];exact qW (zF _)) hA) ⟨qP _ rfl,qC _ (qP _ rfl),g2.keeps λo e=>qC _ e⟩;obtain z|z:=qM.mp hb;·exact .inr (by rw[z,sz];exact kj _)
   ·obtain z|z:=qM.mp z;·exact .inl z
    ·rw[qV]at z;exact .inr (by rw[z];exact qQ _)
theorem b7x:typeLookup (.type "set") "__len__"=pure (some (.builtin "set.__len__")):=by rw[typeLookup_type,y7];kernel_rfl
theorem a8n{Q:List Value->Shared->Prop}(hh:A.handled=none)(g:SetAt s.heap a es ep t)(hT:TOk t (ledOf w))(G:es.size<=j5)(hQ:∀ h' d' tk(vs:T0m),vs.Perm (es.toList.map (·.2))->(U9 s.heap h')->s.heap.objs.size<h'.objs.size->Q vs {s with heap:=h',drawn:=d',toks:=tk}):wpAny (model prog w) A (collect (.ref a)) Q E s:=by
 obtain⟨o,M,hc,_⟩:=g.ex;have lt:a<s.heap.objs.size:=qN M;unfold collect;refine j0 (u0 (v4 F.entry_proto_collect ?_));rw[jU F.plain_proto_collect _];show wpAny _ A.in1 (newList []>>=λl=>again (.builtin "list.__iadd__" ⟨[l,.ref a],[]⟩)) _ _ s;refine j0 (k9 ?_);refine j3 ⟨wy vh _,v4 F.entry_list_iadd ?_⟩;rw[jU vh _];have g1:SetAt (s.heap.push {cls:=.type "list",data:=.seq ([]:T0m).toArray}) a es ep t:=g.keeps λo e=>qC _ e;have R:(s.heap.push {cls:=.type "list",data:=.seq ([]:T0m).toArray}).get? s.heap.objs.size=some {cls:=.type "list",data:=.seq ([]:T0m).toArray}:=qP _ rfl;have K:vB {s with heap:=s.heap.push {cls:=.type "list",data:=.seq ([]:T0m).toArray}} (.ref a) "set":=⟨o,qC _ M,hc⟩;show wpAny _ A.in1 (ju (.ref s.heap.objs.size) (.ref a) (.ref s.heap.objs.size)) _ _ _;unfold ju;refine j0 (ya K ?_);have e1:Builtin.List.listSameRef (.ref s.heap.objs.size) (.ref a)=false:=by simp[Builtin.List.listSameRef,kJ lt]
 have e2:(zH "set"==zH "list")=false:=by decide
 have e3:(zH "set"==zH "tuple")=false:=by decide
 simp only[e1,e2,e3,wE,qi,if_false];refine j0 (b5B (w:=w) g1 hT G λh' d' I vs fp St X L hI hIf N W st=>?_);have f:vB {s with heap:=h',drawn:=d'} (.ref a) "set":=⟨o,L a o (qC _ M),hc⟩;refine j0 (k7 ?_);have r:∀S:Bool->Shared->Prop,S false {s with heap:=h',drawn:=d'}->wpAny (model prog w) A.in1 (Builtin.List.listLengthHint (.ref a)) S E {s with heap:=h',drawn:=d'}:=by intro S q;unfold Builtin.List.listLengthHint;refine j0 (yp f b7x ?_);generalize u:("set.__len__":String)=i0;wp_delta;rw[show splitId i0=some ("set","__len__")from by rw[<-u];decide+kernel];rw[<-u];refine j0 (ud (T:="set") (b:=true) f sub_set_self ?_);refine wpAny_ite_split (λz=>absurd z (by decide)) λ_=>?_;refine wpAny_ite_split (λ_=>?_) λz=>absurd (by decide+kernel) z;exact j0 (ya f (j3 q))
 refine r _ ?_;have v:s.heap.objs.size∉fp:=λJ=>by
  rcases N _ J with z|z;·exact absurd z (kJ lt)
  ·rw[jW]at z;exact absurd z (Nat.not_succ_le_self _)
 refine wpAny_ite_split (λ_=>?_) λz=>absurd (by decide+kernel) z;have C:=L _ _ R;refine j0 (w9 ?_);refine j0 ?_;show wpAny _ A.in1 (updateSeq s.heap.objs.size (·.push .none)>>=λ_=>updateSeq s.heap.objs.size (·.pop)) _ _ _;refine j0 (wpAny_updateSeq C rfl ?_);have y:=kS (kD (·.push kC)) C rfl;refine wpAny_updateSeq y rfl ?_;have P:=kS (kD (·.pop)) y rfl;have k:∀b o,b≠s.heap.objs.size->h'.get? b=some o->((h'.update s.heap.objs.size (kD (·.push kC))).update s.heap.objs.size (kD (·.pop))).get? b=some o:=λb o j e=>by rw[qm _ _ (jH j),qm _ _ (jH j)];exact e
 have W1:=W A.in1 hh;refine j3 ⟨wy F.plain_extend_loop _,codeAny_extend_loopS W1.toS G _ v _ es.size 0 _ _ _ rfl (qx _)
  (W1.frame 0 _ _ st λb j o e=>k b o (λz=>v (z▸j)) e) P (ItemsOf.nil _) λH d c' J D c=>?_⟩;show wpAny _ A (load s.heap.objs.size>>=_) _ _ H;refine j0 (wpAny_load D (j3 ?_));have hv:d.toList=vs:=by
  have hl:vs.length=es.size:=by rw[X.length_eq];simp
  refine je λi=>?_;by_cases hi:i<es.size
  ·have B:i<d.size:=by rw[c.1];exact hi
   have h2:=c.2 i _ (qd B);rw[h2,qk,qd B]
  ·rw[jG (by rw[qJ,c.1];omega),jG (by rw[hl];omega)]
 show Q d.toList H;rw[hv,Moved.eq_with J];refine hQ H.heap d' H.toks vs X (λb o e=>?_) (qN D);have j:b≠s.heap.objs.size:=qW (qN e);refine J.heap b o (λp=>?_) (k b o j (L b o (qC _ e)));rcases qM.mp p with z|z;·exact j z
 ·rw[qV]at z;rw[jW]at hI;have q:=qN e;rw[z]at q;exact ji _ (qU (jn q) hI)
theorem a5Q{d:Type}[DecidableEq d]:∀(ks b:List d),ks.Nodup->(∀k∈ks,k∈b)->b.length=ks.length->b.Perm ks
 |[],[],_,_,_=>.refl _|k::ks,b,hn,hm,hl=>by
  have B:=List.perm_cons_erase (hm k (by simp));have a:=jy.mp hn;refine B.trans (.cons k (a5Q ks _ a.2 (λx c=>?_) ?_));·exact(List.mem_erase_of_ne (λz=>by rw[z]at c;exact a.1 c)).mpr (hm x (by simp[c]))
  ·have:=B.length_eq;simp only[qZ]at this hl;lia
section
variable{K:Type}[DecidableEq K]{knd:KeyKind prog w K}
inductive Keys(knd:KeyKind prog w K):List Value->List K->Prop|nil:Keys knd [] []|cons{v k vs ks:_}:knd.is k v=true->Keys knd vs ks->Keys knd (v::vs) (k::ks)
theorem Keys.len{vs ks:_}(h:Keys knd vs ks):ks.length=vs.length:=by induction h<;>simp[*]
theorem Keys.mem{vs ks:_}(h:Keys knd vs ks){v:Value}{k:K}(a:v∈vs)(e:knd.is k v=true):k∈ks:=by induction h with|nil=>cases a|cons B _ b=>
  obtain z|z:=qM.mp a;·subst z;rw[knd.inj _ _ _ e B];simp
  ·exact qF _ (b z)
theorem b1b:∀(es:List (Int×Value)),ElemsOf knd es->∃a,Keys knd (es.map (·.2)) a|[],_=>⟨[],.nil⟩|e::es,h=>by obtain⟨a,c⟩:=b1b es λx b=>h x (qF _ b);obtain⟨⟨k,d,_⟩,_⟩:=h e (by simp);exact⟨k::a,.cons d c⟩
theorem Keys.perm(j:us.Perm vs):∀{ks:_},Keys knd vs ks->∃c,Keys knd us c/\c.Perm ks:=by induction j with
 |nil=>intro ks h;exact⟨ks,h,.refl _⟩|cons v _ f=>intro ks h;cases h with|cons B d=>obtain⟨c,a,b⟩:=f d;exact⟨_::c,.cons B a,.cons _ b⟩
 |swap x y l=>intro ks h;cases h with|cons B d=>cases d with|cons o k=>exact⟨_,.cons o (.cons B k),.swap ..⟩
 |trans _ _ i g=>intro ks h;obtain⟨t,s,q⟩:=g h;obtain⟨e,r,p⟩:=i s;exact⟨e,r,p.trans q⟩
theorem Good.keys{h:Heap}{ks:List K}(g:Good knd h a ks led):∃es ep t,SetAt h a es ep t/\TOk t led/\es.size=ks.length/\∀vs,vs.Perm (es.toList.map (·.2))->∃b,Keys knd vs b/\b.Perm ks:=by obtain⟨o,es,ep,t,p,i,w,z,q,d,u,y⟩:=g.ex;refine⟨es,ep,t,⟨⟨o,p,i.1,w⟩,u⟩,y,d,λvs j=>?_⟩;obtain⟨b,c⟩:=b1b es.toList z;have B:=a5Q ks b g.nd (λk r=>by obtain⟨e,v,s⟩:=(q k).mp r;exact c.mem (jm v) s) (by rw[c.len,qD,qJ,d]);obtain⟨f,C,A⟩:=Keys.perm j.symm.symm c;exact⟨f,C,A.trans B⟩
theorem keys_strs(h:Keys (zc prog w) vs ks):u3 vs ks:=by induction h with|nil=>exact .nil|cons B _ a=>obtain⟨t,rfl⟩:=Value.isStrOf_shape B;exact .cons _ t a
theorem sorted_set{Out:Array Value->Prop}(hh:A.handled=none)(g:SetAt s.heap a es ep t)(hT:TOk t (ledOf w))(few:es.size<64)(hsort:∀ A'(E':T0a) s' l(vs:T0m) n(P:Fin->Shared->Prop),vs.Perm (es.toList.map (·.2))->s'.heap.get? l=some (v7 "list" vs.toArray n)->(∀b o,s.heap.get? b=some o->b≠l/\s'.heap.get? b=some o)->(∀out,Out out->P (.done (.ret .none)) {s' with heap:=ub s'.heap l vs out})->wpAny (model prog w) A' (Builtin.«list.sort» ⟨[.ref l],[]⟩) P E' s')(h:∀ h' d' tk(D:Addr) out e,(U9 s.heap h')->s.heap.objs.size<=D->h'.get? D=some (v7 "list" out e)->Out out->Q (.ref D) {s with heap:=h',drawn:=d',toks:=tk}):wpAny (model prog w) A (call (.builtin "sorted") [.ref a]) Q E s:=by
 have big:(64:Nat)<=j5:=by decide
 refine vT kind_sorted plain_sorted entry_sorted (args_sorted1 _) ?_;refine j0 (m:=checkCount "sorted" 1 1 _) (j3 ?_);refine j0 (a8n hh g hT (qg (jP few) big) λB d1 tk vs hp kp hlt=>?_);have hl:vs.length=es.size:=by rw[hp.length_eq];simp
 refine j0 (u6 ?_ (by rw[hl];exact qg (jP few) big));have hoL:(B.push (v7 "list" vs.toArray 0)).get? B.objs.size=some (v7 "list" vs.toArray 0):=qP _ rfl;refine j0 (k7 (v8 slot_list_sort ⟨_,hoL,rfl⟩ entry_list_sort (hsort _ _ _ _ vs 0 _ hp hoL (λb o q=>⟨qW (qN (kp _ _ q)),qC _ (kp _ _ q)⟩) λout ho=>⟨_,rfl,?_⟩) (args_list_sort _)));obtain⟨e,he⟩:=sortedHeap_at (out:=out) hoL;refine j3 ⟨_,rfl,h _ d1 tk B.objs.size out e (λb o g=>?_) (jP hlt) he ho⟩;have hb:=qN (kp b o g);rw[sortedHeap_old (qW hb) (by rw[jW];exact jn hb),qC _ (kp b o g)]
end
end L2.SX
namespace L2.L3
open PySem PySem.Spec PyProof.Rows
def c6d(X:Cx)(H0 Gz G:Hp)(Z:List Ent)(H:Hp)(Q:Option Int->Hp->Prop):Re (Option Int)->Prop|.ok b=>∀G' H',Grow G H G' H'->Q b H'|.ex c=>mR X H0 Gz G Z c
noncomputable def rO(X:Cx)(f:OF):TO:=λU H Q=>∃Z r H0 Gz G,f Z=some r/\RepS X.K H0 Gz G H U Z/\c6d X H0 Gz G Z H Q r
structure DO(X:Cx)(e:Option Expr)(f:OF):Prop where run:PO X e (rO X f)
variable{a d:Expr}{fd:EF}
section
variable{fl fh:OF}
theorem bO{fa:OF}{d:Type}{k:Option Int->Mm d}{r:Re d}(R:RepS X.K H0 Gz G H U Z)(e:bnd (fa Z) k=some r){T:Option Int->Hp->Prop}(hx:∀c,r=.ex c->mR X H0 Gz G Z c)(h:∀x G1 H1,Grow G H G1 H1->RepS X.K H0 Gz G1 H1 U Z->k x=some r->T x H1):rO X fa U H T:=by
 obtain⟨x,b,a⟩|⟨c,b,a⟩:=dB e;·exact⟨Z,_,H0,Gz,G,b,R,λG1 H1 f=>h x G1 H1 f (R.more f) a⟩
 ·exact⟨Z,_,H0,Gz,G,b,R,hx c a⟩
theorem b9u:DO X none b0U:=⟨by rintro a s U H Q I⟨Z,r,b,c,G,e,R,q⟩;cases(qA e);exact b7T a s U H Q I (q G H (.refl R.sub))⟩
theorem b9t(g:DE X a fa):DO X (some a) (b0T fa):=⟨by rintro f s U H Q I⟨Z,r,u,w,G,e,R,q⟩;refine b7S g.run f s U H Q I (bE R e (λc z=>by subst z;exact q) λx v p o i t d j=>?_);obtain⟨k,b,rfl⟩:=bL j;cases x<;>simp only[Option.map]at b<;>cases b;cases d;exact⟨_,rfl,q p o i⟩⟩
theorem c4A(u:DE X a fa)(c:DO X lo fl)(t:DO X hi fh):DE X (.Subscript a (.Slice lo hi none p2) pos) (slE fa fl fh):=⟨λo s U H Q I⟨Z,r,K,L,G,e,R,q⟩=>b4G (b7t.or c0Z) u.run c.run t.run o s U H Q I (bE R e q.x λx v P J g C j A=>bO C A (q.more g).x λl N F k R2 z=>bO R2 z ((q.more g).more k).x λh M E w D y=>by
  obtain⟨d,f,rfl⟩:=bL y;have b:=k.trans w;unfold slD at f;split at f;·cases(qA f);cases j with|list i r=>exact .inl ⟨_,_,rfl,(b.gg.trans b.sub).seq i,λl c=>q _ _ _ ((g.trans b).trans (.put b.sub c)) (.list (.of aJ) (a8l (r.mono (b.gg.trans (cW (b.sub.free c)))) _ _))⟩
  ·split at f;·cases f
   ·rename_i p;cases(qA f);cases j with|tuple i r=>exact .inr ⟨_,_,rfl,rV (b.gg.trans b.sub) i,by rw[r.length];exact p,λl c=>q _ _ _ ((g.trans b).trans (.put b.sub c)) (.tuple (.of aJ) (a8l (r.mono (b.gg.trans (cW (b.sub.free c)))) _ _))⟩
  ·cases f)⟩
theorem Inv.draws(I:Inv X pz U H s):Inv X pz U H {s with drawn:=d'}:=⟨I.ok,I.os,I.bare,I.base,I.loc,I.cell,I.free,I.freeC,I.pin,I.hok,I.len⟩
theorem b0d{a:Type}[DecidableEq a] d(ns:List a):SX.metK (λi=>ns.getD i d) ns.length=ns.foldl SX.addK []:=by
 unfold SX.metK;have:(ql ns.length).map (λi=>ns.getD i d)=ns:=by
  refine je λi=>?_;rw[qO];by_cases h:i<ns.length;·rw[zi h,qG h];simp[h]
  ·rw[jG (by simp;omega),jG (by omega)];rfl
 rw[this]
theorem xN ns:SX.metK (λi=>ns.getD i "") ns.length=mP ns:=b0d ("":Str) ns
theorem b0C(h:u3 vs ns):∀ i v,vs[i]?=some v->∃t:Tok,v=wA (ns.getD i "") t:=by induction h with|nil=>intro i v e;simp at e|cons n t _ a=>intro i v e;cases i with|zero=>simp at e;exact⟨t,by simp[<-e]⟩|succ i=>exact a i v (by simpa using e)
theorem a2p:∀{us:T0m},bH (ns.map V.str) us->u3 us ns:=by induction ns with|nil=>intro us r;cases r;exact .nil|cons n ns c=>intro us r;cases r with|cons b a=>obtain⟨t,rfl⟩:=b;exact .cons n t (c a)
theorem a0j:∀{vs:T0m}{ns:T0q},u3 vs ns->bH (ns.map V.str) vs|_,_,.nil=>.nil|_,_,.cons n t h=>.cons ⟨t,rfl⟩ (a0j h)
theorem lN{K:qB}{G:Hp}:∀ns:List Str,RepAll K G (ns.map V.str) (ns.map .str)|[]=>.nil|_::r=>.cons (.str _) (lN r)
theorem a6X(h:u3 vs ns):vs.length=ns.length:=by induction h<;>simp[*]
theorem sY{a b c:Str}(B:cZ a b=true)(d:cZ b c=true):cZ a c=true:=by unfold cZ at*;simp only[jr,decide_eq_false_iff_not,List.not_lt]at*;exact List.le_trans B d
theorem nG a b:(cZ a b||cZ b a)=true:=by unfold cZ;simp only[vj,jr,decide_eq_false_iff_not,List.not_lt];exact List.le_total _ _
theorem a3a{a b:Str}(B:cZ a b=true)(c:cZ b a=true):a=b:=by unfold cZ at*;simp only[jr,decide_eq_false_iff_not,List.not_lt]at*;have e:=List.le_antisymm B c;cases a;cases b;congr 1;exact Array.toList_inj.mp e
theorem bX ns:(gW ns).Perm ns:=List.mergeSort_perm _ _
theorem gT ns:(gW ns).Pairwise (λa b=>cZ a b=true):=List.pairwise_mergeSort (le:=cZ) (λa b c B d=>sY B d) nG ns
theorem a4C:∀(l:T0q) p,risingS p l=true->(p::l).Pairwise (λa b=>cZ a b=true)
 |[],p,_=>List.pairwise_singleton _ _|x::r,p,h=>by
  have c:(!ltCps x.cps.toList p.cps.toList&&risingS x r)=true:=h;rw[qE]at c;have B:cZ p x=true:=by unfold cZ;rw[<-ltCps_eq];exact c.1
  have d:=a4C r x c.2;refine jh.mpr ⟨λy e=>?_,d⟩;obtain z|z:=qM.mp e;·rwa[z]
  ·exact sY B ((jh.mp d).1 y z)
theorem b2e(l:T0q)(h:sortedS l=true):l.Pairwise (λa b=>cZ a b=true):=by cases l with|nil=>exact .nil|cons x r=>exact a4C r x h
theorem pE:∀{a b:T0q},a.Perm b->a.Pairwise (λa b=>cZ a b=true)->b.Pairwise (λa b=>cZ a b=true)->a=b|[],b,hp,_,_=>by rw[List.nil_perm.mp hp]|x::a,b,hp,ha,hb=>by match b,hp,hb with
  |[],hp,_=>exact absurd hp.length_eq (by simp)|y::b,hp,hb=>
   have B:=jh.mp ha;have c:=jh.mp hb;have e:x=y:=by
    rcases qM.mp (hp.mem_iff.mp (qa (a:=x) (l:=a)))with z|z;·exact z
    ·rcases qM.mp (hp.mem_iff.mpr (qa (a:=y) (l:=b)))with q|q;·exact q.symm
     ·exact a3a (B.1 y q) (c.1 x z)
   subst e;rw[pE (List.Perm.cons_inv hp) B.2 c.2]
theorem a7d{a:T0q}(b:a.Perm ns)(hs:sortedS a=true):a=gW ns:=pE (b.trans (bX ns).symm) (b2e a hs) (gT ns)
theorem a7b{a:Addr}(F:A.handled=none)(g:SX.Good (zc prog w) s.heap a ks (SX.ledOf w))(K:ks.length<64)(h:∀ h' d' tk(D:Addr) b e,(U9 s.heap h')->s.heap.objs.size<=D->h'.get? D=some (v7 "list" b e)->u3 b.toList (gW ks)->Q (.ref D) {s with heap:=h',drawn:=d',toks:=tk}):wpAny (model prog w) A (call (.builtin "sorted") [.ref a]) Q E s:=by obtain⟨N,R,t,J,G,i,v⟩:=g.keys;refine SX.sorted_set (Out:=λb=>u3 b.toList (gW ks)) F J G (by rwa[i]) (λT S L l k n P f z _ q=>?_) h;obtain⟨M,C,y⟩:=v k f;have j:=SX.keys_strs C;refine list_sort_treeK strKind_oneLt z j.keysOf (λp o rest e=>keyKind_strs (by rwa[<-e])) (by rwa[f.length_eq,qD,qJ,i]) λr d c=>q _ ?_;obtain⟨u,B,I,H⟩:=sorted_out_str j d c;rwa[<-a7d (I.trans y) H]
end
def a6Y(d:q8):Option q8:=match d with|.list Y=>(match iD b2a Y with|some ns=>if ns.length<64 then some (.list ((gW (mP ns)).map .str))else none|none=>none)|_=>none
def c0Q(K:qB)(t:TA):TE:=λU H Q=>t U H λvs H1=>∃a ns,vs=[.ref a]/\SqL K H1 a (ns.map V.str)/\ns.length<64/\∀l,H1 l=none->Q (.ref l) (upd H1 l (.lst ((gW (mP ns)).map V.str)))
theorem b4E{t:TA}(hc:X.calm=true)(B:Gl X "sorted")(m1:X.mg "sorted"=none)(K:Gl X "set")(m2:X.mg "set"=none)(b2:wl "set"=some (.type "set"))(ha:PA X [e] t)(he:j4 [e] X.env=(false,eval e X.env)::j4 [] X.env)(j:j4 [.Call (.Name "set" p2) [e] [] pos2] X.env=(false,eval (.Call (.Name "set" p2) [e] [] pos2) X.env)::j4 [] X.env)(d:∀q,U6 X q [])(hn:∀q,j8 q (j4 [] X.env)=[]):PE X (.Call (.Name "sorted" p) [.Call (.Name "set" p2) [e] [] pos2] [] pos) (c0Q X.K t):=by
 intro T s U H Q I h;refine j9 (sZ I B m1 yt ?_);refine callWith_builtin1 ?_ j (d _);rw[j];show wpAny _ _ (spliced ((false,eval (.Call (.Name "set" p2) [e] [] pos2) X.env)::j8 pos (j4 [] X.env))) _ _ s;rw[hn];refine zA (j9 (sZ I K m2 b2 ?_));refine callWith_type1 (thn (ha pos2 T s U H _ I h) ?_) he (d _);rintro us M⟨vs,H1,y,R,a,w,e1,hq,r,q⟩;subst e1;obtain⟨u,rfl,N⟩:=vals1 R;cases N;obtain⟨E,P,pl,hz⟩:=y.list hq;have J:=a2p P;have L:=y.ok.hd hc;have hl:=a6X J;have c:E.toArray.size=w.length:=by rw[qS,hl]
 refine SX.set_of (knd:=zc X.prog X.w) (val:=λi=>w.getD i "") L pl.isList (λi v e=>?_) (λi v A' E' s' Q' e S=>?_) ?_ λh' tk g kp=>?_;·obtain⟨t,rfl⟩:=b0C J i v (by simpa using e);exact⟨by simp[zc,Value.isStrOf],rfl⟩
 ·obtain⟨t,rfl⟩:=b0C J i v (by simpa using e);exact(zc X.prog X.w).pyHash (k:=w.getD i "") (by simp[zc,Value.isStrOf]) S
 ·rw[c];exact kg r (by decide)
 ·rw[c,xN]at g;refine zJ (a7b L g ?_ λK d2 A D C ep k2 G ho f=>?_);·rw[<-xN];exact kg (SX.metK_len _ _) r
  ·have kk:∀b o,M.heap.get? b=some o->K.get? b=some o:=λb o z=>k2 b o (kp b o (qN z) z);obtain⟨so,_,_,_,F,_⟩:=g.ex;have lt:=qg (jP (qN F)) G;have hf:=y.hok.fresh lt;refine⟨.ref D,_,Inv.draws (y.laid (t':=A) (a:=D) (o:=.lst ((gW (mP w)).map V.str)) kk lt ⟨?_,C.toList,ep,a0j f,?_⟩),rfl,q _ hf⟩;·rw[qD,(bX _).length_eq,<-xN];exact qg (SX.metK_len _ _) (jP (oN (by exact Q4 ‹_› rfl)))
   ·rw[ho]
theorem b6y(A:X.calm=true)(w:X.mg "sorted"=none)(u:X.mg "set"=none)(C:DE X e fa)(B:Gl X "sorted":=by rfl)(D:Gl X "set":=by rfl)(j:j4 [e] X.env=(false,eval e X.env)::j4 [] X.env:=by rfl)(c:j4 [.Call (.Name "set" p2) [e] [] pos2] X.env=(false,eval (.Call (.Name "set" p2) [e] [] pos2) X.env)::j4 [] X.env:=by rfl):DE X (.Call (.Name "sorted" p) [.Call (.Name "set" p2) [e] [] pos2] [] pos) (op1 a6Y fa):=⟨λo s U H Q I⟨Z,r,N,P,G,E,R,q⟩=>b4E A B w D u boot_set (dC C.run fE j) j c (λ_=>rfl) (λ_=>rfl) o s U H Q I (bE R E q.x λx v S M i L k K=>by
  obtain⟨d,b,rfl⟩:=bL K;unfold a6Y at b;split at b
  ·split at b
   ·rename_i Y t J;split at b;·rename_i f;cases(qA b);have:=iP (g:=.str) (λd a q=>a5w q) J;subst this;cases k with|list y r=>have F:=r.strs;subst F;exact⟨_,t,rfl,i.sub.seq y,f,λl z=>q _ _ _ (i.trans (.put i.sub z)) (.list (.of aJ) (lN _))⟩
    ·cases b
   ·cases b
  ·cases b)⟩
variable{t:Bool}
theorem b5D{K:qB}{x:q8}(h:b8N T x=some t):zV K (.type (tyD x)) (.type T)=some t:=by
 unfold b8N at h;by_cases c:T="int";·rw[if_pos c]at h;subst c;cases x<;>first|(cases h;rfl)|cases h
 rw[if_neg c]at h;by_cases c:T="bool";·rw[if_pos c]at h;subst c;cases x<;>first|(cases h;rfl)|cases h
 rw[if_neg c]at h;by_cases c:T="str";·rw[if_pos c]at h;subst c;cases x<;>first|(cases h;rfl)|cases h
 rw[if_neg c]at h;by_cases c:T="tuple";·rw[if_pos c]at h;subst c;cases x<;>first|(cases h;rfl)|cases h
 rw[if_neg c]at h;cases h
def c4b:q8->Option (List q8)|.str z=>some ((lettersOf z).map .str)|_=>none
def c4a(fa:EF):AF:=λZ=>bnd (fa Z) λx=>lft (c4b x)
section
variable{x:Str}
theorem gM(F:X.mg "isinstance"=none)(hx:X.mg x=none)(C:wl x=some (.type T))(L:DE X a fa)(E:x≠"__name__":=by decide)(i:U2 x:=by decide)(o:j4 [a,.Name x p2] X.env=(false,eval a X.env)::j4 [.Name x p2] X.env:=by rfl)(g:j4 [.Name x p2] X.env=(false,eval (.Name x p2) X.env)::j4 [] X.env:=by rfl)(c:(j8 pos (j4 [.Name x p2] X.env)).any (·.1)=false:=by rfl)(J:Gl X "isinstance":=by rfl)(f:Gl X x:=by rfl):DE X (.Call (.Name "isinstance" p) [a,.Name x p2] [] pos) (op1 (isD T) fa):=by
 have K:lK X (.builtin "isinstance") (λY H Q=>∃v d t,Y=[v,.ty T]/\Rep X.K H v d/\b8N T d=some t/\Q (.bl t) H):=by rintro k s U H Y S Q I r⟨v,d,t,j,b,D,q⟩;subst j;obtain⟨u,P,rfl,A,z⟩:=vals2 r;cases z;exact b5C I b A (b5D D) λy=>⟨.bl t,H,I.tok y,rfl,q⟩
 exact⟨by rintro k s U H Q I⟨Z,r,H0,Gz,G,e,R,q⟩;exact oQ K J F boot_isinstance (dC L.run (dC (b0O (v:=.ty T) f hx C rfl E i) fE g) o) (by decide) (by decide) o c k s U H Q I (bE R e q.x λx v G1 H1 w R1 b j=>by obtain⟨d,N,rfl⟩:=bL j;obtain⟨t,M,rfl⟩:=qH.mp N;exact⟨v,x,t,rfl,b.mono w.sub,M,q _ _ _ w (.bool t)⟩)⟩
theorem c1X(j:X.calm=true)(h:DE X iter fa):DI X (.Name x px) iter (c4a fa):=⟨by
 rintro d s U H R I⟨Z,r,g,i,G,e,S,q⟩;obtain⟨x,b,a⟩|⟨c,b,a⟩:=dB e;·obtain⟨O,f,rfl⟩:=bL a;cases x<;>simp only[c4b]at f<;>cases f;exact(b7V (h.pd b) j).run d s U H R I ⟨g,i,G,S,q⟩
 ·subst a;exact a5P h.run d s U H R I ⟨Z,_,g,i,G,b,S,q⟩⟩
end
section
variable{x:Str}
noncomputable def a4X(x:q8)(O:T0l):Option Bool:=if qY x&&O.all qY then some (O.any λd=>qv d x)else none
def inX(x y:q8):Option Bool:=match x with|.tuple _=>(match a2t y with|some O=>a4X x O|none=>none)|.list _=>(match a2t y with|some O=>a4X x O|none=>none)|_=>inD x y
def a5X(x y:q8):Option Bool:=(inX x y).map (!·)
noncomputable def c3I(K:qB)(neg:Bool)(dx:q8)(O:T0l):R2:=λx y H Q=>∃p Y,y=.ref p/\(SqL K H p Y\/SqT K H p Y)/\Rep K H x dx/\RepAll K H Y O/\qY dx=true/\O.all qY=true/\Q (.bl (if neg then !(O.any λd=>qv d dx)else O.any λd=>qv d dx)) H
open Classical in theorem a3i{pz:T0b}{s:Shared}{A:Around}(I:Inv X pz U H s)(hu:A.units+64<cLine){v:Value}{dx:q8}{bs:T0o}(rx:Reads s.heap v dx bs)(hx:qY dx=true):∀{Y:List V}{O:T0l}{us:T0m},RepAll X.K H Y O->bH Y us->O.all qY=true->(∀u∈us,SeqAt.EqAt A s u v (decide (∃d as,Reads s.heap u d as/\qY d=true/\qv d dx=true)))/\us.any (λu=>decide (∃d as,Reads s.heap u d as/\qY d=true/\qv d dx=true))=O.any λd=>qv d dx
 |_,_,_,.nil,.nil,_=>⟨(λu hm=>by cases hm),rfl⟩|_,_,_,.cons (d:=d) r rr,.cons t tt,hs=>by
  rw[ja,qE]at hs;obtain⟨B,h2⟩:=a3i I hu rx hx rr tt hs.2;obtain⟨as,ra⟩:=r.reads I t;have key0:∀u,Reads s.heap u d as->decide (∃d as,Reads s.heap u d as/\qY d=true/\qv d dx=true)=qv d dx:=by intro u ra;cases e:qv d dx with|true=>exact decide_eq_true ⟨d,as,ra,hs.1,e⟩|false=>refine decide_eq_false λ⟨d',as',r',s',e'⟩=>?_;rw[SeqAt.Reads.unique d d' _ _ _ (ku hs.1) ra r']at e;rw[e]at e';cases e'
  have key:=key0 _ ra;refine⟨λu hu'=>?_,by rw[kB,kB,key,h2]⟩;rcases qM.mp hu' with z|z;·subst z;rw[key];exact SeqAt.eqAt_reads d dx A s _ v as bs ra rx (ku hs.1) (ku hx) (SeqAt.room_of_shaped hs.1 hu)
  ·exact B u z
open Classical in theorem c1G(hu:X.A.in1.units+64<cLine)(dx:q8)(O:T0l):OpR X (wa .In) (c3I X.K false dx O):=by
 intro pz s U H x y v u Q I rx ry h;obtain⟨p,Y,rfl,hq,r1,r2,B,h2,q⟩:=h;cases ry;obtain⟨bs,rb⟩:=r1.reads I rx;rcases hq with hq|hq;·obtain⟨its,r,pl,hz⟩:=I.list hq;obtain⟨e1,e2⟩:=a3i (A:=X.A.in1) I hu rb B r2 r h2;refine SeqAt.in_listAt _ pl.isList (λw hw=>e1 w (by simpa using hw)) ⟨.bl _,H,I,rfl,?_⟩;rw[<-vQ,e2];exact q
 ·obtain⟨its,r,pl,hz⟩:=I.tuple hq;obtain⟨e1,e2⟩:=a3i (A:=X.A.in1) I hu rb B r2 r h2;refine SeqAt.in_tupleAt _ pl (λw hw=>e1 w (by simpa using hw)) ⟨.bl _,H,I,rfl,?_⟩;rw[<-vQ,e2];exact q
open Classical in theorem b8j(hu:X.A.in1.units+64<cLine)(dx:q8)(O:T0l):OpR X (wa .NotIn) (c3I X.K true dx O):=by
 intro pz s U H x y v u Q I rx ry h;obtain⟨p,Y,rfl,hq,r1,r2,B,h2,q⟩:=h;cases ry;obtain⟨bs,rb⟩:=r1.reads I rx;rcases hq with hq|hq;·obtain⟨its,r,pl,hz⟩:=I.list hq;obtain⟨e1,e2⟩:=a3i (A:=X.A.in1) I hu rb B r2 r h2;refine SeqAt.notIn_listAt _ pl.isList (λw hw=>e1 w (by simpa using hw)) ⟨.bl _,H,I,rfl,?_⟩;rw[<-vQ,e2];exact q
 ·obtain⟨its,r,pl,hz⟩:=I.tuple hq;obtain⟨e1,e2⟩:=a3i (A:=X.A.in1) I hu rb B r2 r h2;refine SeqAt.notIn_tupleAt _ pl (λw hw=>e1 w (by simpa using hw)) ⟨.bl _,H,I,rfl,?_⟩;rw[<-vQ,e2];exact q
theorem yL{hu:X.A.in1.units+64<cLine}{x y:q8}(e:a2t y=some O)(h:a4X x O=some t):CmpD X .In x y t/\CmpD X .NotIn x y (!t):=by
 unfold a4X at h;split at h
 ·rename_i a;rw[qE]at a;cases(qA h);refine⟨⟨_,c1G hu x O,λv u G H Q s c d q=>?_⟩,⟨_,b8j hu x O,λv u G H Q s c d q=>?_⟩⟩;·obtain⟨p,b,rfl,f,r⟩:=pC s e d;exact⟨p,b,rfl,f,c.mono s,r.mono s,a.1,a.2,q⟩
  ·obtain⟨p,b,rfl,f,r⟩:=pC s e d;exact⟨p,b,rfl,f,c.mono s,r.mono s,a.1,a.2,q⟩
 ·cases h
theorem a3h(hu:X.A.in1.units+64<cLine) x y t(h:inX x y=some t):CmpD X .In x y t:=by
 unfold inX at h;split at h
 ·split at h;·rename_i O e;exact(yL (hu:=hu) e h).1
  ·cases h
 ·split at h;·rename_i O e;exact(yL (hu:=hu) e h).1
  ·cases h
 ·exact c4e x y t h
theorem a5W(hu:X.A.in1.units+64<cLine) x y t(h:a5X x y=some t):CmpD X .NotIn x y t:=by
 obtain⟨b,a,rfl⟩:=qH.mp h;unfold inX at a;split at a
 ·split at a;·rename_i O e;exact(yL (hu:=hu) e a).2
  ·cases a
 ·split at a;·rename_i O e;exact(yL (hu:=hu) e a).2
  ·cases a
 ·exact c1O x y _ (by unfold c1Q;rw[a];rfl)
end
theorem _root_.L2.Room.units1(r:Room k A):A.in1.units+64<cLine:=by have:=r.un;show A.units+1+64<cLine;lia
section
variable{x:Str}
end
end L2.L3
namespace L2.ZT
open PySem PyProof.Rows
section
variable{z TI TO c d t u:Addr}{Y ys:Array Value}{a b:Value}
end
end L2.ZT
namespace L2.L3
open PySem PySem.Spec PyProof.Rows
def Itt(K:qB)(l1 l2:Addr):It:=⟨λi H=>∃Y ys x y,SqT K H l1 Y/\SqT K H l2 ys/\Y[i]?=some x/\ys[i]?=some y,λi H v H'=>∃T x y,H T=none/\v=.ref T/\H'=upd H T (.tup [x,y])/\(∀Y,SqT K H l1 Y->Y[i]?=some x)/\∀ys,SqT K H l2 ys->ys[i]?=some y,λi H=>∃Y ys,SqT K H l1 Y/\SqT K H l2 ys/\(Y.length<=i\/ys.length<=i)⟩
section
variable{a b:Expr}{p:Pos}
end
theorem c3c{m:Mm α}{a:α}{k:α->Mm β}(h:m=some (.ok a)):bnd m k=k a:=by rw[h];rfl
theorem a1g{m:Mm α}{a:α}{k:α->Option So}(h:m=some (.ok a)):bns m Z k=k a:=by rw[h];rfl
theorem a0G{d:Type}{t:Tg}{ρb:List Ent}{ft:TF}{fe:EF} φ(ρx:d->List Ent) c v:∀(Y:List d),(∀x∈Y,tgD t ρb (φ x)=some (ρx x))->(∀x∈Y,ft (ρx x)=some (.ok (c x)))->(∀x∈Y,c x=true->fe (ρx x)=some (.ok (v x)))->sU t ρb ft fe (Y.map φ)=some ((Y.filter c).map v)|[],_,_,_=>rfl|x::Y,B,h2,h3=>by have e:=a0G φ ρx c v Y (λy a=>B y (qF _ a)) (λy a=>h2 y (qF _ a)) (λy a=>h3 y (qF _ a));have i:=B x qa;have g:=h2 x qa;rw[qI,sU,i];dsimp only;rw[g];cases b:c x with|true=>have f:=h3 x qa b;rw[f];rw[e,jE b];rfl|false=>rw[e,jV (by rw[b];decide)]
theorem gN{a:Type}{cap:T0e} φ(ρx:a->List Ent) c v(Y:List a)(d:fi Z=some (.ok (Y.map φ)))(b:Y.length<=100000)(B:∀x∈Y,tgD t (cJ cap Z) (φ x)=some (ρx x))(f:∀x∈Y,ft (ρx x)=some (.ok (c x)))(e:∀x∈Y,c x=true->fe (ρx x)=some (.ok (v x))):fR t cap fi ft fe Z=some (.ok (.list ((Y.filter c).map v))):=by unfold fR;rw[c3c d,qD,if_pos (by exact decide_eq_true b),a0G φ ρx c v Y B f e];rfl
theorem filter_all{a:Type}{c:a->Bool}{Y:List a}(h:∀x∈Y,c x=true):Y.filter c=Y:=List.filter_eq_self.mpr h
theorem lV{a:Type}{cap:T0e} φ(ρx:a->List Ent) v(Y:List a)(d:fi Z=some (.ok (Y.map φ)))(b:Y.length<=100000)(B:∀x∈Y,tgD t (cJ cap Z) (φ x)=some (ρx x))(e:∀x∈Y,fe (ρx x)=some (.ok (v x))):fR t cap fi ttT fe Z=some (.ok (.list (Y.map v))):=by rw[gN φ ρx (λ_=>true) v Y d b B (λ_ _=>rfl) (λx c _=>e x c),filter_all (λ_ _=>rfl)]
variable{g:SF}
section
variable{α β:Type}{fd:EF}{e:q8}{i j k:Int}
@[simp]theorem dF a(k:α->Mm β):bnd (some (.ok a)) k=k a:=rfl
@[simp]theorem c6v c(k:α->Mm β):bnd (some (.ex c)) k=some (.ex c):=rfl
@[simp]theorem a5j a(k:α->Option So):bns (some (.ok a)) Z k=k a:=rfl
@[simp]theorem c6u c(k:α->Option So):bns (some (.ex c)) Z k=some (.xc c Z):=rfl
@[simp]theorem a7M(a:α):lft (some a)=some (.ok a):=rfl
@[simp]theorem b1D:cst d Z=some (.ok d):=rfl
@[simp]theorem b0y d r:var 0 (.val d::r)=some (.ok d):=rfl
@[simp]theorem b3K n x r:var (n+1) (x::r)=var n r:=rfl
@[simp]theorem b4U g:op2 g fa fb Z=bnd (fa Z) λx=>bnd (fb Z) λy=>lft (g x y):=rfl
@[simp]theorem b0S g:op1 g fa Z=bnd (fa Z) λx=>lft (g x):=rfl
@[simp]theorem a3C:aH Z=some (.ok []):=rfl
@[simp]theorem cI:aB fa aa Z=bnd (fa Z) λx=>bnd (aa Z) λY=>some (.ok (x::Y)):=rfl
@[simp]theorem iZ:eB aa Z=bnd (aa Z) λY=>lft (a1t Y):=rfl
@[simp]theorem c5D:pR aa Z=bnd (aa Z) λY=>lft (a4N Y):=rfl
@[simp]theorem c5i n:dI n=decide (n<=100000):=rfl
@[simp]theorem b8E O:a1t O=if O.length<=100000 then some (.tuple O)else none:=by unfold a1t dI;by_cases h:O.length<=100000<;>simp
@[simp]theorem c4I O:a4N O=if O.length<=100000 then some (.list O)else none:=by unfold a4N dI;by_cases h:O.length<=100000<;>simp
@[simp]theorem b6H g:a8o g fa fb Z=bnd (fa Z) λx=>bnd (fb Z) λy=>lft ((g x y).map .bool):=rfl
@[simp]theorem c2Z g:bJ g fa fb Z=bnd (fa Z) λx=>bnd (fb Z) λy=>lft (g x y):=rfl
theorem b8M t u:(if t=true then(some (Re.ok u):Mm Bool)else some (.ok false))=some (.ok (t&&u)):=by cases t<;>rfl
theorem c2m t u:(if t=true then(some (Re.ok true):Mm Bool)else some (.ok u))=some (.ok (t||u)):=by cases t<;>rfl
@[simp]theorem c5X g g':c3b g g' fa fb fc Z=bnd (fa Z) λx=>bnd (fb Z) λy=>bnd (lft (g x y)) λt=>if t then bnd (fc Z) λz=>lft ((g' y z).map .bool)else some (.ok (.bool false)):=rfl
@[simp]theorem c5W g g':c3a g g' fa fb fc Z=bnd (fa Z) λx=>bnd (fb Z) λy=>bnd (lft (g x y)) λt=>if t then bnd (fc Z) λz=>lft (g' y z)else some (.ok false):=rfl
@[simp]theorem b3N:iS fa Z=bnd (fa Z) λx=>lft (a6Q x):=rfl
@[simp]theorem c0M b:a6Q (.bool b)=some b:=rfl
@[simp]theorem c4Q(O:T0l):a6Q (.list O)=some (!O.isEmpty):=rfl
@[simp]theorem c4O(O:T0l):a6Q (.tuple O)=some (!O.isEmpty):=rfl
@[simp]theorem c4R i:a6Q (.int i)=some (i !=0):=rfl
@[simp]theorem c4P:a6Q .none=some false:=rfl
@[simp]theorem c1K:lC ft Z=bnd (ft Z) λt=>some (.ok (!t)):=rfl
@[simp]theorem c5t:c1L fa Z=bnd (fa Z) λx=>lft ((uV x).map λt=>.bool (!t)):=rfl
@[simp]theorem c4L b:uV (.bool b)=some b:=rfl
@[simp]theorem c5O i:intD (.int i)=some i:=rfl
@[simp]theorem c5k i:b2a (.str i)=some i:=rfl
@[simp]theorem b6X:b0u ft fu Z=bnd (ft Z) λt=>if t then fu Z else some (.ok false):=rfl
@[simp]theorem c3Q:orT ft fu Z=bnd (ft Z) λt=>if t then some (.ok true)else fu Z:=rfl
@[simp]theorem c5Y:b3z fa fb Z=bnd (fa Z) λx=>bnd (lft (uV x)) λt=>if t then fb Z else some (.ok (.bool false)):=rfl
@[simp]theorem c6h:orE fa fb Z=bnd (fa Z) λx=>bnd (lft (uV x)) λt=>if t then some (.ok (.bool true))else fb Z:=rfl
@[simp]theorem b1f:ifE ft fa fb Z=bnd (ft Z) λt=>if t then fa Z else fb Z:=rfl
@[simp]theorem a3z g:cQ g aa Z=bnd (aa Z) λY=>lft (g Y):=rfl
@[simp]theorem a6H(F:List q8->Mm q8):bC F aa Z=bnd (aa Z) λO=>(match F O with|some (.ok d)=>some (.ok d)|_=>none):=rfl
@[simp]theorem b7b:cF (.int i) (.int j)=some (.int (i+j)):=rfl
@[simp]theorem c5j:b1Y (.int i) (.int j)=some (.int (i-j)):=rfl
@[simp]theorem c6i:c5w (.int i)=some (.int (-i)):=rfl
@[simp]theorem b7a(a b:T0l):cF (.tuple a) (.tuple b)=if a.length+b.length<=100000 then some (.tuple (a++b))else none:=by show(if dI (a.length+b.length)=true then _ else _)=_;by_cases h:a.length+b.length<=100000<;>simp
@[simp]theorem c3h(a b:T0l):cF (.list a) (.list b)=if a.length+b.length<=100000 then some (.list (a++b))else none:=by show(if dI (a.length+b.length)=true then _ else _)=_;by_cases h:a.length+b.length<=100000<;>simp
@[simp]theorem c0m:ltD (.int i) (.int j)=some (decide (i<j)):=rfl
@[simp]theorem c6m:leD (.int i) (.int j)=some (decide (i<=j)):=rfl
@[simp]theorem c4j:gtD (.int i) (.int j)=some (decide (j<i)):=rfl
@[simp]theorem c4o:geD (.int i) (.int j)=some (decide (j<=i)):=rfl
@[simp]theorem c4q:eqD (.int i) (.int j)=some (decide (i=j)):=rfl
@[simp]theorem c6j:neD (.int i) (.int j)=some (!decide (i=j)):=rfl
@[simp]theorem c6s a b:eqD (.str a) (.str b)=some (decide (a=b)):=rfl
@[simp]theorem c0k a b:neD (.str a) (.str b)=some (!decide (a=b)):=rfl
@[simp]theorem c6t a b:eqD (.bool a) (.bool b)=some (decide (a=b)):=rfl
@[simp]theorem c0l a b:neD (.bool a) (.bool b)=some (!decide (a=b)):=rfl
@[simp]theorem c1U:a9t (.int i) (.int j)=if 0<j then some (.int (i%j))else none:=rfl
@[simp]theorem c5U:b8Y (.int i) (.int j)=if 0<j/\j<1073741824 then some (.int (i/j))else none:=rfl
theorem a6a(B:-(2^64)<j)(a:j<2^64):oC (.int i) (.int j)=some (.int (i*j)):=by show(if(nY i||nY j)=true then _ else _)=_;rw[if_pos];simp[nY];right;lia
theorem a6b(B:-(2^64)<i)(a:i<2^64):oC (.int i) (.int j)=some (.int (i*j)):=by show(if(nY i||nY j)=true then _ else _)=_;rw[if_pos];simp[nY];left;lia
@[simp]theorem c0o(Y:T0l):sX [.list Y]=some (.int Y.length):=rfl
@[simp]theorem c6l(Y:T0l):sX [.tuple Y]=some (.int Y.length):=rfl
@[simp]theorem c5B:c5C [.int i,.int j]=some (.int (max i j)):=rfl
@[simp]theorem c5z:c5A [.int i,.int j]=some (.int (min i j)):=rfl
@[simp]theorem a1k(Y:T0l):mV [.list Y]=some (.tuple Y):=rfl
@[simp]theorem c6g(Y:T0l):mV [.tuple Y]=some (.tuple Y):=rfl
@[simp]theorem c6k(Y:T0l):a3U [.list Y]=some (.list Y):=rfl
@[simp]theorem c0n(Y:T0l):a3U [.tuple Y]=some (.list Y):=rfl
@[simp]theorem c6r b:c5P [.bool b]=some (.int (if b then 1 else 0)):=rfl
@[simp]theorem c1a:mW fa Z=bnd (fa Z) λx=>lft (a2t x):=rfl
@[simp]theorem c5n(O:T0l):a2t (.list O)=some O:=rfl
@[simp]theorem c5m(O:T0l):a2t (.tuple O)=some O:=rfl
@[simp]theorem c6n(O:T0l):ixD (.tuple O) (.int i)=atI O i:=rfl
@[simp]theorem c6o(O:T0l):ixD (.list O) (.int i)=atI O i:=rfl
theorem c3g{Y:List α}(n:Nat):atI Y (n:Int)=Y[n]?:=by
 unfold atI ixN;rw[if_pos (by lia)];by_cases h:n<Y.length;·rw[if_pos (by omega)];simp
 ·rw[if_neg (by lia)];rw[jG (by lia)];rfl
@[simp]theorem c6B a(r:List α):atI (a::r) 0=some a:=by unfold atI ixN;rw[if_pos (by decide),if_pos (by simp<;>omega)];rfl
@[simp]theorem c6A a b(r:List α):atI (a::b::r) 1=some b:=by unfold atI ixN;rw[if_pos (by decide),if_pos (by simp<;>lia)];rfl
@[simp]theorem c6z a b c(r:List α):atI (a::b::c::r) 2=some c:=by unfold atI ixN;rw[if_pos (by decide),if_pos (by simp<;>lia)];rfl
@[simp]theorem c6y a b c d(r:List α):atI (a::b::c::d::r) 3=some d:=by unfold atI ixN;rw[if_pos (by decide),if_pos (by simp<;>lia)];rfl
@[simp]theorem c5u:dG Z=some (.nx Z):=rfl
@[simp]theorem dJ:retS fa Z=bns (fa Z) Z λd=>some (.rt d):=rfl
@[simp]theorem c4J:a3q fa Z=bns (fa Z) Z λ_=>some (.nx Z):=rfl
@[simp]theorem iH i:fU i fa Z=bns (fa Z) Z λd=>some (.nx (Z.set i (.val d))):=rfl
@[simp]theorem c4N t:a1J t fa Z=bns (fa Z) Z λd=>(tgD t Z d).map So.nx:=rfl
@[simp]theorem tH f g:ifS ft f g Z=bns (ft Z) Z λt=>if t then f Z else g Z:=rfl
@[simp]theorem a9N t fb:b8U t aa fb Z=bns (aa Z) Z λO=>iU t fb O Z:=rfl
@[simp]theorem c5v i:b5e i aa Z=bns (aa Z) Z λO=>if O.length<=100000 then some (.nx (Z.set i (.lst O)))else none:=by unfold b5e dI;cases aa Z with|none=>rfl|some r=>cases r with|ok O=>by_cases h:O.length<=100000<;>simp[h]|ex c=>rfl
theorem aO(h:f Z=some (.nx ρ')):aY f g Z=g ρ':=by unfold aY;rw[h]
theorem a5C(h:f Z=some (.rt d)):aY f g Z=some (.rt d):=by unfold aY;rw[h]
@[simp]theorem c3s i:tgD (.nm i) Z d=some (Z.set i (.val d)):=rfl
@[simp]theorem c4U i j a b:tgD (.tp [i,j]) Z (.tuple [a,b])=some ((Z.set i (.val a)).set j (.val b)):=rfl
@[simp]theorem c4T i j k a b c:tgD (.tp [i,j,k]) Z (.tuple [a,b,c])=some (((Z.set i (.val a)).set j (.val b)).set k (.val c)):=rfl
@[simp]theorem c4S i j k l a b c d:tgD (.tp [i,j,k,l]) Z (.tuple [a,b,c,d])=some ((((Z.set i (.val a)).set j (.val b)).set k (.val c)).set l (.val d)):=rfl
end
theorem a4P{α:Type}{t:Tg}{fb:SF} φ(P:Nat->List Ent->Prop):∀(Y:List α) i Z,P i Z->(∀ j x Z,Y[j]?=some x->P (i+j) Z->∃ρ1 ρ2,tgD t Z (φ x)=some ρ1/\(fb ρ1=some (.nx ρ2)\/fb ρ1=some (.ct ρ2))/\P (i+j+1) ρ2)->∃ρ',iU t fb (Y.map φ) Z=some (.nx ρ')/\P (i+Y.length) ρ'
 |[],i,Z,h,_=>⟨Z,rfl,by simpa using h⟩|x::Y,i,Z,h,turn=>by obtain⟨ρ1,ρ2,e1,e2,h2⟩:=turn 0 x Z rfl (by simpa using h);obtain⟨ρ',e3,h3⟩:=a4P φ P Y (i+1) ρ2 (by simpa using h2) (λj y Z hy hp=>by
   have e:i+1+j=i+(j+1):=by lia
   rw[e]at hp⊢;exact turn (j+1) y Z (by simpa using hy) hp);refine⟨ρ',?_,by rwa[qZ,show i+(Y.length+1)=i+1+Y.length by lia]⟩;rw[qI,iU,e1];dsimp only;obtain e2|e2:=e2<;>(rwa[e2])
theorem b9S(h:Z[i]?=some (.lst O))(b:fa Z=some (.ok d))(a:O.length<=100000):b3y i fa Z=some (.nx (Z.set i (.lst (O++[d])))):=by unfold b3y;rw[h];dsimp only;rw[a1g b,if_pos (by exact decide_eq_true a)]
theorem b7J(h:fa Z=some (.ok (.int n)))(B:-1000000000<=n)(a:n<=1000000000):a8Z fa Z=some (.ok (xF 0 n.toNat)):=by unfold a8Z;rw[h];dsimp only;rw[if_pos];simp[b1e];lia
variable{p:Int}
theorem b6W{Y:List α}(b:0<=p)(B:p<Y.length) a:atI Y p=some (Y.getD p.toNat a):=by
 have e:((p.toNat:Nat):Int)=p:=by lia
 have lt:p.toNat<Y.length:=by lia
 have q:=c3g (Y:=Y) p.toNat;rw[e]at q;rw[q];simp[qG lt]
theorem b5W{a b:Type}(f:a->b)(Y:List a) i d:(Y.map f).getD i (f d)=f (Y.getD i d):=by simp only[zj,qO];cases Y[i]?<;>rfl
theorem a2h{b c:Type}(f:b->c){Y:List b}(d:0<=p)(B:p<Y.length) a:atI (Y.map f) p=some (f (Y.getD p.toNat a)):=by rw[b6W d (by rwa[qD]) (f a),b5W]
noncomputable def cellOf(ns:T0s)(k:Int):Int:=if k<ns.length then ns.getD k.toNat 0 else if ns=[]then 0 else ns.getD (k%(ns.length:Int)).toNat 0*31+k
def drawnOf(ns:T0s)(k:Int):Int:=(cellOf ns k+6151*(k+1))*40692%2147483399
def pickOf(ns:T0s)(k many:Int):Int:=(drawnOf ns k*drawnOf ns k+drawnOf ns k/31)%2147483629%many
variable{many:Int}
theorem hV ns k(h:0<many):0<=pickOf ns k many:=ve _ (by lia)
theorem hZ ns k(h:0<many):pickOf ns k many<many:=zx _ h
noncomputable def bW:List Str:=["a","b","cc","d","e","fx","g","h","i","jjjj"]
def spanOf(ns:T0s)(at':Int):Int:=([12,30,30,200]:T0s).getD (pickOf ns at' 4).toNat 0
theorem a5y ns at':spanOf ns at'=12\/spanOf ns at'=30\/spanOf ns at'=200:=by
 have a:=hV ns at' (many:=4) (by decide);have B:=hZ ns at' (many:=4) (by decide);unfold spanOf;generalize pickOf ns at' 4=p at a B;have:p=0\/p=1\/p=2\/p=3:=by lia
 obtain rfl|rfl|rfl|rfl:=this<;>simp
def mZ(ns:T0s)(at':Int)(k:Nat):Int:=([3,8,spanOf ns at']:T0s).getD (pickOf ns (at'+12+3*(k:Int)) 3).toNat 0
theorem a2r ns at' k:0<mZ ns at' k/\mZ ns at' k<=200:=by
 have a:=hV ns (at'+12+3*(k:Int)) (many:=3) (by decide);have B:=hZ ns (at'+12+3*(k:Int)) (many:=3) (by decide);have b:=a5y ns at';unfold mZ;generalize pickOf ns (at'+12+3*(k:Int)) 3=p at a B;have:p=0\/p=1\/p=2:=by lia
 obtain rfl|rfl|rfl:=this<;>simp<;>lia
def iO(ns:T0s)(at':Int)(k:Nat):Int:=pickOf ns (at'+10+3*(k:Int)) (spanOf ns at')
def nA(ns:T0s)(at':Int)(k:Nat):Int:=1+pickOf ns (at'+11+3*(k:Int)) (mZ ns at' k)
def a1L(ns:T0s)(at':Int)(k:Nat):Mt:=(bW.getD k "",iO ns at' k,iO ns at' k+nA ns at' k)
def mI(ns:T0s)(at' most:Int):Nat:=(pickOf ns (at'+1) (most+1)).toNat
def nB(ns:T0s)(at' most:Int):List Mt:=(ql (mI ns at' most)).map (a1L ns at')
variable{most:Int}
theorem b0Y{ns:T0s}{at':Int}(h:0<=most):((mI ns at' most:Nat):Int)<=most:=by have a:=hV ns (at'+1) (many:=most+1) (by lia);have B:=hZ ns (at'+1) (many:=most+1) (by lia);unfold mI;lia
theorem a4w ns at' most:(nB ns at' most).length=mI ns at' most:=by simp[nB]
theorem b6V ns at' k:0<=iO ns at' k/\iO ns at' k<200:=by have a:=a5y ns at';have b:=hV ns (at'+10+3*(k:Int)) (many:=spanOf ns at') (by lia);have B:=hZ ns (at'+10+3*(k:Int)) (many:=spanOf ns at') (by lia);unfold iO;lia
theorem b7u ns at' k:1<=nA ns at' k/\nA ns at' k<=200:=by have a:=a2r ns at' k;have b:=hV ns (at'+11+3*(k:Int)) (many:=mZ ns at' k) a.1;have B:=hZ ns (at'+11+3*(k:Int)) (many:=mZ ns at' k) a.1;unfold nA;lia
theorem a3Q:bW.Nodup:=by decide+kernel
theorem a9r:∀x∈bW,jJ x=true:=by decide+kernel
structure SheetOk(s:List Mt):Prop where
 few:s.length<=10
 names:s.map (·.1)=bW.take s.length
 times:∀m∈s,0<=m.2.1/\m.2.1<m.2.2/\m.2.2<400
theorem b4a ns at'(d:0<=most)(B:most<=10):SheetOk (nB ns at' most):=by
 have f:=b0Y (ns:=ns) (at':=at') d;refine⟨by rw[a4w];omega,?_,λm a=>?_⟩
 ·rw[a4w];have g:mI ns at' most<=bW.length:=by show _<=10;omega
  unfold nB;rw[qc];apply je;intro i;rw[qO];by_cases c:i<mI ns at' most
  ·rw[zi c,kQ c];have b:i<bW.length:=by lia
   simp[a1L,qG b]
  ·rw[jG (by simpa using c),jG (by simp;lia)];rfl
 ·obtain⟨k,_,rfl⟩:=qK.mp a;have j:=b6V ns at' k;have e:=b7u ns at' k;simp only[a1L];lia
variable{s:List Mt}
theorem SheetOk.name_ok(S:SheetOk s):∀m∈s,jJ m.1=true:=λm a=>by have:m.1∈s.map (·.1):=qK.mpr ⟨m,a,rfl⟩;rw[S.names]at this;exact a9r _ (List.mem_of_mem_take this)
theorem SheetOk.nodup(S:SheetOk s):(s.map (·.1)).Nodup:=by rw[S.names];exact a3Q.sublist (vG _ _)
noncomputable abbrev dN(ns:T0s):q8:=.list (ns.map .int)
theorem a1S(B:∀d∈O,jD d=true)(b:∀d∈O,jS d<=n)(a:n<64):qY (.list O)=true:=by
 refine a4x (n:=n+1) ?_ ?_ a;·rw[jD];exact pX B
 ·rw[jS];have:=tL b;lia
theorem b4b(B:∀d∈O,jD d=true)(b:∀d∈O,jS d<=n)(a:n<64):qY (.tuple O)=true:=by
 refine a4x (n:=n+1) ?_ ?_ a;·rw[jD];exact pX B
 ·rw[jS];have:=tL b;lia
theorem b7v(ns:T0s):qY (.list (ns.map .int))=true:=a1S (n:=1) (λd a=>by obtain⟨i,_,rfl⟩:=qK.mp a;simp[jD]) (λd a=>by obtain⟨i,_,rfl⟩:=qK.mp a;simp[jS]) (by decide)
variable{a b:List q8}
theorem a7X(B:qY (.list a)=true)(c:qY (.list b)=true):eqD (.list a) (.list b)=some (jb a b):=by show(if(qY (.list a)&&qY (.list b))=true then some (qv (.list a) (.list b))else none)=_;rw[B,c,if_pos (by rfl),a7W]
theorem a7F(B:qY (.list a)=true)(c:qY (.list b)=true):neD (.list a) (.list b)=some (!PyData.eqvAll a b):=by show(if(qY (.list a)&&qY (.list b))=true then some (!PyData.eqv (.list a) (.list b))else none)=_;rw[B,c,if_pos (by rfl),a7W]
theorem a4L(B:qY (.tuple a)=true)(c:qY (.tuple b)=true):neD (.tuple a) (.tuple b)=some (!PyData.eqvAll a b):=by show(if(qY (.tuple a)&&qY (.tuple b))=true then some (!PyData.eqv (.tuple a) (.tuple b))else none)=_;rw[B,c,if_pos (by rfl),b3b]
theorem a8S:qY (.list [])=true:=by decide+kernel
theorem b1p(O:T0l):jb O []=O.isEmpty:=by cases O<;>simp[jb]
theorem a9U(h:qY (.list O)=true):eqD (.list O) (.list [])=some O.isEmpty:=by rw[a7X h a8S,b1p]
theorem c1R(h:qY (.list O)=true):neD (.list O) (.list [])=some (!O.isEmpty):=by rw[a7F h a8S,b1p]
abbrev b1X:TF:=bJ ltD (var 1) (cQ sX (aB (var 0) aH))
abbrev b1V:TF:=bJ eqD (var 0) (pR aH)
def a3p:SF:=(aY (ifS b1X (retS (op2 ixD (var 0) (var 1))) dG) (aY (ifS b1V (retS (cst (.int 0))) dG) (retS (op2 cF (op2 oC (op2 ixD (var 0) (op2 a9t (var 1) (cQ sX (aB (var 0) aH)))) (cst (.int 31))) (var 1)))))
def a3E:List q8->Mm q8:=mC 2 2 a3p
def a3o:SF:=(aY (fU 3 (op2 a9t (op2 oC (op2 cF (bC a3E (aB (var 0) (aB (var 1) aH))) (op2 oC (cst (.int 6151)) (op2 cF (var 1) (cst (.int 1))))) (cst (.int 40692))) (cst (.int 2147483399)))) (retS (op2 a9t (op2 a9t (op2 cF (op2 oC (var 3) (var 3)) (op2 b8Y (var 3) (cst (.int 31)))) (cst (.int 2147483629))) (var 2))))
def bN:List q8->Mm q8:=mC 4 3 a3o
abbrev b0s:SF:=aY (fU 7 (bC bN (aB (var 0) (aB (op2 cF (op2 cF (var 1) (cst (.int 10))) (op2 oC (cst (.int 3)) (var 6))) (aB (var 3) aH))))) (aY (fU 8 (op2 cF (cst (.int 1)) (bC bN (aB (var 0) (aB (op2 cF (op2 cF (var 1) (cst (.int 11))) (op2 oC (cst (.int 3)) (var 6))) (aB (op2 ixD (pR (aB (cst (.int 3)) (aB (cst (.int 8)) (aB (var 3) aH)))) (bC bN (aB (var 0) (aB (op2 cF (op2 cF (var 1) (cst (.int 12))) (op2 oC (cst (.int 3)) (var 6))) (aB (cst (.int 3)) aH))))) aH)))))) (b3y 5 (eB (aB (op2 ixD (var 4) (var 6)) (aB (var 7) (aB (op2 cF (var 7) (var 8)) aH))))))
def a0W:SF:=(aY (fU 3 (op2 ixD (pR (aB (cst (.int 12)) (aB (cst (.int 30)) (aB (cst (.int 30)) (aB (cst (.int 200)) aH))))) (bC bN (aB (var 0) (aB (var 1) (aB (cst (.int 4)) aH)))))) (aY (fU 4 (pR (aB (cst (.str "a")) (aB (cst (.str "b")) (aB (cst (.str "cc")) (aB (cst (.str "d")) (aB (cst (.str "e")) (aB (cst (.str "fx")) (aB (cst (.str "g")) (aB (cst (.str "h")) (aB (cst (.str "i")) (aB (cst (.str "jjjj")) aH)))))))))))) (aY (b5e 5 aH) (aY (b8U (.nm 6) (a8Z (bC bN (aB (var 0) (aB (op2 cF (var 1) (cst (.int 1))) (aB (op2 cF (var 2) (cst (.int 1))) aH))))) b0s) (a0U 5 (retS (cQ mV (aB (var 5) aH))))))))
def a1j:List q8->Mm q8:=mC 9 3 a0W
theorem eE{m n:Nat}(a:O.length=n)(h:f (pA m O)=some (.rt d)):mC m n f O=some (.ok d):=by unfold mC;rw[if_pos a,h]
theorem a6m{ns:T0s}(a:0<=p)(B:p<ns.length):ixD (.list (ns.map .int)) (.int p)=some (.int (ns.getD p.toNat 0)):=by show atI (ns.map km) p=_;rw[a2h km a B 0]
theorem c2E ns k(o:0<=k):a3E [dN ns,.int k]=some (.ok (.int (cellOf ns k))):=by
 refine eE rfl ?_;show a3p [.val (dN ns),.val (.int k)]=_;unfold a3p cellOf;by_cases B:k<ns.length;·rw[a5C (d:=.int (ns.getD k.toNat 0)),if_pos B];simp[B];rw[a2h km o B 0];rfl
 ·rw[aO (ρ':=[.val (dN ns),.val (.int k)]) (by simp[B]),if_neg B];by_cases c:ns=[];·subst c;rw[a5C (d:=.int 0),if_pos rfl];have h:eqD (dN []) (.list [])=some true:=a9U a8S;rfl
  ·have j:(ns.map km).isEmpty=false:=by cases ns with|nil=>exact absurd rfl c|cons a r=>rfl
   have h:eqD (dN ns) (.list [])=some false:=by rw[a9U (b7v ns),j]
   rw[aO (ρ':=[.val (dN ns),.val (.int k)]) (by simp[h]),if_neg c];have e:(0:Int)<(ns.length:Nat):=by cases ns with|nil=>exact absurd rfl c|cons a r=>simp<;>omega
   have q:=ve k (b:=(ns.length:Int)) (by lia);have p:=zx k e;have g:0<ns.length:=by lia
   have i:=a6m q p;have f:oC (.int (ns.getD (k%(ns.length:Int)).toNat 0)) (.int 31)=some (.int (ns.getD (k%(ns.length:Int)).toNat 0*31)):=a6a (by decide) (by decide);simp only[dJ,b4U,b3K,b0y,dF,a3z,cI,a3C,c0o,a7M,c1U,qD,if_pos e,i,b1D,f,b7b,a5j]
theorem b6r ns k:0<=drawnOf ns k/\drawnOf ns k<2147483399:=⟨ve _ (by decide),zx _ (by decide)⟩
theorem lD ns k many(e:0<=k)(b:0<many):bN [dN ns,.int k,.int many]=some (.ok (.int (pickOf ns k many))):=by
 refine eE rfl ?_;show a3o [.val (dN ns),.val (.int k),.val (.int many),.no]=_;have f:=b6r ns k;unfold a3o;rw[aO (ρ':=[.val (dN ns),.val (.int k),.val (.int many),.val (.int (drawnOf ns k))])];·have a:oC (.int (drawnOf ns k)) (.int (drawnOf ns k))=some (.int (drawnOf ns k*drawnOf ns k)):=a6a (by lia) (by lia);simp[a,b,pickOf]
 ·have d:oC (.int 6151) (.int (k+1))=some (.int (6151*(k+1))):=a6b (by decide) (by decide);have c:oC (.int (cellOf ns k+6151*(k+1))) (.int 40692)=some (.int ((cellOf ns k+6151*(k+1))*40692)):=a6a (by decide) (by decide);simp[c2E ns k e,d,c,drawnOf]
theorem a9b n:xF 0 n=(ql n).map λ(k:Nat)=>km (k:Int):=by simp[xF]
theorem b9e ns at' most(D:0<=at')(w:0<=most)(v:most<=10):a1j [dN ns,.int at',.int most]=some (.ok (dS (nB ns at' most))):=by
 refine eE rfl ?_;show a0W [.val (dN ns),.val (.int at'),.val (.int most),.no,.no,.no,.no,.no,.no]=_;have H:=a5y ns at';have K:=b0Y (ns:=ns) (at':=at') w;have J:=hV ns (at'+1) (many:=most+1) (by omega);have I:=hZ ns (at'+1) (many:=most+1) (by omega);unfold a0W;rw[aO (ρ':=[.val (dN ns),.val (.int at'),.val (.int most),.val (.int (spanOf ns at')),.no,.no,.no,.no,.no])];rotate_left;·have h:=a6m (ns:=[12,30,30,200]) (hV ns at' (many:=4) (by decide)) (hZ ns at' (by decide));have g:atI [km 12,.int 30,.int 30,.int 200] (pickOf ns at' 4)=some (.int (spanOf ns at')):=h;simp[lD ns at' 4 D (by decide),g]
 rw[aO (ρ':=[.val (dN ns),.val (.int at'),.val (.int most),.val (.int (spanOf ns at')),.val (.list (bW.map .str)),.no,.no,.no,.no])];rotate_left;·simp[bW]
 rw[aO (ρ':=[.val (dN ns),.val (.int at'),.val (.int most),.val (.int (spanOf ns at')),.val (.list (bW.map .str)),.lst [],.no,.no,.no])];rotate_left;·simp--the a
 have u:a8Z (bC bN (aB (var 0) (aB (op2 cF (var 1) (cst (.int 1))) (aB (op2 cF (var 2) (cst (.int 1))) aH)))) [.val (dN ns),.val (.int at'),.val (.int most),.val (.int (spanOf ns at')),.val (.list (bW.map .str)),.lst [],.no,.no,.no]=some (.ok ((ql (mI ns at' most)).map λ(k:Nat)=>km (k:Int))):=by rw[b7J (n:=pickOf ns (at'+1) (most+1)) (by simp[lD ns (at'+1) (most+1) (by lia) (by omega)]) (by lia) (by lia),a9b];rfl
 have a:=a4P (t:=.nm 6) (λ(k:Nat)=>km (k:Int)) (λm Z=>m<=10->∃x y z,Z=[.val (dN ns),.val (.int at'),.val (.int most),.val (.int (spanOf ns at')),.val (.list (bW.map .str)),.lst ((ql m).map λk=>dM (a1L ns at' k)),x,y,z])
  (fb:=(aY (fU 7 (bC bN (aB (var 0) (aB (op2 cF (op2 cF (var 1) (cst (.int 10))) (op2 oC (cst (.int 3)) (var 6))) (aB (var 3) aH))))) (aY (fU 8 (op2 cF (cst (.int 1)) (bC bN (aB (var 0) (aB (op2 cF (op2 cF (var 1) (cst (.int 11))) (op2 oC (cst (.int 3)) (var 6))) (aB (op2 ixD (pR (aB (cst (.int 3)) (aB (cst (.int 8)) (aB (var 3) aH)))) (bC bN (aB (var 0) (aB (op2 cF (op2 cF (var 1) (cst (.int 12))) (op2 oC (cst (.int 3)) (var 6))) (aB (cst (.int 3)) aH))))) aH)))))) (b3y 5 (eB (aB (op2 ixD (var 4) (var 6)) (aB (var 7) (aB (op2 cF (var 7) (var 8)) aH))))))))
  (ql (mI ns at' most)) 0 [.val (dN ns),.val (.int at'),.val (.int most),.val (.int (spanOf ns at')),.val (.list (bW.map .str)),.lst [],.no,.no,.no] (λ_=>⟨.no,.no,.no,rfl⟩) (by
  intro m k Z C b;have f:m<mI ns at' most/\k=m:=by obtain⟨B,r⟩:=qR.mp C;rw[jo]at B;rw[List.getElem_range]at r;exact⟨B,r.symm⟩
  obtain⟨A,rfl⟩:=f;obtain⟨x,y,z,rfl⟩:=b (by lia);rw[Nat.zero_add];have s:=a2r ns at' k;have G:=lD ns (at'+10+3*(k:Int)) (spanOf ns at') (by lia) (by omega);have F:=lD ns (at'+12+3*(k:Int)) 3 (by lia) (by decide);have E:=lD ns (at'+11+3*(k:Int)) (mZ ns at' k) (by lia) s.1;have h:=a6m (ns:=[3,8,spanOf ns at']) (hV ns (at'+12+3*(k:Int)) (many:=3) (by decide)) (show pickOf ns _ 3<(3:Int)from hZ ns _ (by decide));have g:atI [km 3,.int 8,.int (spanOf ns at')] (pickOf ns (at'+12+3*(k:Int)) 3)=some (.int (mZ ns at' k)):=h;have q:oC (.int 3) (.int (k:Int))=some (.int (3*(k:Int))):=a6b (by decide) (by decide);have nm:atI (bW.map qw) (k:Int)=some (.str (bW.getD k "")):=by have:=a2h qw (Y:=bW) (p:=(k:Int)) (by lia) (by show _<(10:Int);lia) "";simpa using this
  have c:ixD (.list (bW.map qw)) (.int (k:Int))=some (.str (bW.getD k "")):=nm;refine⟨_,[.val (dN ns),.val (.int at'),.val (.int most),.val (.int (spanOf ns at')),.val (.list (bW.map .str)),.lst ((ql k).map (λk=>dM (a1L ns at' k))++[dM (a1L ns at' k)]),.val (.int k),.val (.int (iO ns at' k)),.val (.int (nA ns at' k))],rfl,.inl ?_,λ_=>⟨.val (.int k),.val (.int (iO ns at' k)),.val (.int (nA ns at' k)),by rw[List.range_succ,jC];rfl⟩⟩;simp only[List.set];rw[aO (ρ':=[.val (dN ns),.val (.int at'),.val (.int most),.val (.int (spanOf ns at')),.val (.list (bW.map .str)),.lst ((ql k).map λk=>dM (a1L ns at' k)),.val (.int k),.val (.int (iO ns at' k)),z]) (by simp[q,G,iO])];rw[aO (ρ':=[.val (dN ns),.val (.int at'),.val (.int most),.val (.int (spanOf ns at')),.val (.list (bW.map .str)),.lst ((ql k).map λk=>dM (a1L ns at' k)),.val (.int k),.val (.int (iO ns at' k)),.val (.int (nA ns at' k))]) (by simp[q,F,g,E,nA])];refine b9S (O:=(ql k).map λk=>dM (a1L ns at' k)) rfl (d:=dM (a1L ns at' k)) ?_ (by simp;lia);simp only[iZ,cI,b4U,b3K,b0y,dF,c,b8E];rfl);obtain⟨ρ',e,b⟩:=a;rw[jo,Nat.zero_add]at b;obtain⟨o,j,i,rfl⟩:=b (by lia);rw[aO (ρ':=[.val (dN ns),.val (.int at'),.val (.int most),.val (.int (spanOf ns at')),.val (.list (bW.map .str)),.lst ((ql (mI ns at' most)).map λk=>dM (a1L ns at' k)),o,j,i])];rotate_left;·rwa[a9N,a1g u]
 show retS (cQ mV (aB (var 5) aH)) [.val (dN ns),.val (.int at'),.val (.int most),.val (.int (spanOf ns at')),.val (.list (bW.map .str)),.val (.list ((ql (mI ns at' most)).map λk=>dM (a1L ns at' k))),o,j,i]=_;simp[nB,Function.comp_def]
abbrev a1C:EF:=fR (.nm 0) [none] (mW (var 0)) ttT (op2 ixD (var 0) (cst (.int 0)))
def xI:SF:=(retS a1C)
def fJ:List q8->Mm q8:=mC 1 1 xI
abbrev a8L:TF:=orT (lC (iS (op1 (isD "str") (var 0)))) (lC (c3a leD leD (cst (.int 1)) (cQ sX (aB (var 0) aH)) (cst (.int 4))))
abbrev a9H:EF:=fR (.nm 0) [none] (c4a (var 0)) ttT (c3b leD leD (cst (.str "a")) (var 0) (cst (.str "z")))
def b3a:SF:=(aY (ifS a8L (retS (cst (.bool false))) dG) (retS (cQ allB (aB a9H aH))))
def cR:List q8->Mm q8:=mC 1 1 b3a
def a9S:SF:=(retS (b3z (op1 (isD "int") (var 0)) (c1L (op1 (isD "bool") (var 0)))))
def fK:List q8->Mm q8:=mC 1 1 a9S
def iW:SF:=(retS (b3z (bC fK (aB (var 0) aH)) (b3z (bC fK (aB (var 1) aH)) (b6L leD ltD leD (cst (.int 0)) (var 0) (var 1) (cst (.int 480))))))
def fL:List q8->Mm q8:=mC 2 2 iW
abbrev a3L:TF:=orT (lC (iS (op1 (isD "tuple") (var 0)))) (bJ neD (cQ sX (aB (var 0) aH)) (cst (.int 3)))
def pV:SF:=(aY (ifS a3L (retS (cst (.bool false))) dG) (retS (b3z (bC cR (aB (op2 ixD (var 0) (cst (.int 0))) aH)) (bC fL (aB (op2 ixD (var 0) (cst (.int 1))) (aB (op2 ixD (var 0) (cst (.int 2))) aH))))))
def rD:List q8->Mm q8:=mC 1 1 pV
abbrev a6W:TF:=orT (lC (iS (op1 (isD "tuple") (var 0)))) (bJ gtD (cQ sX (aB (var 0) aH)) (cst (.int 16)))
abbrev tG:EF:=fR (.nm 0) [none] (mW (var 0)) ttT (bC rD (aB (var 0) aH))
abbrev a1n:TF:=lC (iS (cQ allB (aB tG aH)))
def tJ:SF:=(retS (a8o eqD (var 0) (op1 a6Y (var 0))))
def tW:List q8->Mm q8:=mC 1 1 tJ
def xK:SF:=(aY (ifS a6W (retS (cst (.bool false))) dG) (aY (ifS a1n (retS (cst (.bool false))) dG) (retS (bC tW (aB (bC fJ (aB (var 0) aH)) aH)))))
def gJ:List q8->Mm q8:=mC 1 1 xK
@[simp]theorem c6q a k fa Z:isE a k fa Z=bnd (fa Z) λx=>lft ((isB k x).map λt=>.bool (a !=t)):=rfl
@[simp]theorem c6p a k fa Z:isT a k fa Z=bnd (fa Z) λx=>lft ((isB k x).map λt=>a !=t):=rfl
@[simp]theorem c5M:isB (.bool true) (.bool true)=some true:=rfl
@[simp]theorem c5N:isB (.bool false) (.bool false)=some true:=rfl
@[simp]theorem c5I(O:T0l):isD "tuple" (.tuple O)=some (.bool true):=rfl
@[simp]theorem c5K i:isD "int" (.int i)=some (.bool true):=rfl
@[simp]theorem c5L i:isD "bool" (.int i)=some (.bool false):=rfl
@[simp]theorem c5J i:isD "str" (.str i)=some (.bool true):=rfl
@[simp]theorem c4K c b a fa fb e d Z:b6L c b a fa fb e d Z=bnd (fa Z) λx=>bnd (fb Z) λy=>bnd (lft (c x y)) λt=>if t then bnd (e Z) λz=>bnd (lft (b y z)) λu=>if u then bnd (d Z) λw=>lft ((a z w).map .bool)else some (.ok (.bool false))else some (.ok (.bool false)):=rfl
theorem all_bools(bs:List Bool):allB [.list (bs.map .bool)]=some (.bool (bs.all id)):=by show(iD uV (bs.map .bool)).map _=_;rw[yZ (g:=.bool) (λ_=>rfl) bs];rfl
theorem b9c{b e:Int}(h:0<=b/\b<e/\e<=480):fL [.int b,.int e]=some (.ok (.bool true)):=by
 have w:∀i:Int,fK [.int i]=some (.ok (.bool true)):=λi=>by kernel_rfl
 refine eE rfl ?_;show iW [.val (.int b),.val (.int e)]=_;simp[iW,w,h.1,h.2.1,h.2.2]
structure MtOk(m:Mt):Prop where
 name:cR [.str m.1]=some (.ok (.bool true))ok:jJ m.1=true
 times:0<=m.2.1/\m.2.1<m.2.2/\m.2.2<=480
theorem b3d(h:MtOk m):rD [dM m]=some (.ok (.bool true)):=by refine eE rfl ?_;show pV [.val (dM m)]=_;unfold pV;rw[aO (ρ':=[.val (dM m)]) (by rfl)];simp[h.name,b9c h.times]
theorem yO(s:List Mt)(b:s.length<=100000):fJ [dS s]=some (.ok (.list ((s.map (·.1)).map .str))):=by refine eE rfl ?_;show xI [.val (dS s)]=_;have a:a1C [.val (dS s)]=some (.ok (.list (s.map λm=>.str m.1))):=lV dM (λm=>[.val (dM m)]) (λm=>.str m.1) s (by rfl) b (λm _=>by rfl) (λm _=>by rfl);unfold xI;rw[dJ,a,qc];rfl
theorem b2c ns(h:ns.length<64):a6Y (.list (ns.map .str))=some (.list ((gW (mP ns)).map .str)):=by simp only[a6Y,b1Z,if_pos h]
theorem a8h:∀(ns b:T0q),(∀x∈ns,x∉b)->ns.Nodup->ns.foldl (λa n=>if n∈a then a else a++[n]) b=b++ns
 |[],b,_,_=>by simp|n::ns,b,h,hn=>by
  have d:=jy.mp hn;rw[List.foldl_cons,if_neg (h n (by simp)),a8h ns (b++[n]) (λx c=>?_) d.2,wL];·rfl
  ·simp only[qX,qV,not_or];exact⟨h x (by simp[c]),λz=>d.1 (z▸c)⟩
theorem b0c(h:ns.Nodup):mP ns=ns:=by unfold mP;rw[a8h ns [] (by simp) h];rfl
theorem a0X:∀(ns c:T0q),c.Nodup->(ns.foldl (λa n=>if n∈a then a else a++[n]) c).Nodup/\∀x∈ns.foldl (λa n=>if n∈a then a else a++[n]) c,x∈c\/x∈ns
 |[],c,h=>⟨h,λx d=>.inl d⟩|n::ns,c,h=>by
  rw[List.foldl_cons];split;·obtain⟨a,b⟩:=a0X ns c h;exact⟨a,λx d=>(b x d).imp id λz=>qF _ z⟩
  ·rename_i f;obtain⟨a,b⟩:=a0X ns (c++[n]) (by rw[jL];exact⟨h,by simp,λx d y e=>by rw[qV]at e;subst e;exactλz=>f (z▸d)⟩);refine⟨a,λx d=>?_⟩;obtain z|z:=b x d
   ·obtain z|z:=qX.mp z;·exact .inl z
    ·exact .inr (by rw[qV]at z;rw[z];simp)
   ·exact .inr (qF _ z)
theorem b3i(h:x∈mP ns):x∈ns:=((a0X ns [] .nil).2 x h).elim (λz=>by cases z) id
theorem a1R(h:∀x∈ns,jJ x=true):qY (.list (ns.map .str))=true:=a1S (n:=1) (λd a=>by obtain⟨i,b,rfl⟩:=qK.mp a;simpa[jD]using h i b) (λd a=>by obtain⟨i,_,rfl⟩:=qK.mp a;simp[jS]) (by decide)
theorem b9a{a b:T0q}(B:∀x∈a,jJ x=true)(c:∀x∈b,jJ x=true):eqD (.list (a.map .str)) (.list (b.map .str))=some (decide (a=b)):=by rw[a7X (a1R B) (a1R c),tK]
theorem a9Z(s:List Mt)(q:s.length<=16)(h:∀m∈s,MtOk m):gJ [dS s]=some (.ok (.bool (decide (s.map (·.1)=gW (mP (s.map (·.1))))))):=by
 refine eE rfl ?_;show xK [.val (dS s)]=_;have d:¬(16:Int)<(s.length:Nat):=by lia
 have j:tG [.val (dS s)]=some (.ok (.list ((s.map λ_=>true).map .bool))):=by rw[show(s.map λ_=>true).map wP=s.map λ_=>wP true by simp];exact lV dM (λm=>[.val (dM m)]) (λ_=>.bool true) s (by rfl) (by omega) (λm _=>by rfl) (λm g=>by simp[b3d (h m g)])
 have o:(s.map λ_=>true).all id=true:=by simp
 have i:a1n [.val (dS s)]=some (.ok false):=by show lC (iS (cQ allB (aB tG aH))) _=_;rw[c1K,b3N,a3z,cI,j];simp only[dF,a3C,a7M,all_bools,o,c0M,kW]
 have c:∀x∈s.map (·.1),jJ x=true:=λx e=>by obtain⟨m,g,rfl⟩:=qK.mp e;exact(h m g).ok
 unfold xK;rw[aO (ρ':=[.val (dS s)]) (by simp[d]),aO (ρ':=[.val (dS s)]) (by rw[tH,i];simp)];have f:=b2c (s.map (·.1)) (by rw[qD];exact Q0 ‹_› rfl);have k:=b9a (a:=s.map (·.1)) (b:=gW (mP (s.map (·.1)))) c (λx e=>c x (b3i ((bX _).mem_iff.mp e)));have p:tW [.list ((s.map (·.1)).map .str)]=some (.ok (.bool (decide (s.map (·.1)=gW (mP (s.map (·.1))))))):=by refine eE rfl ?_;show tJ [.val (.list ((s.map (·.1)).map .str))]=_;unfold tJ;rw[dJ,b6H];simp only[b0y,dF,b0S,f,a7M,k,Option.map_some,a5j]
 rw[dJ,a6H,cI,a6H,cI];simp only[b0y,dF,a3C,yO s (by omega),p,a5j]
theorem a8a(s:List Mt)(c:s.length<=16)(h:∀m∈s,MtOk m)(e:(s.map (·.1)).Nodup)(d:(s.map (·.1)).Pairwise (λa b=>cZ a b=true)):gJ [dS s]=some (.ok (.bool true)):=by rw[a9Z s c h,b0c e,decide_eq_true (pE (bX _).symm d (gT _))]
theorem a9s:∀x∈bW,cR [.str x]=some (.ok (.bool true)):=by intro x a;simp only[bW,qM,kF,or_false]at a;obtain rfl|rfl|rfl|rfl|rfl|rfl|rfl|rfl|rfl|rfl:=a<;>kernel_rfl
theorem a9q:bW.Pairwise (λa b=>cZ a b=true):=by decide+kernel
theorem SheetOk.mt(S:SheetOk s):∀m∈s,MtOk m:=λm a=>by have t:=S.times m a;have q:m.1∈s.map (·.1):=qK.mpr ⟨m,a,rfl⟩;rw[S.names]at q;exact⟨a9s _ (List.mem_of_mem_take q),S.name_ok m a,by lia⟩
theorem SheetOk.pw(S:SheetOk s):(s.map (·.1)).Pairwise (λa b=>cZ a b=true):=by rw[S.names];exact a9q.sublist (vG _ _)
theorem SheetOk.yes(S:SheetOk s):gJ [dS s]=some (.ok (.bool true)):=a8a s (by have:=S.few;exact Q2 ‹_› rfl) S.mt S.nodup S.pw
theorem b9b i:fK [.int i]=some (.ok (.bool true)):=by kernel_rfl
@[simp]theorem c6x a b c d e(r:List α):atI (a::b::c::d::e::r) 4=some e:=by unfold atI ixN;rw[if_pos (by decide),if_pos (by simp<;>lia)];rfl
@[simp]theorem c6w a b c d e f(r:List α):atI (a::b::c::d::e::f::r) 5=some f:=by unfold atI ixN;rw[if_pos (by decide),if_pos (by simp<;>lia)];rfl
theorem bR{F:List q8->Mm q8}(a:aa Z=some (.ok O))(h:F O=some (.ok d)):bC F aa Z=some (.ok d):=by rw[a6H,a,dF,h]
theorem c0h(B:ft Z=some (.ok false))(a:fu Z=some (.ok false)):orT ft fu Z=some (.ok false):=by rw[c3Q,B,dF,if_neg (by decide),a]
theorem eY{g:List q8->Option q8}(a:aa Z=some (.ok O))(h:g O=some d):cQ g aa Z=some (.ok d):=by rw[a3z,a,dF,h];rfl
theorem yC(b:fa Z=some (.ok d))(a:a2t d=some O):mW fa Z=some (.ok O):=by rw[c1a,b,dF,a];rfl
noncomputable def prs{α:Type}:List α->List (α×α)|a::b::r=>(a,b)::prs (b::r)|_=>[]
noncomputable def c2r(m:Int)(x:Mt):Bool:=decide (x.2.1<=m)&&decide (m<x.2.2)
def b8y(s:List Mt)(m:Int):List Str:=(s.filter (c2r m)).map (·.1)
def c1Z(s:List Mt)(m:Int):Int:=((b8y s m).length:Nat)
section
variable{lo hi:Int}{r:T0s}
end
theorem ifF{t:TF}(h:t Z=some (.ok false)):aY (ifS t f dG) g Z=g Z:=aO (by rw[tH,a1g h];rfl)
end L2.L3
namespace L2.ST
open PySem PySem.W PyProof.Rows
section
variable{α β:Type}{lt:Nat->Nat->Bool}{n:Nat}
def run(lt:Nat->Nat->Bool):KasT α->α|.ret a=>a|.ask i j k=>run lt (k (lt i j))
def asks(n:Nat)(lt:Nat->Nat->Bool):KasT α->Prop|.ret _=>True|.ask i j k=>i<n/\j<n/\asks n lt (k (lt i j))
def Hq(n:Nat)(lt:Nat->Nat->Bool)(t:KasT α)(Q:α->Prop):Prop:=asks n lt t/\Q (run lt t)
theorem mL{a:α}{Q:α->Prop}(h:Q a):Hq n lt (.ret a) Q:=⟨trivial,h⟩
theorem a0S{k:Bool->KasT α}{Q:α->Prop}(b:i<n)(a:j<n)(h:Hq n lt (k (lt i j)) Q):Hq n lt (.ask i j k) Q:=⟨⟨b,a,h.1⟩,h.2⟩
theorem uG{f:α->KasT β}{Q:β->Prop}:∀{t:KasT α},Hq n lt t (λa=>Hq n lt (f a) Q)->Hq n lt (t.bind f) Q|.ret _,h=>h.2|.ask i j k,h=>a0S h.1.1 h.1.2.1 (uG (t:=k (lt i j)) ⟨h.1.2.2,h.2⟩)
theorem lO{t:KasT α}{Q b:α->Prop}(h:Hq n lt t Q)(c:∀a,Q a->b a):Hq n lt t b:=⟨h.1,c _ h.2⟩
theorem wp_run{s:Shared}(b:∀i j C,i<n->j<n->C (lt i j) s->cmp i j C s):∀ t{Q:α->Shared->Prop},asks n lt t->Q (run lt t) s->t.kasWp cmp Q s|.ret _,_,_,h=>h|.ask i j k,Q,a,h=>b i j _ a.1 a.2.1 (wp_run b (k (lt i j)) a.2.2 h)
end
variable{p:Array Nat}
section
variable{r:Nat->Int}{n:Nat}
noncomputable def vl(r:Nat->Int)(p:Array Nat)(k:Nat):Int:=r (p.getD k 0)
noncomputable def ltr(r:Nat->Int)(i j:Nat):Bool:=decide (r i<r j)
def Up(r:Nat->Int)(p:Array Nat)(k:Nat):Prop:=∀i j,i<=j->j<k->vl r p i<=vl r p j
def xS(r:Nat->Int)(p:Array Nat)(k:Nat):Prop:=∀i j,i<=j->j<k->vl r p j<=vl r p i
structure Pm(n:Nat)(p:Array Nat):Prop where
 size:p.size=n
 perm:p.Perm (ql n).toArray
theorem Pm.lt(h:Pm n p)(b:0<n) k:p.getD k 0<n:=by
 by_cases a:k<p.size
 ·have e:p.getD k 0=p[k]:=by simp[a]
  rw[e];have:p[k]∈(ql n).toArray:=h.perm.mem_iff.mp (Array.getElem_mem a);simpa using this
 ·have e:p.getD k 0=0:=by simp[a]
  rwa[e]
theorem Pm.rev(h:Pm n p) i j:Pm n (kas_rev p i j):=⟨by unfold kas_rev;rw[mirror_size];exact h.size,(mirror_perm _ _ _ _).trans h.perm⟩
theorem Pm.bub(h:Pm n p) i j:Pm n (bubble p i j):=⟨by rw[bubble_size];exact h.size,(bubble_perm _ _ _).trans h.perm⟩
theorem yM{q:Array Nat}(h:p[i]?=q[j]?):p.getD i 0=q.getD j 0:=by rw[zo,zo,h]
theorem a8C(a:j<=p.size) k:vl r (kas_rev p i j) k=if i<=k/\k<j then vl r p (i+j-1-k)else vl r p k:=by
 have e:=getElem?_mirror_all (i:=i) a k;unfold vl kas_rev;by_cases h:i<=k/\k<j;·rw[if_pos h]at e⊢;rw[yM e]
 ·rw[if_neg h]at e⊢;rw[yM e]
theorem b3J{a d:Nat}(hs:a<p.size)(c:d<=a) k:vl r (bubble p a d) k=if k=a-d then vl r p a else if a-d<k/\k<=a then vl r p (k-1)else vl r p k:=by
 have e:=getElem?_bubble hs d c k;unfold vl;by_cases h:k=a-d;·rw[if_pos h]at e⊢;rw[yM e]
 ·rw[if_neg h]at e⊢;by_cases b:a-d<k/\k<=a;·rw[if_pos b]at e⊢;rw[yM e]
  ·rw[if_neg b]at e⊢;rw[yM e]
theorem Up.snoc(h:Up r p k)(d:0<k)(b:vl r p (k-1)<=vl r p k):Up r p (k+1):=λi j a f=>by
 by_cases e:j=k
 ·subst e;by_cases c:i=j;·subst c;exact zn _
  ·exact Int.le_trans (h i (j-1) (by lia) (by omega)) b
 ·exact h i j a (by lia)
theorem xS.snoc(h:xS r p k)(d:0<k)(b:vl r p k<=vl r p (k-1)):xS r p (k+1):=λi j a f=>by
 by_cases e:j=k
 ·subst e;by_cases c:i=j;·subst c;exact zn _
  ·exact Int.le_trans b (h i (j-1) (by lia) (by omega))
 ·exact h i j a (by lia)
theorem b5N(P:Pm n p)(e:0<n):∀ f m,0<m->Up r p m->Hq n (ltr r) (kas_asc p f m) (λk=>m<=k/\k<=m+f/\Up r p k/\(k<m+f->vl r p k<vl r p (k-1)))
 |0,m,hm,h=>mL ⟨qQ _,qQ _,h,λz=>absurd z (by lia)⟩|f+1,m,hm,h=>by
  refine a0S (P.lt e _) (P.lt e _) ?_;by_cases c:r (p.getD m 0)<r (p.getD (m-1) 0);·rw[show ltr r (p.getD m 0) (p.getD (m-1) 0)=true from decide_eq_true c,if_pos rfl];exact mL ⟨qQ _,by lia,h,λ_=>c⟩
  ·rw[show ltr r (p.getD m 0) (p.getD (m-1) 0)=false from decide_eq_false c,if_neg (by simp)];exact lO (b5N P e f (m+1) (by exact Nat.lt_succ_of_lt ‹_›) (h.snoc hm (Int.not_lt.mp c))) (by rintro k⟨a,b,c,d⟩;exact⟨by exact Nat.le_of_lt ‹_›,by lia,c,λz=>d (by lia)⟩)
theorem a5t(b:j<=p.size)(a:∀k,i<=k->k<j->vl r p k=vl r p (j-1)) k:vl r (kas_rev p i j) k=vl r p k:=by
 rw[a8C b];by_cases h:i<=k/\k<j;·rw[if_pos h,a _ (by omega) (by omega),a k h.1 h.2]
 ·rw[if_neg h]
theorem xS.cong(e:∀k,vl r p' k=vl r p k)(h:xS r p k):xS r p' k:=λi j a b=>by rw[e,e];exact h i j a b
theorem a6q(o:0<n):∀ f p m q,Pm n p->q<m->m+f<=n->xS r p m->(∀k,m-(q+1)<=k->k<m->vl r p k=vl r p (m-1))->Hq n (ltr r) (kas_desc f p m q) (λx=>Pm n x.1/\m<=x.2.1/\x.2.1<=m+f/\x.2.2<x.2.1/\xS r x.1 x.2.1/\∀k,x.2.1-(x.2.2+1)<=k->k<x.2.1->vl r x.1 k=vl r x.1 (x.2.1-1))
 |0,p,m,q,P,hq,hm,hd,he=>mL ⟨P,qQ _,qQ _,hq,hd,he⟩|f+1,p,m,q,P,hq,hm,hd,he=>by
  have one:∀t:Array Nat,∀k,m+1-(0+1)<=k->k<m+1->vl r t k=vl r t (m+1-1):=λt k a b=>by rw[show k=m+1-1 by lia]
  refine a0S (P.lt o _) (P.lt o _) ?_;by_cases c:r (p.getD m 0)<r (p.getD (m-1) 0)
  ·rw[show ltr r (p.getD m 0) (p.getD (m-1) 0)=true from decide_eq_true c,if_pos rfl];have s:=hd.snoc (by omega) (wN c);by_cases u:q>0;·rw[if_pos u];have e:=a5t (i:=m-(q+1)) (j:=m) (by rw[P.size];lia) he;exact lO (a6q o f _ (m+1) 0 (P.rev _ _) (by omega) (by omega) (s.cong e) (one _)) λx⟨a,b,c,d,e,g⟩=>⟨a,by omega,by omega,d,e,g⟩
   ·rw[if_neg u];exact lO (a6q o f _ (m+1) 0 P (by omega) (by omega) s (one _)) λx⟨a,b,c,d,e,g⟩=>⟨a,by omega,by omega,d,e,g⟩
  ·rw[show ltr r (p.getD m 0) (p.getD (m-1) 0)=false from decide_eq_false c,if_neg (by simp)];refine a0S (P.lt o _) (P.lt o _) ?_;by_cases w:r (p.getD (m-1) 0)<r (p.getD m 0);·rw[show ltr r (p.getD (m-1) 0) (p.getD m 0)=true from decide_eq_true w,if_pos rfl];exact mL ⟨P,qQ _,wR _ _,hq,hd,he⟩
   ·rw[show ltr r (p.getD (m-1) 0) (p.getD m 0)=false from decide_eq_false w,if_neg (by simp)];have v:vl r p m=vl r p (m-1):=by unfold vl;lia
    refine lO (a6q o f p (m+1) (q+1) P (by lia) (by omega) (hd.snoc (by omega) (by lia)) λk a b=>?_) λx⟨a,b,c,d,e,g⟩=>⟨a,by omega,by omega,d,e,g⟩;rw[show m+1-1=m by lia,v];by_cases y:k=m;·rw[y,v]
    ·exact he k (by lia) (by lia)
theorem xS.rev(P:Pm n p)(b:m<=n)(h:xS r p m):Up r (kas_rev p 0 m) m:=λi j a c=>by rw[a8C (by rw[P.size];omega),a8C (by rw[P.size];omega),if_pos (by lia),if_pos (by lia)];exact h _ _ (by omega) (by omega)
abbrev c3k(r:Nat->Int)(n:Nat)(x:Nat×Array Nat):Prop:=Pm n x.2/\0<x.1/\x.1<=n/\Up r x.2 x.1
theorem b5M(e:0<n){m:Nat}(P:Pm n p)(i:0<m)(f:m<=n)(g:xS r p m):Hq n (ltr r) (kas_tail3 m n p) (c3k r n):=by refine uG (lO (b5N (P.rev 0 m) e (n-m) m i (g.rev P f)) λk⟨a,b,c,d⟩=>mL ⟨P.rev 0 m,by lia,by lia,c⟩)
theorem a3k(f:0<n){m:Nat}(P:Pm n p)(j:m+1<=n)(i:xS r p (m+1)):Hq n (ltr r) (kas_descPart m n p) (c3k r n):=by
 refine uG (lO (a6q f (n-(m+1)) p (m+1) 0 P (by lia) (by omega) i (λk a b=>by rw[show k=m+1-1 by lia])) ?_);rintro x⟨a,b,c,d,e,g⟩;by_cases h:x.2.2>0;·rw[if_pos h];exact b5M f (a.rev _ _) (by lia) (by omega) (e.cong (a5t (by rw[a.size];omega) g))
 ·rw[if_neg h];exact b5M f a (by lia) (by omega) e
theorem b8Q(g:0<n)(P:Pm n p):Hq n (ltr r) (kas_count n p) (c3k r n):=by
 refine uG (lO (b5N P g (n-1) 1 (by decide) (λi j a b=>by rw[show i=j by lia];exact zn _)) ?_);rintro m⟨a,b,c,d⟩;by_cases h:(m==n)=true;·rw[if_pos h];exact mL ⟨P,by assumption,by lia,c⟩
 ·rw[if_neg h];have v:m<n:=by have:m≠n:=λz=>h (by rw[z];simp);lia
  have u:=d (by lia);by_cases B:m>1
  ·rw[if_pos B];refine a0S (P.lt g _) (P.lt g _) ?_;by_cases s:r (p.getD 0 0)<r (p.getD (m-1) 0);·rw[show ltr r (p.getD 0 0) (p.getD (m-1) 0)=true from decide_eq_true s,if_pos rfl];exact mL ⟨P,by assumption,by exact Nat.le_of_lt ‹_›,c⟩
   ·rw[show ltr r (p.getD 0 0) (p.getD (m-1) 0)=false from decide_eq_false s,if_neg (by simp)];have f:∀k,k<m->vl r p k=vl r p (m-1):=λk o=>by have A:=c 0 k (qx _) o;have y:=c k (m-1) (by lia) (by lia);have w:vl r p (m-1)<=vl r p 0:=Int.not_lt.mp s;lia
    have e:=a5t (r:=r) (i:=0) (j:=m) (by rw[P.size];exact Nat.le_of_lt ‹_›) (λk _ o=>f k o);refine a3k g (P.rev 0 m) (by assumption) (xS.cong e ?_);refine xS.snoc (λi j q t=>?_) (by assumption) (wN u);rw[f i (by exact Q6 ‹_› ‹_›),f j t];exact zn _
  ·rw[if_neg B];refine a3k g P (by assumption) (xS.snoc (λi j q t=>?_) (by assumption) (wN u));rw[show i=j by lia];exact zn _
theorem a6p(e:0<n)(P:Pm n p){k:Nat}(hu:Up r p k):∀ f l u,l<=u->u<=k->u-l<=f->(∀i,i<l->vl r p i<=vl r p k)->(∀i,u<=i->i<k->vl r p k<vl r p i)->Hq n (ltr r) (kas_place p k f l u) (λx=>x<=k/\(∀i,i<x->vl r p i<=vl r p k)/\∀i,x<=i->i<k->vl r p k<vl r p i)
 |0,l,u,B,h2,h3,a,b=>mL ⟨by lia,a,λi g d=>b i (by lia) d⟩|f+1,l,u,B,h2,h3,a,b=>by
  unfold kas_place;by_cases h:l>=u;·rw[if_pos h];exact mL ⟨by lia,a,λi g d=>b i (by lia) d⟩
  ·rw[if_neg h];refine a0S (P.lt e _) (P.lt e _) ?_;by_cases c:r (p.getD k 0)<r (p.getD ((l+u)/2) 0);·rw[show ltr r (p.getD k 0) (p.getD ((l+u)/2) 0)=true from decide_eq_true c,if_pos rfl];refine a6p e P hu f l ((l+u)/2) (by lia) (by lia) (by lia) a λi g d=>?_;have j:=c;exact Int.lt_of_lt_of_le j (hu _ _ g d)
   ·rw[show ltr r (p.getD k 0) (p.getD ((l+u)/2) 0)=false from decide_eq_false c,if_neg (by simp)];refine a6p e P hu f ((l+u)/2+1) u (by lia) (by omega) (by lia) (λi g=>?_) b;have j:=Int.not_lt.mp c;exact Int.le_trans (hu i ((l+u)/2) (by lia) (by lia)) j
theorem c0u(v:0<n):∀ f p k,Pm n p->0<k->k+f=n->Up r p k->Hq n (ltr r) (kas_bin f p k) (λq=>Pm n q/\Up r q n)
 |0,p,k,P,_,w,hu=>mL ⟨P,by rwa[show n=k by lia]⟩|f+1,p,k,P,h0,w,hu=>by
  refine uG (lO (a6p v P hu k 0 k (qx _) (qQ _) (by lia) (λi g=>absurd g (by lia)) (λi g w=>absurd g (by lia))) λl⟨a,b,c⟩=>?_);refine c0u v f _ (k+1) (P.bub _ _) (by exact Nat.lt_succ_of_lt ‹_›) (by lia) λi j e A=>?_;have u:k<p.size:=by rw[P.size];lia
  have z:=b3J (r:=r) u (show k-l<=k by omega) i;have y:=b3J (r:=r) u (show k-l<=k by omega) j;rw[show k-(k-l)=l by omega]at z y;rw[z,y];by_cases t:i=l
  ·rw[if_pos t];by_cases d:j=l;·rw[if_pos d];exact zn _
   ·rw[if_neg d,if_pos (by lia)];exact wN (c (j-1) (by lia) (by lia))
  ·rw[if_neg t];by_cases s:l<i/\i<=k;·rw[if_pos s,if_neg (by lia),if_pos (by lia)];exact hu _ _ (by lia) (by lia)
   ·rw[if_neg s];by_cases d:j=l;·rw[if_pos d];exact b i (by lia)
    ·rw[if_neg d];by_cases o:l<j/\j<=k;·rw[if_pos o];exact hu _ _ (by lia) (by lia)
     ·rw[if_neg o];exact hu _ _ e (by lia)
theorem h_sort(e:2<=n):Hq n (ltr r) (kas_sort n) (λq=>Pm n q/\Up r q n):=by
 refine uG (lO (b8Q (by exact Nat.le_of_lt ‹_›) ⟨by simp,Array.Perm.refl _⟩) ?_);rintro x⟨a,b,c,d⟩;by_cases h:x.1<n;·rw[if_pos h,show max x.1 1=x.1 by lia];exact c0u (by exact Nat.le_of_lt ‹_›) _ _ _ a b (by lia) d
 ·rw[if_neg h];exact mL ⟨a,by rwa[show n=x.1 by lia]⟩
end
end L2.ST
namespace L2.L3
open PySem PySem.Spec PyProof.Rows
def ltC:q8->q8->Bool|.int a,.int b=>decide (a<b)|.str a,.str b=>!cZ b a|_,_=>false
noncomputable def eqC:q8->q8->Bool|.int a,.int b=>a==b|.str a,.str b=>a==b|_,_=>false
def ltR:List q8->List q8->Bool|a::r,b::s=>if eqC a b then ltR r s else ltC a b|_,_=>false
noncomputable def gK:List Bool->List q8->Bool|[],[]=>true|true::g,.int _::r=>gK g r|false::g,.str _::r=>gK g r|_,_=>false
variable{a:List q8}
theorem lL(h:gK [] a=true):a=[]:=by cases a with|nil=>rfl|cons x r=>cases x<;>cases h
theorem sig_int(h:gK (true::g) a=true):∃i r,a=.int i::r/\gK g r=true:=by cases a with|nil=>cases h|cons x r=>cases x<;>first|exact⟨_,_,rfl,h⟩|cases h
theorem sig_str(h:gK (false::g) a=true):∃i r,a=.str i::r/\gK g r=true:=by cases a with|nil=>cases h|cons x r=>cases x<;>first|exact⟨_,_,rfl,h⟩|cases h
theorem a9E a:cZ a a=true:=by have:=nG a a;rwa[Bool.or_self]at this
theorem a6j:∀ g(a:T0l),gK g a=true->ltR a a=false|[],a,h=>by rw[lL h];rfl|true::g,a,h=>by obtain⟨i,r,rfl,h⟩:=sig_int h;simp[ltR,eqC,a6j g r h]|false::g,a,h=>by obtain⟨i,r,rfl,h⟩:=sig_str h;simp[ltR,eqC,a6j g r h]
theorem a6i:∀ g(a b:T0l),gK g a=true->gK g b=true->ltR a b=true\/a=b\/ltR b a=true
 |[],a,b,h,c=>by rw[lL h,lL c];exact .inr (.inl rfl)|true::g,a,b,h,c=>by
  obtain⟨i,r,rfl,h⟩:=sig_int h;obtain⟨j,q,rfl,c⟩:=sig_int c;by_cases e:i=j
  ·subst e;obtain z|z|z:=a6i g r q h c;·exact .inl (by simp[ltR,eqC,z])
   ·exact .inr (.inl (by rw[z]))
   ·exact .inr (.inr (by simp[ltR,eqC,z]))
  ·by_cases l:i<j;·exact .inl (by simp[ltR,eqC,e,ltC,l])
   ·exact .inr (.inr (by have:¬j=i:=λz=>e z.symm;simp[ltR,eqC,this,ltC];lia))|false::g,a,b,h,c=>by
  obtain⟨i,r,rfl,h⟩:=sig_str h;obtain⟨j,q,rfl,c⟩:=sig_str c;by_cases e:i=j
  ·subst e;obtain z|z|z:=a6i g r q h c;·exact .inl (by simp[ltR,eqC,z])
   ·exact .inr (.inl (by rw[z]))
   ·exact .inr (.inr (by simp[ltR,eqC,z]))
  ·have f:¬j=i:=λz=>e z.symm;cases l:cZ j i with|false=>exact .inl (by simp[ltR,eqC,e,ltC,l])|true=>cases d:cZ i j with|false=>exact .inr (.inr (by simp[ltR,eqC,f,ltC,d]))|true=>exact absurd (a3a d l) e
theorem a9C:∀ g(a b c:T0l),gK g a=true->gK g b=true->gK g c=true->ltR a b=true->ltR b c=true->ltR a c=true
 |[],a,b,c,h,_,_,z,_=>by rw[lL h]at z;cases z|true::g,a,b,c,h,o,d,z,z'=>by
  obtain⟨i,r,rfl,h⟩:=sig_int h;obtain⟨j,q,rfl,o⟩:=sig_int o;obtain⟨k,u,rfl,d⟩:=sig_int d;simp only[ltR,eqC,ltC,beq_iff_eq]at z z'⊢;by_cases e:i=j
  ·subst e;rw[if_pos rfl]at z;by_cases f:i=k;·subst f;rw[if_pos rfl]at z'⊢;exact a9C g r q u h o d z z'
   ·rw[if_neg f]at z'⊢;exact z'
  ·rw[if_neg e]at z;by_cases f:j=k;·subst f;rwa[if_neg e]
   ·rw[if_neg f]at z';rw[decide_eq_true_eq]at z z';rw[if_neg (by lia)];exact decide_eq_true (by lia)|false::g,a,b,c,h,o,d,z,z'=>by
  obtain⟨i,r,rfl,h⟩:=sig_str h;obtain⟨j,q,rfl,o⟩:=sig_str o;obtain⟨k,u,rfl,d⟩:=sig_str d;simp only[ltR,eqC,ltC,beq_iff_eq]at z z'⊢;by_cases e:i=j
  ·subst e;rw[if_pos rfl]at z;by_cases f:i=k;·subst f;rw[if_pos rfl]at z'⊢;exact a9C g r q u h o d z z'
   ·rw[if_neg f]at z'⊢;exact z'
  ·rw[if_neg e]at z;by_cases f:j=k;·subst f;rwa[if_neg e]
   ·rw[if_neg f]at z';have t:cZ j i=false:=by simpa using z
    have s:cZ k j=false:=by simpa using z'
    have v:cZ i j=true:=by have:=nG i j;rwa[t,wE]at this
    have C:cZ j k=true:=by have:=nG j k;rwa[s,wE]at this
    have p:cZ k i=false:=by cases y:cZ k i with|false=>rfl|true=>rw[sY y v]at s;cases s
    have A:¬i=k:=λw=>by subst w;rw[a9E]at p;cases p
    rw[if_neg A,p];rfl
def ltT:q8->q8->Bool|.tuple a,.tuple b=>ltR a b|_,_=>false
def dU(g:List Bool):q8->Bool|.tuple a=>gK g a|_=>false
theorem iL(h:dU g d=true):∃a,d=.tuple a/\gK g a=true:=by cases d<;>first|exact⟨_,rfl,h⟩|cases h
section
variable{a b c:q8}
theorem b0Z(h:dU g a=true):ltT a a=false:=by obtain⟨x,rfl,h⟩:=iL h;exact a6j g x h
theorem a6g(h:dU g a=true)(h':dU g b=true):ltT a b=true\/a=b\/ltT b a=true:=by obtain⟨x,rfl,h⟩:=iL h;obtain⟨y,rfl,h'⟩:=iL h';exact(a6i g x y h h').imp id (Or.imp (λe=>by rw[e]) id)
theorem a6h(h:dU g a=true)(h':dU g b=true)(d:dU g c=true)(z:ltT a b=true)(e:ltT b c=true):ltT a c=true:=by obtain⟨x,rfl,h⟩:=iL h;obtain⟨y,rfl,h'⟩:=iL h';obtain⟨u,rfl,d⟩:=iL d;exact a9C g x y u h h' d z e
theorem c1Y(h:dU g a=true)(h':dU g b=true)(f:dU g c=true)(z:ltT b a=false)(d:ltT c b=false):ltT c a=false:=by cases e:ltT c a with|false=>rfl|true=>
  obtain q|q|q:=a6g h h';·rw[a6h f h h' e q]at d;cases d
  ·subst q;rw[e]at d;cases d
  ·rw[q]at z;cases z
end
def a9J(x:q8):List q8->List q8|[]=>[x]|y::l=>if ltT y x then y::a9J x l else x::y::l
def iT(l:T0l):List q8:=l.foldr a9J []
theorem a0R x:∀l:List q8,(a9J x l).Perm (x::l)
 |[]=>.refl _|y::l=>by
  unfold a9J;split;·exact((a0R x l).cons y).trans (.swap x y l)
  ·exact .refl _
theorem fM:∀l:List q8,(iT l).Perm l|[]=>.refl _|x::l=>(a0R x _).trans ((fM l).cons x)
abbrev a4g(l:T0l):Prop:=l.Pairwise λa b=>ltT b a=false
theorem a1D(hx:dU g x=true):∀l:List q8,(∀d∈l,dU g d=true)->a4g l->a4g (a9J x l)
 |[],_,_=>by simp[a9J]|y::l,h,hp=>by
  have b:=jh.mp hp;have c:=h y (by simp);unfold a9J;by_cases e:ltT y x=true
  ·rw[if_pos e,a4g,jh];refine⟨λz a=>?_,a1D hx l (λd i=>h d (qF _ i)) b.2⟩;rcases qM.mp ((a0R x l).mem_iff.mp a)with rfl|a;·cases q:ltT z y with|false=>rfl|true=>have:=a6h hx c hx q e;rw[b0Z hx]at this;cases this
   ·exact b.1 z a
  ·rw[if_neg e,a4g,jh];have f:ltT y x=false:=by simpa using e
   refine⟨λz a=>?_,hp⟩;obtain rfl|a:=qM.mp a;·exact f
   ·exact c1Y hx c (h z (qF _ a)) f (b.1 z a)
theorem mY:∀l:List q8,(∀d∈l,dU g d=true)->a4g (iT l)|[],_=>.nil|x::l,h=>a1D (h x (by simp)) _ (λd a=>h d (qF _ ((fM l).mem_iff.mp a))) (mY l λd a=>h d (qF _ a))
theorem a7a:∀ l m,l.Perm m->(∀d∈l,dU g d=true)->a4g l->a4g m->l=m
 |[],m,hp,_,_,_=>by rw[List.nil_perm.mp hp]|x::l,[],hp,_,_,_=>by have:=hp.length_eq;simp at this|x::l,y::m,hp,h,B,h2=>by
  have b:=jh.mp B;have a:=jh.mp h2;have c:y∈x::l:=hp.mem_iff.mpr (by simp);have f:x∈y::m:=hp.mem_iff.mp (by simp);have e:x=y:=by
   obtain z|z:=qM.mp c;·exact z.symm
   ·obtain w|w:=qM.mp f;·exact w
    ·rcases a6g (h x (by simp)) (h y c)with u|u|u;·rw[a.1 x w]at u;cases u
     ·exact u
     ·rw[b.1 y z]at u;cases u
  subst e;rw[a7a l m (List.Perm.cons_inv hp) (λd i=>h d (qF _ i)) b.2 a.2]
theorem a1Q{l m:T0l}(a:l.Perm m)(h:∀d∈m,dU g d=true)(hs:a4g l):l=iT m:=a7a (g:=g) l (iT m) (a.trans (fM m).symm) (λd b=>h d (a.mem_iff.mp b)) hs (mY m h)
def rk(O:T0l)(i:Nat):Int:=((O.filter λx=>ltT x (O.getD i .none)).length:Nat)
theorem a6s{a:Type}{p q:a->Bool}:∀l:List a,(∀x∈l,p x=true->q x=true)->(l.filter p).length<=(l.filter q).length|[],_=>by simp|x::l,h=>by have d:=a6s l λy c=>h y (qF _ c);cases e:p x with
  |false=>rw[jV (by simp[e])];cases b:q x with|false=>rwa[jV (by simp[b])]|true=>rw[jE b,qZ];lia
  |true=>rw[jE e,jE (h x (by simp) e),qZ,qZ];lia
theorem b1m{b:Type}{p q:b->Bool}:∀l:List b,(∀x∈l,p x=true->q x=true)->(∃x∈l,p x=false/\q x=true)->(l.filter p).length<(l.filter q).length
 |[],_,⟨x,hx,_⟩=>by cases hx|x::l,h,⟨y,a,B,h2⟩=>by
  have f:=a6s l λy a=>h y (qF _ a);obtain rfl|a:=qM.mp a;·rw[jV (by simp[B]),jE h2,qZ];lia
  ·have d:=b1m l (λy a=>h y (qF _ a)) ⟨y,a,B,h2⟩;cases e:p x with
   |false=>rw[jV (by simp[e])];cases c:q x with|false=>rwa[jV (by simp[c])]|true=>rw[jE c,qZ];exact Nat.lt_succ_of_lt ‹_›
   |true=>rw[jE e,jE (h x (by simp) e),qZ,qZ];lia
theorem c0b(h:∀d∈O,dU g d=true)(s:i<O.length)(r:j<O.length):ltT (O.getD i .none) (O.getD j .none)=ST.ltr (rk O) i j:=by
 have o:O.getD i .none∈O:=by rw[qT,qG s];exact jR s
 have t:O.getD j .none∈O:=by rw[qT,qG r];exact jR r
 unfold ST.ltr rk;generalize O.getD i q8.none=a at*;generalize O.getD j q8.none=b at*;have c:=h a o;have k:=h b t;cases e:ltT a b with
 |true=>refine(decide_eq_true ?_).symm;have:=b1m (p:=λx=>ltT x a) (q:=λx=>ltT x b) O (λx f z=>a6h (h x f) c k z e) ⟨a,o,b0Z c,e⟩;lia
 |false=>refine(decide_eq_false ?_).symm;have:=a6s (p:=λx=>ltT x b) (q:=λx=>ltT x a) O (λx f z=>by
   obtain q|q|q:=a6g c k;·rw[e]at q;cases q
   ·subst q;exact z
   ·exact a6h (h x f) k c z q);lia
theorem a2Q(h:∀d∈O,dU g d=true){p:Array Nat}(P:ST.Pm O.length p)(e:ST.Up (rk O) p O.length):(p.toList.map λi=>O.getD i .none)=iT O:=by
 have w:p.toList.length=O.length:=by rw[qJ];exact P.size
 have k:(ql O.length).map (λi=>O.getD i .none)=O:=by refine wU (by simp) λi B s=>?_;simp[s]
 have o:(p.toList.map λi=>O.getD i .none).Perm O:=by have:=(zq.mp P.perm).map λi=>O.getD i q8.none;simp only[jc]at this;rwa[k]at this
 refine a1Q o h ?_;unfold a4g;rw[jK,List.pairwise_iff_getElem];intro i j r q c;have b:i<p.size:=by simpa using r
 have a:j<p.size:=by simpa using q
 have u:=e i j (jP c) (by rwa[P.size]at a);unfold ST.vl at u;have v:p.toList[i]=p.getD i 0:=by simp[b]
 have t:p.toList[j]=p.getD j 0:=by simp[a]
 rw[v,t];by_cases f:0<O.length;·rw[c0b h (P.lt f j) (P.lt f i)];exact decide_eq_false (by lia)
 ·rw[P.size]at b;lia
end L2.L3
namespace L2.L3
open PySem PySem.W PyProof.Rows PySem.Calls
variable{Q:Bool->Shared->Prop}{k:Bool}{o:Obj}
theorem b8p b m n t u(h:Q (decide (m<n)) s):wpAny (model prog w) A (oneLt' b (.int m t) (.int n u)) Q E s:=by cases b with|true=>exact oneLt_int h|false=>exact kat_one _ _ (lt_int h)
theorem b8o b m n t u(h:Q (decide (m.cps.toList<n.cps.toList)) s):wpAny (model prog w) A (oneLt' b (.str m t) (.str n u)) Q E s:=by cases b with|true=>exact oneLt_str h|false=>exact kat_one _ _ (lt_str h)
theorem a3w:∀ g(Y ys:T0m)(O es:T0l)(as bs:T0o) i,yb s.heap Y O as->yb s.heap ys es bs->gK g O=true->gK g es=true->Q (ltR O es) s->KatLex prog w A true false Q (Y.zip ys) i s
 |[],Y,ys,O,es,as,bs,i,r,r',h,a,q=>by have o:=lL h;have k:=lL a;subst o;subst k;cases r;cases r';exact kat_nil q|true::g,Y,ys,O,es,as,bs,i,r,r',h,a,q=>by obtain⟨m,j,rfl,h⟩:=sig_int h;obtain⟨n,f,rfl,a⟩:=sig_int a;cases r with|cons v d=>cases r' with|cons c b=>
  cases v;cases c;refine kat_cons (SeqAt.EqAt.int_int _ _ _ _ _ _ _ _ ?_);by_cases e:m=n;·subst e;rw[beq_self_eq_true];refine kat_yes (a3w g _ _ _ _ _ _ _ d b h a ?_);simpa[ltR,eqC]using q
  ·rw[beq_eq_false_iff_ne.mpr e];refine kat_no (b8p _ _ _ _ _ ?_);simpa[ltR,eqC,e,ltC]using q|false::g,Y,ys,O,es,as,bs,i,r,r',h,a,q=>by obtain⟨m,j,rfl,h⟩:=sig_str h;obtain⟨n,f,rfl,a⟩:=sig_str a;cases r with|cons v d=>cases r' with|cons c b=>
  cases v;cases c;refine kat_cons (SeqAt.EqAt.str_str _ _ _ _ _ _ _ _ ?_);by_cases e:m=n;·subst e;rw[beq_self_eq_true];refine kat_yes (a3w g _ _ _ _ _ _ _ d b h a ?_);simpa[ltR,eqC]using q
  ·rw[beq_eq_false_iff_ne.mpr e];refine kat_no (b8o _ _ _ _ _ ?_);have:ltR (.str m::j) (.str n::f)=decide (m.cps.toList<n.cps.toList):=by simp[ltR,eqC,e,ltC,cZ]
   rwa[<-this]
theorem c1e{v:Value}{e:q8}{as bs:T0o}(r:Reads s.heap v d as)(p:Reads s.heap u e bs)(h:dU g d=true)(h':dU g e=true)(q:Q (ltT d e) s):wpAny (model prog w) A (keyLt' (tuples' true) v u) Q E s:=by obtain⟨x,rfl,h⟩:=iL h;obtain⟨y,rfl,h'⟩:=iL h';cases r with|tuple t D z k=>cases p with|tuple i C j c=>
   refine kat_lt t z i j ?_;have sz:∀(g:List Bool)(x y:T0l),gK g x=true->gK g y=true->x.length=y.length:=by intro g;induction g with|nil=>intro x y h h';rw[lL h,lL h']|cons b g f=>intro x y h h';cases b with|true=>obtain⟨_,_,rfl,h⟩:=sig_int h;obtain⟨_,_,rfl,h'⟩:=sig_int h';simp[f _ _ h h']|false=>obtain⟨_,_,rfl,h⟩:=sig_str h;obtain⟨_,_,rfl,h'⟩:=sig_str h';simp[f _ _ h h']
   have o:∀{a:T0m}{O:T0l}{as:T0o},yb s.heap a O as->a.length=O.length:=by intro a;induction a with|nil=>intro O as r;cases r;rfl|cons v a f=>intro O as r;cases r with|cons _ r=>simp[f r]
   have H:=o k;have G:=o c;have F:=sz _ _ _ h h';rw[decide_eq_false (by rw[<-qJ,<-qJ];lia)];exact a3w g _ _ _ _ _ _ 0 k c h h' q
inductive Rows(h:Heap):List Value->List q8->Prop|nil:Rows h [] []|cons{v:Value}{vs:T0m}{d:q8}{O:T0l}{as:T0o}:Reads h v d as->Rows h vs O->Rows h (v::vs) (d::O)
theorem Rows.len(r:Rows h vs O):vs.length=O.length:=by induction r with|nil=>rfl|cons _ _ a=>simp[a]
theorem Rows.keeps{h h':Heap}(k:U9 h h'){vs:T0m}{O:T0l}(r:Rows h vs O):Rows h' vs O:=by induction r with|nil=>exact .nil|cons r _ a=>exact .cons (Reads.keeps k r) a
theorem Rows.at{vs:T0m}{O:T0l}(r:Rows h vs O):∀i,i<vs.length->∃as,Reads h (vs.getD i .none) (O.getD i .none) as:=by induction r with|nil=>intro i a;simp at a|cons r _ b=>intro i a;cases i with|zero=>exact⟨_,r⟩|succ i=>exact b i (by simpa using a)
theorem Rows.firsts{k:Bool}(r:Rows h vs O)(hs:∀d∈O,dU (k::g) d=true):∃fs:List Value,KatTups h vs fs/\fs.length=vs.length/\∀v∈fs,(k=true/\∃i t,v=.int i t)\/(k=false/\∃i t,v=.str i t):=by induction r with|nil=>exact⟨[],.nil,rfl,λv b=>by cases b⟩|@cons v vs d O as r _ q=>obtain⟨fs,t,l,a⟩:=q λd e=>hs d (qF _ e);obtain⟨x,rfl,j⟩:=iL (hs d (by simp));cases r with|tuple o p e c=>cases k with
   |true=>obtain⟨i,y,rfl,s⟩:=sig_int j;generalize b:wO _=vl at c;cases c with|cons z c=>cases z with|int _ f=>
    refine⟨.int i f::fs,KatTups.cons o p e (by rw[<-qk,b];rfl) t,by simp[l],λv b=>?_⟩
    ·obtain rfl|b:=qM.mp b;·exact .inl ⟨rfl,_,_,rfl⟩
     ·exact a v b|false=>obtain⟨i,y,rfl,s⟩:=sig_str j;generalize b:wO _=vl at c;cases c with|cons z c=>cases z with|str _ f=>
    refine⟨.str i f::fs,KatTups.cons o p e (by rw[<-qk,b];rfl) t,by simp[l],λv b=>?_⟩
    ·obtain rfl|b:=qM.mp b;·exact .inr ⟨rfl,_,_,rfl⟩
     ·exact a v b
theorem b2q(r:Rows s.heap vs O)(hs:∀d∈O,dU (k::g) d=true)(c:0<vs.length){Q:SortKind->Shared->Prop}(h:Q (tuples' true) s):wpAny (model prog w) A (keyKind' vs.toArray) Q E s:=by obtain⟨fs,t,l,a⟩:=r.firsts hs;cases k with
 |true=>
  refine kat_kind (T:=.type "int") t (by omega) (λv b=>?_) (by decide) h;obtain⟨_,i,t,rfl⟩|⟨z,_⟩:=a v b;·exact Looks.of_pure rfl
  ·cases z|false=>
  refine kat_kind (T:=.type "str") t (by omega) (λv b=>?_) (by decide) h;obtain⟨z,_⟩|⟨_,i,t,rfl⟩:=a v b;·cases z
  ·exact Looks.of_pure rfl
theorem sW{P:Fin->Shared->Prop}(ho:s.heap.get? a=some (v7 "list" vs.toArray n))(rd:Rows h0 vs O)(hk:∀b o,h0.get? b=some o->b≠a/\s.heap.get? b=some o)(hs:∀d∈O,dU (k::g) d=true)(h64:vs.length<64)(h:∀p:Array Nat,ST.Pm O.length p->(p.toList.map λi=>O.getD i .none)=iT O->P (.done (.ret .none)) {s with heap:=ub s.heap a vs (p.toList.map λi=>vs.getD i .none).toArray}):wpAny (model prog w) A (Builtin.«list.sort» ⟨[.ref a],[]⟩) P E s:=by
 have ln:=rd.len;rw[list_sort_plain];have ha:=qN ho;refine j0 (uo ho rfl ?_);refine j0 (ue ho rfl ?_);obtain⟨e1,ho1⟩:∃e1,(s.heap.update a (kD λ_=>#[])).get? a=some (v7 "list" #[] e1):=⟨_,yn ho (λ_=>#[])⟩;refine j0 (seqEpoch_at ho1 rfl ?_);refine j0 (wpAny_newTuple ?_);refine j0 (u6 ?_);refine k7 ?_;have ho6:(((s.heap.update a (kD λ_=>#[])).push (v7 "tuple" vs.toArray 0)).push (v7 "list" #[] 0)).get? a=some (v7 "list" #[] e1):=by rwa[Heap.get?_push_ne _ _ _ (by rw[size_push',Heap.size_update];exact qW (jn ha)),Heap.get?_push_ne _ _ _ (by rw[Heap.size_update];exact qW ha)]
 have rd6:Rows (((s.heap.update a (kD λ_=>#[])).push (v7 "tuple" vs.toArray 0)).push (v7 "list" #[] 0)) vs O:=rd.keeps λb o q=>by obtain⟨B,h2⟩:=hk b o q;refine qC _ (qC _ ?_);rwa[ki _ _ _ _ B]
 dsimp only;have hsz:vs.toArray.size=vs.length:=by simp
 by_cases h2:vs.toArray.size<2
 ·rw[if_pos h2,if_pos h2];refine j0 (j3 ?_);rw[StateT.run_pure];refine j0 (j3 ?_);refine j0 (seqEpoch_at ho6 rfl ?_);refine j0 (ue ho6 rfl ?_ (hsz2:=by rw[Array.size_map];show(pairsOf vs).size<=_;rw[pairsOf_size,wu];lia));simp only[bne_self_eq_false,if_false];refine j3 ?_;have hpm:ST.Pm O.length (ql vs.length).toArray:=by rw[ln];exact⟨by simp,Array.Perm.refl _⟩
  have hp:=h (ql vs.length).toArray hpm (a2Q hs hpm (λi j hij hj=>by rw[show i=j by lia];exact zn _));have e:(ql vs.length).map (λi=>vs.getD i kC)=vs:=by refine wU (by simp) λi B h2=>?_;simp[h2]
  have e2:((vs.toArray.zip vs.toArray).map (·.2))=vs.toArray:=by apply Array.toList_inj.mp;simp[List.map_snd_zip]
  simp only[e]at hp;rwa[<-e2]at hp
 ·rw[if_neg h2,if_neg h2];refine j0 (b2q (s:={s with heap:=_}) rd6 hs (by lia) ?_);have hq:=ST.h_sort (r:=rk O) (n:=vs.length) (by omega);refine j0 (v3 (kat_run (κ:=tuples' true) (ks:=vs) (vs:=vs) (s:={s with heap:=_}) (G:=λp s'=>s'={s with heap:=((s.heap.update a (kD λ_=>#[])).push (v7 "tuple" vs.toArray 0)).push (v7 "list" #[] 0)}/\ST.Pm vs.length p/\ST.Up (rk O) p vs.length)
   (Q:=λst' s'=>∃p:Array Nat,arrOf st'=p.map (kas_item (vs.toArray.zip vs.toArray))/\failedOf st'=none/\s'={s with heap:=((s.heap.update a (kD λ_=>#[])).push (v7 "tuple" vs.toArray 0)).push (v7 "list" #[] 0)}/\ST.Pm vs.length p/\ST.Up (rk O) p vs.length)
   rfl (by omega) h64 (λp' st' s' a1 a2 a3 a4=>⟨p',a2,a3,a4⟩)
   (ST.wp_run (n:=vs.length) (lt:=ST.ltr (rk O)) (λi j C hi hj hC=>?_) _ hq.1 ⟨rfl,hq.2⟩)) ?_ λ_ _ e=>e)
  ·obtain⟨as,ri⟩:=rd6.at i hi;obtain⟨bs,rj⟩:=rd6.at j hj;have mi:O.getD i .none∈O:=by rw[qT,qG (by omega)];exact jR (by omega)
   have mj:O.getD j .none∈O:=by rw[qT,qG (by omega)];exact jR (by omega)
   refine c1e ri rj (hs _ mi) (hs _ mj) ?_;rwa[c0b hs (by omega) (by omega)]
  ·rintro⟨⟨⟩,st'⟩s'⟨p,har,hf,rfl,hP,hU⟩;have hout:=kat_snds rfl har;refine j0 (seqEpoch_at ho6 rfl ?_);rw[hout];refine j0 (ue ho6 rfl ?_ (hsz2:=by rw[qS,qD,qJ,hP.size,wu];lia));rw[hf];simp only[bne_self_eq_false,if_false];rw[ln]at hP hU;exact j3 (h p hP (a2Q hs hP hU))
theorem a4a{Q:List Value->Shared->Prop}(k:T="list"\/T="tuple")(f:s.heap.get? l=some o)(j:o.cls=.type T)(i:o.data=.seq vs.toArray n)(q:vs.length<=j5)(p:∀h',(U9 s.heap h')->s.heap.objs.size<=h'.objs.size->Q vs {s with heap:=h'}):wpAny (model prog w) A (collect (.ref l)) Q E s:=by
 refine j0 (u0 (v4 F.entry_proto_collect ?_));rw[jU F.plain_proto_collect _];refine j0 (k9 ?_);refine j3 ⟨wy vh _,v4 F.entry_list_iadd ?_⟩;rw[jU vh _];have a:(s.heap.push {cls:=.type "list",data:=.seq ([]:T0m).toArray}).get? s.heap.objs.size=some {cls:=.type "list",data:=.seq ([]:T0m).toArray}:=qP _ rfl;have d:vB {s with heap:=s.heap.push {cls:=.type "list",data:=.seq ([]:T0m).toArray}} (.ref l) T:=⟨o,qC _ f,j⟩;show wpAny _ A.in1 (ju (.ref s.heap.objs.size) (.ref l) (.ref s.heap.objs.size)) _ _ _;refine j0 (ya d ?_);rw[if_pos (by obtain rfl|rfl:=k<;>simp)];refine j0 (uo (qC _ f) i ?_);refine j0 (uo a rfl ?_);rw[if_neg (by simp)];refine j0 (ue a rfl ?_ (qx _) (by rw[Array.size_append,qS,qS,kP];lia));have c:=kS (kD (·++vs.toArray)) a rfl;refine j3 ?_;refine j0 (wpAny_load c (j3 ?_));have e:(([]:T0m).toArray++vs.toArray).toList=vs:=by simp
 rw[e];refine p _ (λb r g=>?_) (by rw[Heap.size_update,size_push'];lia);rw[ki _ _ _ _ (qW (qN g))];exact qC _ g
theorem a8P{Q:T0a}{R:Array Value->Prop}(hT:T="list"\/T="tuple")(ho:s.heap.get? l=some o)(hc:o.cls=.type T)(hd:o.data=.seq vs.toArray n)(h64:vs.length<64)(sort:∀ A'(E':T0a) s' a k P,s'.heap.get? a=some (v7 "list" vs.toArray k)->(∀b o,s.heap.get? b=some o->b≠a/\s'.heap.get? b=some o)->(∀out,R out->P (.done (.ret .none)) {s' with heap:=ub s'.heap a vs out})->wpAny (model prog w) A' (Builtin.«list.sort» ⟨[.ref a],[]⟩) P E' s')(h:∀(a:Addr) h2 ep out,R out->(U9 s.heap h2)->s.heap.objs.size<=a->h2.get? a=some (v7 "list" out ep)->Q (.ref a) {s with heap:=h2}):wpAny (model prog w) A (call (.builtin "sorted") [.ref l]) Q E s:=by refine vT kind_sorted plain_sorted entry_sorted (args_sorted1 _) ?_;refine j0 (m:=checkCount "sorted" 1 1 _) (j3 ?_);refine j0 (a4a hT ho hc hd (by rw[wu];exact Q4 ‹_› rfl) λB kp up=>?_);refine j0 (u6 ?_ (by rw[wu];exact Q4 ‹_› rfl));have hoL:(B.push (v7 "list" vs.toArray 0)).get? B.objs.size=some (v7 "list" vs.toArray 0):=qP _ rfl;have keep:∀b o,s.heap.get? b=some o->b≠B.objs.size/\(B.push (v7 "list" vs.toArray 0)).get? b=some o:=λb o q=>⟨qW (qN (kp _ _ q)),qC _ (kp _ _ q)⟩;refine j0 (k7 (v8 slot_list_sort ⟨_,hoL,rfl⟩ entry_list_sort (sort _ _ {s with heap:=B.push (v7 "list" vs.toArray 0)} _ 0 _ hoL keep λout hR=>⟨_,rfl,?_⟩) (args_list_sort _)));obtain⟨e1,ho1⟩:∃e1,((B.push (v7 "list" vs.toArray 0)).update B.objs.size (kD λ_=>#[])).get? B.objs.size=some (v7 "list" #[] e1):=⟨_,yn hoL (λ_=>#[])⟩;have hz:=qN ho1;have ho6:=qC (v7 "list" #[] 0) (qC (v7 "tuple" vs.toArray 0) ho1);obtain⟨e2,ho2⟩:∃e2,(ub (B.push (v7 "list" vs.toArray 0)) B.objs.size vs out).get? B.objs.size=some (v7 "list" out e2):=⟨_,yn ho6 (λ_=>out)⟩;refine j3 ⟨_,rfl,h _ _ e2 out hR (λb o q=>?_) up ho2⟩;obtain⟨hb,hq⟩:=keep b o q;unfold ub;rw[ki _ _ _ _ hb];refine qC _ (qC _ ?_);rwa[ki _ _ _ _ hb]
end L2.L3
namespace L2.L3
open PySem PySem.W PyProof.Rows
noncomputable def a2s:List q8->Option (List Bool)|[]=>some []|.int _::r=>(a2s r).map (true::·)|.str _::r=>(a2s r).map (false::·)|_=>none
def c3C:q8->Option (List Bool)|.tuple a=>a2s a|_=>none
def a3M(O:T0l):Option q8:=match O with|[.tuple Y]=>(match c3C (Y.headD (.tuple [.int 0]))with|some (k::g)=>if Y.all (dU (k::g))&&decide (Y.length<64)then some (.list (iT Y))else none|_=>none)|_=>none
section
variable{U:List (Option V)}
theorem a5I(I:Inv X pz U H s):∀{Y:List V}{O:T0l}{us:T0m},RepAll X.K H Y O->bH Y us->Rows s.heap us O|_,_,_,.nil,.nil=>.nil|_,_,_,.cons r rr,.cons t tt=>by obtain⟨as,a⟩:=r.reads I t;exact .cons a (a5I I rr tt)
theorem RepAll.at{K:qB}{G:Hp}:∀{vs:List V}{O:T0l},RepAll K G vs O->∀i,i<vs.length->Rep K G (vs.getD i .non) (O.getD i .none)|_,_,.nil,i,h=>by simp at h|_,_,.cons r rr,0,_=>r|_,_,.cons r rr,i+1,h=>RepAll.at rr i (by simpa using h)
theorem RepAll.len{K:qB}{G:Hp}:∀{vs:List V}{O:T0l},RepAll K G vs O->vs.length=O.length|_,_,.nil=>rfl|_,_,.cons _ rr=>by simp[RepAll.len rr]
theorem RepAll.pick{K:qB}{G:Hp}{vs:List V}{O:T0l}(r:RepAll K G vs O):∀p:List Nat,(∀i∈p,i<vs.length)->RepAll K G (p.map λi=>vs.getD i .non) (p.map λi=>O.getD i .none)|[],_=>.nil|i::p,h=>.cons (r.at i (h i (by simp))) (RepAll.pick r p λj a=>h j (qF _ a))
theorem bH.at':∀{vs:List V}{us:T0m},bH vs us->∀i,i<vs.length->RelV (vs.getD i .non) (us.getD i .none)|_,_,.nil,i,h=>by simp at h|_,_,.cons r rr,0,_=>r|_,_,.cons r rr,i+1,h=>bH.at' rr i (by simpa using h)
theorem bH.pick{vs:List V}{us:T0m}(r:bH vs us):∀p:List Nat,(∀i∈p,i<vs.length)->bH (p.map λi=>vs.getD i .non) (p.map λi=>us.getD i .none)|[],_=>.nil|i::p,h=>.cons (bH.at' r i (h i (by simp))) (bH.pick r p λj a=>h j (qF _ a))
theorem b2h(I:Inv X pz U H s){p:Addr}{vs:List V}(h:SqL X.K H p vs\/SqT X.K H p vs):∃(its:T0m)(T:String)(o:Obj)(n:Nat),(T="list"\/T="tuple")/\s.heap.get? p=some o/\o.cls=.type T/\o.data=.seq its.toArray n/\bH vs its:=by
 obtain h|h:=h;·obtain⟨its,a,e,f⟩:=I.list h;obtain⟨o,b,d,n,c⟩:=e.isList;exact⟨its,"list",o,n,.inl rfl,b,d,c,a⟩
 ·obtain⟨its,a,⟨o,b,d,n,c⟩,f⟩:=I.tuple h;exact⟨its,"tuple",o,n,.inr rfl,b,d,c,a⟩
theorem a6F:lK X (.builtin "sorted") (λY H Q=>∃(p:Addr)(vs:List V)(O:T0l)(k:Bool)(g:List Bool),Y=[.ref p]/\SqT X.K H p vs/\RepAll X.K H vs O/\(∀d∈O,dU (k::g) d=true)/\O.length<64/\∀ l(b:T0t),H l=none->(∀i∈b,i<vs.length)->(b.map λi=>O.getD i .none)=iT O->Q (.ref l) (upd H l (.lst (b.map λi=>vs.getD i .non)))):=by
 rintro pz s U H Y us Q I r⟨p,vs,O,k,g,e,G,y,F,h64,q⟩;subst e;obtain⟨u,rfl,C⟩:=vals1 r;cases C;obtain⟨f,j,⟨o,J,S,n,N⟩,t⟩:=I.tuple G;have l1:=y.len;have l2:=j.length;have D:=a5I I y j;refine a8P (R:=λc=>∃b:List Nat,(∀i∈b,i<vs.length)/\b.length=O.length/\(b.map λi=>O.getD i q8.none)=iT O/\c=(b.map λi=>f.getD i kC).toArray) (.inr rfl) J S N (by omega) (λA' E' s' a k' P T keep hP=>sW T D keep F (by omega) λb A w=>hP _ ⟨b.toList,λi L=>?_,by rw[qJ];exact A.size,w,rfl⟩) (λa h2 ep c⟨b,z,K,w,v⟩E t g=>?_);·have:=(zq.mp A.perm).mem_iff.mp L;simp at this;lia
 ·subst v;have M:=I.hok.fresh t;refine⟨.ref a,_,I.laid (t':=s.toks) E t ?_,rfl,q _ b M z w⟩;refine⟨?_,b.map λi=>f.getD i kC,ep,bH.pick j _ z,?_⟩;·rw[qD,K];exact jP (oN (by exact Q4 ‹_› rfl))
  ·rw[g]
end
theorem a5x O d(h:a3M O=some d):CallD X (.builtin "sorted") O d:=by
 unfold a3M at h;split at h
 ·rename_i Y;split at h
  ·rename_i k g e;split at h;·rename_i a;rw[qE]at a;cases(qA h);exact⟨_,a6F,λp G H Q s r q=>by cases r with|cons r c=>cases c;cases r with|tuple i r=>exact⟨_,_,Y,k,g,rfl,rV s i,r.mono s,qp.mp a.1,of_decide_eq_true a.2,λl f b j o=>q _ _ _ (.put s b) (.list (.of aJ) (by rw[<-o];exact(r.pick f j).mono (Grow.put s b).gg))⟩⟩
   ·cases h
  ·cases h
 ·cases h
theorem wZ{k:Bool}(hs:∀d∈O,dU (k::g) d=true)(c:O.length<64):a3M [.tuple O]=some (.list (iT O)):=by cases O with|nil=>rfl|cons x Y=>
  have f:∀(g:List Bool)(a:T0l),gK g a=true->a2s a=some g:=by intro g;induction g with|nil=>intro a h;rw[lL h];rfl|cons b g e=>intro a h;cases b with|true=>obtain⟨i,r,rfl,h⟩:=sig_int h;simp[a2s,e r h]|false=>obtain⟨i,r,rfl,h⟩:=sig_str h;simp[a2s,e r h]
  obtain⟨a,rfl,j⟩:=iL (hs x (by simp));show(match a2s a with|some (k::g)=>_|_=>_)=_;rw[f _ _ j];exact if_pos (by rw[qE];exact⟨qp.mpr hs,decide_eq_true c⟩)
end L2.L3
namespace L2.L3
open PySem PySem.Spec PyProof.Rows
def cov(G:List (Int×Int))(m:Int):Prop:=∃p∈G,p.1<=m/\m<p.2
noncomputable def iv(p:Int×Int)(x:Int):Int:=if p.1<=x/\x<p.2 then 1 else 0
end L2.L3
namespace L2.L3
open PySem PySem.W PyProof.Rows
section
variable{x:Str}
def dfE(g:q8->q8->Option q8)(fa fb:EF):EF:=λZ=>match fa Z,fb Z with|some (.ok x),some (.ok y)=>lft (g x y)|_,_=>none
def c2y(i:Nat)(fa:EF):SF:=λZ=>match Z[i]? with|some (.lst O)=>bns (fa Z) Z λd=>(match a2t d with|some es=>if dI (O.length+es.length)then some (.nx (Z.set i (.lst (O++es))))else none|none=>none)|_=>none
def c3J(K:qB):V->List V->Hp->VK->Prop:=λx vs H Q=>∃l b Y zs,x=.ref l/\vs=[.ref b]/\H l=some (.lst Y)/\(SqL K H b zs\/SqT K H b zs)/\Y.length+zs.length<=j5/\Q .non (upd H l (.lst (Y++zs)))
theorem b8C:MtM X "list.extend" (c3J X.K):=by
 rintro L s U H x J v K Q I k p⟨l,b,Y,G,rfl,rfl,j,E,N,q⟩;cases k;obtain⟨u,rfl,t⟩:=p.one;cases t;obtain⟨z,c,n,r,P,e⟩:=I.lstM j;obtain⟨a,T,o,M,D,i,C,A,g⟩:=b2h I E;have w:=g.length;have y:=r.length;have f:c.toArray.size+a.toArray.size<=j5:=by rw[qS,qS];lia
 have d:¬(!c.toArray.isEmpty&&vi (c.toArray.size+a.toArray.size))=true:=by rw[b4W f,vq];exact qf
 refine v8 F.slot_list_extend ⟨_,e,rfl⟩ F.entry_list_extend ?_ (F.args_list_extend_2 _ _);show wpAny _ _ (ju (.ref l) (.ref b) .none) _ _ s;refine j0 (ya (T:=T) ⟨o,i,C⟩ ?_);rw[if_pos (by obtain rfl|rfl:=D<;>simp)];refine j0 (uo i A ?_);refine j0 (uo e rfl ?_);rw[if_neg d];refine j0 (ue e rfl ?_ (by rw[qS];lia) (by rw[Array.size_append];exact Q2 ‹_› rfl));refine j3 ⟨_,rfl,.non,_,I.lset (its':=c++a) (t':=s.toks) j e (by simp) (r.append g) ?_,rfl,q⟩;rw[qe];omega
theorem b9l i(h:DE X e fa)(u:U0 X i x:=by exact U1)(g:U8 X (.Name x p) "extend":=by rfl)(k:U4 X cp (e::[]):=by rfl)(f:(ap.endLine==cp.line)=true:=by rfl)(j:U5 X e []:=by rfl)(c:U6 X cp []:=by rfl)(y:wb (.Call (.Attribute (.Name x p) "extend" ap) [e] [] cp) none pos.line X.env=pure false:=by rfl):DS X (.Expr (.Call (.Attribute (.Name x p) "extend" ap) [e] [] cp) pos) (c2y i fa):=⟨λK s U H D I⟨Z,o,H0,Gz,G,w,R,q⟩=>uC (b0N vJ PySem.F.slot_list_extend PySem.F.type_list_extend b8C (cM u.1 u.2 u.3 u.4) (dC h.run fE j) g k f j c) y K s U H D I (by
  unfold c2y at w;split at w
  ·rename_i O C;obtain⟨a,Y,E,B,h2,T,r⟩:=R.own C;refine⟨.ref a,E,.inl ⟨rfl,Y,.of B⟩,sE R w q λd v Q H1 z P F t J=>?_⟩;split at t
   ·rename_i es N;split at t;·rename_i L;cases(qA t);obtain⟨b,S,rfl,M,A⟩:=pC z.sub N F;exact⟨a,_,Y,_,rfl,rfl,z.hh.lst B,M,by rw[r.length,A.length];exact lY L,J Q _ U (.refl _) (P.wrote C E ((r.mono z.gg).append A))⟩
    ·cases t
   ·cases t
  ·cases w)⟩
end
end L2.L3
namespace L2.L3
open PySem PySem.Spec PySem.Calls PyProof.Rows
section
variable{K:qB}
end
structure BM(mg:T0d)(base:Heap):Prop where ex:∃bm ob,mg "__builtins__"=some (.ref bm)/\bm≠ua/\bm≠j7/\base.get? bm=some ob/\ob.cls=.type "module"/\ob.dict=some ua/\ob.data=.plain
theorem a2l i j t u(v:Value):∀ n(l:T0m),l.length<=n->ur l->ur (l++[.int i t,.int j u,v]):=by intro n;induction n with
 |zero=>intro l b _;cases l with|nil=>trivial|cons a l=>cases b
 |succ n c=>
  intro l b h;unfold ur at h;split at h;·trivial
  ·rename_i rest;have d:rest.length<=n:=by simp only[qZ]at b;lia
   exact c rest d h
  ·cases h
theorem a5v(l:T0m) i j t u(v:Value)(h:ur l):ur (l++[.int i t,.int j u,v]):=a2l i j t u v l.length l (qQ _) h
theorem a3B{c e:Value} i j t u:∀(l:T0m),ur l->u9 p (l++[.int i t,.int j u,c])=some e->u9 p l=some e\/e=c
 |[],_,h=>by
  have h:(if(i==(p.line:Int)&&j==(p.col:Int))=true then some c else none)=some e:=h;split at h;·exact .inr (qA h).symm
  ·cases h|.int a _::.int b _::d::r,ht,h=>by
  have h:(if(a==(p.line:Int)&&b==(p.col:Int))=true then some d else u9 p (r++[.int i t,.int j u,c]))=some e:=h;show(if(a==(p.line:Int)&&b==(p.col:Int))=true then some d else u9 p r)=some e\/_;split at h;·rename_i f;rw[if_pos f];exact .inl h
  ·rename_i f;rw[if_neg f];exact a3B i j t u r ht h
theorem b5x{cl:T0f}{c P:Addr}{i:Expr}(hx:x∈fG)(ht:kH X.K x=some (c,P))(hc:X.env.code=.ref c)(hq:X.env.qual++"<lambda>"=lamQ x)(C:zX X.K c P=true)(M:BM X.mg X.base)(S:defaultsOf params X.env=([],[]))(T:closureFor scope X.env=pure cl)(I:Inv X pz U H s)(R:RepS X.K H0 Gz G H U Z)(h:∀f a ct pm H' s',Inv X pz U H' s'->Grow G H G H'->s'.heap.get? f=some (PySem.W.kla_obj "<lambda>" (lamQ x) params i scope cl pm a ct)->H' f=none->s.heap.objs.size<=f->H' a=some (cdO a (lamQ x))->Q (.ref f) s'):wpAny (model X.prog X.w) X.A (eval (.Lambda params i scope pos) X.env) Q E s:=by
 refine PySem.W.kla_eval S ?_;rw[hq];have A:=R.tab.1 x hx c P ht;generalize lamQ x=q at A h⊢;obtain⟨D,g,hT,hA⟩:=A;have r:=I.hok P _ g;have C0:=PySem.W.codeHd_of_K I.kIn C;have hg:=I.mod.glob.keeps I.bk;have hgP:j7≠P:=λz=>by obtain⟨o,es,ep,e,hd,_⟩:=hg;rw[z,r]at e;cases e;cases hd
 have hB:s.heap.BuiltinsAt X.mg P:=by obtain⟨bm,ob,b1,b2,b3,b4,b5,b6,b7⟩:=M.ex;refine⟨bm,ob,b1,b2,b3,λz=>?_,I.bk _ _ b4,b5,b6,b7⟩;have e:=I.bk _ _ b4;rw[z,r]at e;cases e;cases b5
 cases hm:u9 pos D.toList with|some cv=>obtain⟨a,rfl,hc'⟩:=hA pos cv hm;exact PySem.W.kla_makeFunctionHit T I.ok.glob hg hc C0 r hT hm hB λct h' tk K sz=>h _ a ct _ H _ (I.kept λb o e=>qC _ (K b o e)) (.refl R.sub) (qP _ rfl) (I.hok.fresh sz) sz hc'|none=>
  refine PySem.W.kla_makeFunction T I.ok.glob hg hc C0 r hT hm hgP hB λa ct h' tk ex ge lt rc tb=>?_;have hf:=I.hok.fresh ge;have cP:a≠P:=λz=>by rw[z,g]at hf;cases hf
  have lP:P≠X.env.locals:=λz=>by have:=I.free;rw[<-z,g]at this;cases this--the heap beside the table
  have K:∀b o,b≠P->s.heap.get? b=some o->(h'.push (PySem.W.kla_obj "<lambda>" q params i scope cl ((X.mg "__name__").getD .none) a ct)).get? b=some o:=λb o n e=>qC _ (ex b o n e);have F:=qg ge (jP lt);have j:∀b,b≠P->b≠a->upd (upd H P (.tbl (q,D++#[v2 pos.line,v2 pos.col,.ref a]))) a (cdO a (q)) b=H b:=λb n1 n2=>by rw[aE n2,aE n1]
  have HP:upd (upd H P (.tbl (q,D++#[v2 pos.line,v2 pos.col,.ref a]))) a (cdO a (q)) P=some (.tbl (q,D++#[v2 pos.line,v2 pos.col,.ref a])):=by rw[aE (jH cP),aJ]
  have nb:∀b o,s.heap.get? b=some o->b≠a:=λb o e=>qW (qU (qN e) ge);have v:∀b o,H b=some o->b≠a:=λb o e z=>by rw[z,hf]at e;cases e
  have nP:∀b,H b=none->b≠P:=λb e z=>by rw[z,g]at e;cases e
  have hsm:Sm H (upd (upd H P (.tbl (q,D++#[v2 pos.line,v2 pos.col,.ref a]))) a (cdO a (q))):=by
   refine⟨λb o e n=>?_,λb p e=>?_,λP' q' t=>?_⟩;·rwa[j b (λz=>by rw[z,g]at e;cases e;exact n _ rfl) (v b o e)]
   ·by_cases z:b=P;·rw[z];exact⟨_,HP⟩
    ·exact⟨p,by rwa[j b z (v b _ e)]⟩
   ·obtain⟨ps',g1,g2,g3⟩:=t;have N:∀d o,H d=some (cdO d o)->upd (upd H P (.tbl (q,D++#[v2 pos.line,v2 pos.col,.ref a]))) a (cdO a (q)) d=some (cdO d o):=λd o e=>by rwa[j d (λz=>by rw[z,g]at e;unfold cdO at e;cases e) (v d _ e)]
    by_cases z:P'=P
    ·subst z;rw[g]at g1;cases g1;refine⟨_,HP,?_,λp cv e=>?_⟩;·rw[Array.toList_append];exact a5v _ _ _ _ _ _ g2
     ·rw[Array.toList_append]at e;obtain e|rfl:=a3B _ _ _ _ _ g2 e;·obtain⟨d,e1,L⟩:=g3 p cv e;exact⟨d,e1,N d _ L⟩
      ·exact⟨a,rfl,aJ⟩
    ·refine⟨ps',by rwa[j P' z (v P' _ g1)],g2,λp cv e=>?_⟩;obtain⟨d,e1,L⟩:=g3 p cv e;exact⟨d,e1,N d _ L⟩
  have gw:Grow G H G (upd (upd H P (.tbl (q,D++#[v2 pos.line,v2 pos.col,.ref a]))) a (cdO a (q))):=by refine⟨.refl _,hsm,λb o e=>?_,λ_ e _=>e,id⟩;rw[j b (λz=>by have:=R.sub b o e;rw[z,g]at this;cases this;exact R.tab.2 _ _ e) (v b o (R.sub b o e))];exact R.sub b o e
  refine h h'.objs.size a ct _ _ _ (I.step (ch:=[]) (g':=s.gens) (d':=s.drawn) (t':=tk) (h':=h'.push (PySem.W.kla_obj "<lambda>" q params i scope cl ((X.mg "__name__").getD .none) a ct)) (λ_ z=>nomatch z) (λb o _ _ _ e n=>K b o (nP b n) e) (λb o _ _ _ e n=>⟨o.slots,K b o (nP b n) e⟩)
   (λb o _ e n=>by rwa[j b (nP b n) (nb b o e)]) (λb o _ e=>?_) (λb Y e=>by rwa[j b (bS e g (by nofun)) (v b _ e)]) (λb o u e=>by rwa[j b (bS e g (by nofun)) (v b _ e)]) (λb p e=>?_) (λm hn=>(hn.extBut ex (jH lP)).push _) (λb u e=>?_) I.bare) gw (qP _ rfl) ?_ F aJ
  ·by_cases z:b=P;·rw[z];exact⟨_,qC _ tb⟩
   ·exact⟨o,K b o z e⟩
  ·by_cases z:b=P;·subst z;rw[g]at e;cases e;exact⟨#[v2 pos.line,v2 pos.col,.ref a],HP⟩
   ·exact⟨#[],by rw[j b z (v b _ e),e];simp⟩
  ·by_cases z:b=a;·subst z;rw[aJ]at e;cases e;obtain⟨c2,o2,vs,t,e1,L,e3,e4⟩:=rc;cases e1;exact⟨⟨_,o2,vs,t,rfl,qC _ L,e3,e4⟩,⟨o2,qC _ L⟩,by rintro B h2⟨c3,o3,vs3,t3,g1,g2,g3,g4⟩k;cases g1;exact⟨_,o3,vs3,t3,rfl,k _ g2,g3,g4⟩⟩
   ·by_cases z2:b=P;·subst z2;rw[HP]at e;cases e;exact qC _ tb
    ·rw[j b z2 z]at e;refine(I.hok b u e).stay (λJ u' hb' w=>K J u' (λy=>?_) w) (λJ w=>by rw[j J (bS w g (by nofun)) (v J _ w)];exact w) λJ Y w=>by rw[j J (bS w g (by nofun)) (v J _ w)];exact w
     obtain y'|y':=hb';·exact z2 (y'.symm.trans y)
     ·rw[y,g]at y';cases y'
  ·have:=kJ lt;rw[j _ (λz=>absurd (qN r) (by rw[<-z];exact Nat.not_lt_of_le F)) this];exact I.hok.fresh F
end L2.L3
namespace L2.L3
open PySem PySem.W PyProof.Rows PySem.Calls
end L2.L3
namespace L2.L3
open PySem PySem.Spec PySem.Calls PyProof.Rows
section
variable{K:qB}{x:Str}
end
theorem a7L{f:Type}:∀{l:List (Addr×f)}{a:Addr}{b:f},l.lookup a=some b->(a,b)∈l|[],_,_,e=>by cases e|(c,y)::r,a,b,e=>by rw[kG]at e;cases d:a==c with|true=>rw[d]at e;cases e;rw[eq_of_beq d];exact .head _|false=>rw[d]at e;exact .tail _ (a7L e)
variable{ts:List (Addr×Str)}
theorem b2L{K:qB}{mb:T0d}{fa:Addr}{x:Str}{F:List q8->Mm q8}{s1z:Shared}{ns:T0s}(KX:K.In s1z.heap)(hns:s1z.heap.Ns j7 mg)(hb:s1z.heap.Ns ua mb)(hbb:∀x:Str,x≠"__name__"->mb x=wl x)(hlim:s1z.heap.NoLimit)(hg:s1z.gens=#[])(ha:s1z.heap.get? a=some {cls:=.type "list",data:=.seq vs.toArray})(hi:IntsAre vs ns)(hl:ns.length<=j5)(hr:Room k QN)(hbm:BM mg s1z.heap)(htab:∀T q,ts.lookup T=some q->s1z.heap.get? T=some (vo #[])/\isCodeTable s1z.heap T/\K.lookup T=none)(hts:∀x∈fG,∀c T,kH K x=some (c,T)->ts.lookup T=some (lamQ x))(Fn:∀base:Heap,K.In base->base.Ns j7 mg->BM mg base->FnOk P w K mg base CX0 k fa fd [x] (spD K λO d=>F O=some (.ok d)))(hbind:∀ s u,BindsTo s fd ⟨[u],[]⟩ [(x,u)])(hF:F [.list (ns.map .int)]=some (.ok (.bool true))):wn (model P w) QN (.call (.ref fa) ⟨[.ref a],[]⟩) (λr s'=>r=.ok (.ret (.bool true))/\OldK s1z.heap s'.heap/\s'.os=s1z.os/\um s'.gens) s1z:=by
 have rv:=a4h hi;have lenV:=hi.length;have core:∀S:Hp,c6b S->SqL K S a (ns.map V.int)->HOk P w S s1z.heap->(∀b,S b≠none->b=a)->(S a≠none->K.lookup a=none)->wn (model P w) QN (.call (.ref fa) ⟨[.ref a],[]⟩) (λr s'=>r=.ok (.ret (.bool true))/\OldK s1z.heap s'.heap/\s'.os=s1z.os/\um s'.gens) s1z:=by
  intro S hO hS hok hA hK;generalize hH:(λb=>match ts.lookup b with|some q=>some (HO.tbl (q,#[]))|none=>S b:Hp)=H;have H1:∀b q,ts.lookup b=some q->H b=some (.tbl (q,#[])):=λb q e=>by rw[<-hH];simp[e]
  have H2:∀b,ts.lookup b=none->H b=S b:=λb e=>by rw[<-hH];simp[e]
  have ta:∀b,S b≠none->ts.lookup b=none:=λb e=>by cases q:ts.lookup b with|none=>rfl|some q'=>have z:=hA b e;subst z;have:=(htab _ _ q).1;rw[ha]at this;cases this
  have SH:aT S H:=λb o e=>by rwa[H2 b (ta b (by rw[e];simp))]
  have hokH:HOk P w H s1z.heap:=λb u e=>by cases q:ts.lookup b with|some q'=>rw[H1 b q' q]at e;cases e;exact(htab _ _ q).1|none=>rw[H2 b q]at e;exact(hok b u e).stay (λ_ _ _ z=>z) (λb' z=>SH b' _ z) λb' Y z=>SH b' _ z
  have free:∀{b:Addr}{o:Obj},s1z.heap.get? b=some o->o≠vo #[]->o≠{cls:=.type "list",data:=.seq vs.toArray}->H b=none:=λ{b o}e n1 n2=>by cases q:ts.lookup b with|some q'=>exact absurd (qA (e.symm.trans (htab _ _ q).1)) n1|none=>rw[H2 b q];cases z:S b with|none=>rfl|some u=>have y:=hA b (by rw[z];simp);subst y;exact absurd (qA (e.symm.trans ha)) n2
  have base_of:∀{b:Addr}{o:Obj},s1z.heap.get? b=some o->H b=none->(a3X s1z.heap H).get? b=some o:=λe n=>b5L e n;have nsK:∀{b:Addr}{m:T0d},s1z.heap.Ns b m->(a3X s1z.heap H).Ns b m:=λ{b m}⟨o,es,ep,e,d,r⟩=>⟨o,es,ep,base_of e (free e (λz=>by rw[z]at d;cases d) λz=>by rw[z]at d;cases d),d,r⟩;have hKb:K.In (a3X s1z.heap H):=λb o e=>base_of (KX b o e) (by cases q:ts.lookup b with|some q'=>rw[(htab _ _ q).2.2]at e;cases e|none=>rw[H2 b q];cases z:S b with|none=>rfl|some u=>have y:=hA b (by rw[z];simp);subst y;rw[hK (by rw[z];simp)]at e;cases e);have hM:Mod K mg (a3X s1z.heap H):=⟨hKb,nsK hns,⟨mb,nsK hb,hbb⟩,let⟨mc,B,h2⟩:=hlim;⟨mc,nsK B,h2⟩⟩;have hB:BM mg (a3X s1z.heap H):=by obtain⟨bm,ob,b1,b2,b3,b4,b5,b6,b7⟩:=hbm.ex;exact⟨bm,ob,b1,b2,b3,base_of b4 (free b4 (λz=>by rw[z]at b5;cases b5) λz=>by rw[z]at b5;injection b5 with b5;exact absurd b5 (by decide)),b5,b6,b7⟩
  have e0:Env0 P w K mg (a3X s1z.heap H) QN [] s1z H:=⟨rfl,hM,λb o e=>b8q e,Nat.le_of_eq (b2Q _ _),trivial,λb hb=>absurd (show b∈([]:T0o)from hb) (by simp),hokH,.of_eq hg⟩;have tabs:iX K S H:=⟨λx hx c T e=>⟨#[],H1 _ _ (hts x hx c T e),trivial,λpos cv e=>by cases e⟩,λb ps e=>by obtain z|⟨o,Y,z⟩:=hO b<;>rw[z]at e<;>cases e⟩;refine wc ((Fn _ hKb (nsK hns) hB).run QN [] s1z H ⟨[.ref a],[]⟩ [.ref a] [.ref a] (λv _=>v=.bl true) E0 hr e0 (hbind s1z (.ref a)) (.cons rfl .nil) ⟨S,[.list (ns.map .int)],.bool true,⟨SH,tabs⟩,.cons (.list hS (yE ns)) .nil,hF,λv G' H' _ r=>by cases r;rfl⟩) λr s' h=>?_;cases r with|error e=>exact qz h|ok fl=>cases fl with|next=>exact qz h|brk=>exact qz h|cont=>exact qz h|ret u=>obtain⟨v,H',os,bare,un,hok',r',q⟩:=h;have q':=q;subst q';obtain rfl:u=jv true:=r';refine⟨rfl,⟨λb o e=>?_,λb o e=>un.there b o e (by simp)⟩,os,bare⟩;cases y:ts.lookup b with|some q2=>obtain⟨t1,t2,t3⟩:=htab _ _ y;rw[e]at t1;cases t1;obtain⟨more,em⟩:=un.tbls b _ (H1 b q2 y);exact .inr (.inl ⟨t2,rfl,#[],more,rfl,hok' b _ em⟩)|none=>cases q:S b with|none=>exact .inl (un.keep b o e (by rwa[H2 b y]) (by intro z;exact absurd (show b∈([]:T0o)from z) (by simp)) (by simp))|some u=>
      obtain z|⟨ob,Y,z⟩:=hO b;·rw[q]at z;cases z
      ·have z2:=un.frzs b ob _ (SH b _ z);obtain⟨e1,_⟩:=hok b _ z;obtain⟨e2,_⟩:=hok' b _ z2;rw[e]at e1;cases e1;exact .inl e2
 cases hk:K.lookup a with|some o=>have e:=KX a o hk;rw[ha]at e;cases e;refine core (λ_=>none) (λ_=>.inl rfl) (.inr ⟨_,vs.toArray,_,hk,rfl,rfl,rfl,by rwa[qS,lenV],by simpa using rv⟩) (λb u z=>by have z':=z;cases z') (λb z=>absurd rfl z) λz=>absurd rfl z|none=>
  refine core (λb=>if b=a then some (.frz {cls:=.type "list",data:=.seq vs.toArray} (.lst (ns.map V.int)))else none) (λb=>?_) (.inl (.inr ⟨{cls:=.type "list",data:=.seq vs.toArray},if_pos rfl⟩)) (λb u z=>?_) (λb z=>?_) λ_=>hk
  ·by_cases hb:b=a;·exact .inr ⟨_,_,if_pos hb⟩
   ·exact .inl (if_neg hb)
  ·by_cases hb:b=a;·have z':=(if_pos hb).symm.trans z;cases z';subst hb;exact⟨ha,by rwa[qD],vs,_,rv,ha⟩
   ·have z':=(if_neg hb).symm.trans z;cases z'
  ·by_cases hb:b=a;·exact hb
   ·exact absurd (if_neg hb) z
theorem walkL{l:PySem.W.OpenLaw}{q:Program}{g:T0q}{XP:(Str->Option Value)->Heap->Prop}{J:World->Heap->Prop}{d:DefRec}{K:Params->qB}{F:List q8->Mm q8}{x:Str}(ts:List (Addr×Str))(X:l.most=some 63)(A:d.params.defaults=[])(S:Room k QN)(hY:∀ w h,J w h->(K w.params).In h)(hT:∀ w h,J w h->∀p∈ts.map (·.1),h.get? p=some (vo #[]))(C:∀w:World,∀p∈ts,(∃c,zX (K w.params) c p.1=true)/\(K w.params).lookup p.1=none)(t:∀w:World,∀x∈fG,∀c T,kH (K w.params) x=some (c,T)->ts.lookup T=some (lamQ x))(Fn:∀ w(mg:T0d) fa h,(K w.params).In h->h.Ns j7 mg->mg d.name=some (.ref fa)->∃fd:wf,(∀ s u,BindsTo s fd ⟨[u],[]⟩ [(x,u)])/\∀base:Heap,(K w.params).In base->base.Ns j7 mg->BM mg base->FnOk l.prog w (K w.params) mg base CX0 k fa fd [x] (spD (K w.params) λO d=>F O=some (.ok d)))(hF:∀ns:List Int,ns.length<=63->F [.list (ns.map .int)]=some (.ok (.bool true))):PySem.W.WalkO q g XP J l.row.toRowW d [] (λf vs=>PySem.call f vs):=by
 refine Att.attach_call X A λw M r mg mb fa o pm cd doc a vs ns G R ho N P y j i b hg=>?_;have L:=hY w _ R;obtain⟨fd,hb,E⟩:=Fn w mg fa _ L G.T.g y;have D:BM mg r.heap:=by obtain⟨bm,ob,b1,b2,I,b4,b5,H⟩:=G.T.bmain;refine⟨bm,ob,b1,b2,λz=>?_,I,b4,b5,H⟩;obtain⟨o,es,ep,e,N,_⟩:=G.T.g;rw[z,e]at I;cases I;rw[N]at H;cases H
 refine b2L (ts:=ts) L G.T.g G.T.b G.T.builtins G.T.nolimit hg j i (qg b (by decide)) S D (λT q e=>?_) (t w) E hb (hF ns b);have m:=a7L e;have Q:=hT w _ R T (jm (f:=(·.1)) m);obtain⟨⟨c,hc⟩,v⟩:=C w _ m;exact⟨Q,((PySem.W.codeHd_of_K L hc).tab Q).isCodeTable,v⟩
def c0p(K:qB)(ts:List (Addr×Str))(x:Str):Bool:=match kH K x with|none=>true|some (_,T)=>ts.lookup T==some (lamQ x)
theorem lam_all{K:qB}(h:fG.all (c0p K ts)=true):∀x∈fG,∀c T,kH K x=some (c,T)->ts.lookup T=some (lamQ x):=λx a c T e=>by have:=qp.mp h x a;unfold c0p at this;rw[e]at this;exact eq_of_beq this
theorem all_cons{b:Type}{p:b->Prop}{a:b}{l:List b}(h:p a)(t:∀x∈l,p x):∀x∈a::l,p x:=List.forall_mem_cons.mpr ⟨h,t⟩
end L2.L3
namespace L2.L3
open PySem PySem.Spec PyProof.Rows
noncomputable def gr:List Mt->Option Int->List Mt|[],_=>[]|m::r,none=>m::gr r (some m.2.2)|m::r,some e=>if e<=m.2.1 then m::gr r (some m.2.2)else gr r (some e)
def c4d(kf:Mt->q8)(x:Mt):List Mt->List Mt|[]=>[x]|y::l=>if ltT (kf y) (kf x)then y::c4d kf x l else x::y::l
def c5l(kf:Mt->q8)(s:List Mt):List Mt:=s.foldr (c4d kf) []
section
variable{kf:Mt->q8}
end
theorem b2I{fb:SF}(B:tgD t Z d=some ρ1)(a:fb ρ1=some (.nx ρ2)):iU t fb (d::O) Z=iU t fb O ρ2:=by rw[iU,B];dsimp only;rw[a]
variable{nm:Str}{b z v:Int}{o:List Int}
section
variable{n:Nat}
end
section
variable{nm':Str}{b' z' v':Int}{n n':Nat}{o':T0s}
end
abbrev ov(x y:Mt):Prop:=max x.2.1 y.2.1<min x.2.2 y.2.2
section
variable{K:qB}{x:Str}
end
section
variable{a b:Expr}
end
end L2.L3
namespace L2.SX
open PySem PyProof.Rows
section
variable{K:Type}[DecidableEq K]{knd:KeyKind prog w K}
theorem a1E:entryFor table "dict.update.loop"=some Builtin.«dict.update.loop»:=entryFor_of_tree (by kernel_rfl)
theorem nE:plainId "dict.update.loop"=true:=by decide+kernel
theorem a6l:typeLookup (.type "list") "keys"=pure none:=am_miss_of_fast (by kernel_rfl)
theorem b2M{Y:Array Value}{n:Nat}{Q:Option Value->Shared->Prop}(hx:s.heap.get? a=some {cls:=.type "list",dict:=none,data:=.seq Y n,slots:=sl})(hA:A.handled=none)(h:∀h' tk,(U9 s.heap h')->Q none {s with heap:=h',toks:=tk}):wpAny (model prog w) A (getAttr? (.ref a) "keys") Q E s:=by
 obtain⟨hp,g,d,tk,os⟩:=s;have hT:∀tk',(⟨hp,g,d,tk',os⟩:Shared).TypeIs (.ref a) "list":=λ_=>⟨_,hx,rfl⟩;have f1:=sub_AttributeError;have f3:=vf.lookup;have f4:=vf.bind (.ref a);have f5:=am_list_getattr_none;have hmiss:=a6l;have hname:(["__module__","__name__","__qualname__","__doc__","__annotations__"]:T0q).contains "keys"=false:=by decide+kernel
 have hsz:("keys":Str).length+100<=j5:=by size_fits
 generalize("keys":Str)=name at hmiss hname hsz⊢;unfold getAttr? getAttrBy? getAttrBy;repeat(any_goals(first|assumption|exact hT _|((with_reducible show wpAny _ _ (call (vA "list.__getattribute__") _ _) _ _ _);refine QG vf (hT _) am_entry_list_getattribute (F.args_list_getattribute_2 _ _) (meets_getattribute_miss_list a Y n sl name _ hmiss hname hsz) ⟨hx,hA,λh' tk' e hx'=>?_⟩)|wp_step))
 obtain⟨t',u',he⟩:=hx'.there;show wpAny _ _ (getattributeRaised _ _ _ _ _ _ _) _ _ _;unfold getattributeRaised;repeat(any_goals(first|assumption|wp_step))
 exact h _ _ hx'.keeps
end
section
variable{K:Type}[DecidableEq K]{knd:KeyKind prog w K}{R:Result->Shared->Prop}{wr:T0o}{G:Array uu->Array uu->Prop}{n:Nat}{P:Nat->Value->Prop}{St:Nat->Shared->Prop}
theorem b6s(W:WalksS prog w A.in1 I fp wr G n P St) D(y:D∉fp){h₀:Heap}(M:∀b∈wr,h₀.get? b=none)(hD:h₀.get? D=none) prs(hn:prs.length=n)(r:∀i v,P i v->∃t o x C,v=.ref t/\h₀.get? t=some o/\o.cls=.type "tuple"/\(∃m,o.data=.seq #[x,C.2] m)/\knd.is C.1 x=true/\prs[i]?=some C)(hsz:n<=j5):∀ m i s,n-i=m->i<=n->St i s->(U9 h₀ s.heap)->s.heap.DictOf knd D (merged [] (prs.take i))->(∀s',Moved (D::wr) G s s'->(U9 h₀ s'.heap)->s'.heap.DictOf knd D (merged [] prs)->R (.ok (.ret .none)) s')->wn (model prog w) A (.builtin "dict.update.loop" ⟨[.ref D,.ref I,v2 (i:Int),.none],[]⟩) R s:=by
 have nw:D∉wr:=λz=>y (W.sub _ z);have up:∀b∈wr,b∈D::wr:=λb hb=>qF _ hb;have keep:∀{s s':Shared},Moved wr G s s'->(U9 h₀ s.heap)->∀b o,h₀.get? b=some o->s'.heap.get? b=some o:=λd k b o e=>d.heap b o (λz=>by rw[M b z]at e;cases e) (k b o e);intro m;induction m with|zero=>
  intro i s hm hi F L g N;obtain rfl:i=n:=by lia
  refine v4 a1E ?_;rw[jU nE _];show wpAny _ A.in1 (yq (.ref I)>>=_) _ _ s;refine j0 (W.done s _ _ F λs' d=>?_);show wpAny _ _ (Builtin.Dict.addKeywords D []>>=_) _ _ _;refine j0 (j3 (j3 (N s' (d.mono up) (keep d L) ?_)));rw[<-hn,List.take_length]at g;obtain⟨a,T,X,B,Q⟩:=g;exact⟨a,T,X,d.heap D a nw B,Q⟩|succ m ih=>
  intro i s hm hi F L g N;have lt:i<n:=by lia
  refine v4 a1E ?_;rw[jU nE _];refine j0 (W.item i s _ _ lt F λv s' pv E d=>?_);obtain⟨t,o,x,C,rfl,ho,hc,⟨mm,hd⟩,hk,hp⟩:=r i v pv;have f:=keep d L;have g':s'.heap.DictOf knd D (merged [] (prs.take i)):=by obtain⟨a,T,X,B,Q⟩:=g;exact⟨a,T,X,d.heap D a nw B,Q⟩
  have hT:s'.TypeIs (.ref t) "tuple":=⟨o,f t o ho,hc⟩;refine j0 (k7 (j0 (wpAny_tryCatch ?_)));refine j0 (ya hT ?_);rw[if_pos (by decide)];refine j0 (yj (f t o ho) hd (j3 ?_));have u:(merged [] (prs.take i)).length<=j5:=by have:=merged_length_le ([]:List (K×Value)) (prs.take i);rw[jj]at this;simp at this;lia
  refine k7 (wpAny_dictSet_pairs hk g' (λh' g2 H=>?_) u);rw[<-merged_take_succ _ _ _ _ hp]at g2;refine j3 ⟨wy nE _,ih (i+1) _ (by lia) lt (W.frame _ s' _ _ E (kj _) λc j a e=>?_) (λb a e=>?_) g2 λJ p q S=>?_⟩;·rwa[H.2 c (λz:c=D=>y (z▸j))]
  ·rw[H.2 b (λz:b=D=>by rw[z,hD]at e;cases e)];exact f b a e
  ·refine N J (Moved.trans W.gtrans ((d.mono up).then_heap (kj _) λc a j e=>?_) p) q S;rwa[H.2 c (λz:c=D=>j (by rw[z];exact qa))]
end
section
variable{K:Type}[DecidableEq K]{knd:KeyKind prog w K}
theorem dict_of(D:A.handled=none)(C:s.heap.get? l=some {cls:=.type "list",dict:=none,data:=.seq items n,slots:=sl})(N:prs.length=items.size)(f:∀(i:Nat) v,items[i]?=some v->∃t o x q,v=.ref t/\s.heap.get? t=some o/\o.cls=.type "tuple"/\(∃m,o.data=.seq #[x,q.2] m)/\knd.is q.1 x=true/\prs[i]?=some q)(hsz:prs.length<=j5)(h:∀ h' tk,h'.DictOf knd s.heap.objs.size (merged [] prs)->(U9 s.heap h')->Q (.ref s.heap.objs.size) {s with heap:=h',toks:=tk}):wpAny (model prog w) A (call (.type "dict") [.ref l]) Q E s:=by
 refine callType_codes (Q₁:=λobj d=>obj=.ref s.heap.objs.size/\d={s with heap:=s.heap.push {cls:=.type "dict",data:=.dict #[]}}) F.kt_called_dict (F.kt_typeCall_dict_1 _) F.entry_dict_init (kt_code_dict_new _ ⟨rfl,rfl⟩) ?_;rintro obj d⟨rfl,rfl⟩;have a:(s.heap.push {cls:=.type "dict",data:=.dict #[]}).DictOf knd s.heap.objs.size []:=Heap.DictOf.new s.heap;have c:(s.heap.push {cls:=.type "dict",data:=.dict #[]}).get? l=some {cls:=.type "list",dict:=none,data:=.seq items n,slots:=sl}:=qC _ C;have P:vB {s with heap:=s.heap.push {cls:=.type "dict",data:=.dict #[]}} (.ref l) "list":=⟨_,c,rfl⟩;have lt:=qN C;refine⟨a.typeIs,F.args_dict_init_2 _ _,?_⟩;refine j0 ?_;refine j0 (wpAny_notOrdered_dict a.typeIs ?_);refine j3 ?_;refine j0 (ya P ?_);rw[if_pos (by decide)];refine j0 (b2M (A:=A.in1.in1) c D λB I g=>?_);rw[if_pos (by rfl)];refine j0 (w9 ?_);have H:B.IsList l items:=⟨_,g _ _ c,rfl,n,rfl⟩;refine j0 (yd H ?_);have ltD:=qN (g _ _ (qP _ rfl));have L:=qW (vY lt ltD);have r:∀b o,s.heap.get? b=some o->(B.push {cls:=.type "list_iterator",data:=.fields #[.ref l,.int 0 0]}).get? b=some o:=λb o e=>qC _ (g b o (qC _ e));refine j3 ⟨wy nE _,?_⟩;refine b6s (knd:=knd) (A:=A.in1) ((Walks.list (A:=A.in1.in1) D B.objs.size l L items).toS) s.heap.objs.size ?_ (h₀:=s.heap) ?_ (zL (qQ _)) prs N f (by lia) (items.size-0) 0 _ (by lia) (qx _) ⟨⟨_,qP _ rfl,rfl,rfl⟩,H.push _⟩ r ?_ ?_
 ·intro z;obtain z|z:=qM.mp z;·exact absurd z (qW ltD)
  ·rw[qV]at z;exact absurd z (kJ lt)
 ·intro b G;rw[qV]at G;subst G;exact zL (jP ltD)
 ·obtain⟨K,X,ep,S,R⟩:=a;exact⟨K,X,ep,qC _ (g _ _ S),R⟩
 ·intro J p M T;obtain⟨h',u,y,j,k⟩:=J;obtain rfl:u=s.gens:=p.gens;obtain rfl:y=s.drawn:=p.drawn;obtain rfl:k=s.os:=p.os;exact⟨rfl,h h' j T M⟩
end
end L2.SX
namespace L2.L3
open PySem PySem.Spec PyProof.Rows
noncomputable def oG:q8->Option Key|.int i=>some (.inl i)|.str x=>some (.inr x)|_=>none
theorem a5d k:oG (cD k)=some k:=by cases k<;>rfl
variable{k:Key}
theorem gD(h:oG d=some k):d=cD k:=by
 unfold oG at h;split at h;·cases h;rfl
 ·cases h;rfl
 ·cases h
def rJ:q8->Option (Key×q8)|.tuple [k,v]=>(oG k).map (·,v)|_=>none
theorem b4O{p:Key×q8}(h:rJ d=some p):d=.tuple [cD p.1,p.2]:=by
 unfold rJ at h;split at h;·obtain⟨k,a,rfl⟩:=qH.mp h;rw[gD a]
 ·cases h
def a2U(kvs:List (Key×q8)):q8:=.dict (kvs.map λp=>(cD p.1,p.2))
def yP(O:T0l):Option q8:=match O with
 |[.list Y]=>match iD rJ Y with|some kvs=>if decide (kvs.map (·.1)).Nodup&&decide (kvs.length<=1000)then some (a2U kvs)else none|none=>none
 |_=>none
def dQ(k:Key):List (q8×q8)->Option q8|[]=>none|p::r=>if oG p.1=some k then some p.2 else dQ k r
def uM(x k:q8):Option q8:=match x,oG k with|.dict D,some k=>dQ k D|_,_=>none
noncomputable def uS(k:Key):List (Key×V)->Option V|[]=>none|p::r=>if p.1=k then some p.2 else uS k r
section
variable{K:qB}
theorem oV{k:Key}{d:q8}:∀{kvs:List (Key×V)}{D:List (q8×q8)},D.map (·.1)=kvs.map (λp=>cD p.1)->RepAll K G (kvs.map (·.2)) (D.map (·.2))->dQ k D=some d->∃v,uS k kvs=some v/\Rep K G v d
 |[],[],_,_,h=>by cases h|[],_::_,e,_,_=>by simp at e|_::_,[],e,_,_=>by simp at e|q::kvs,p::D,e,.cons r t,h=>by
  rw[qI,qI,zN]at e;unfold dQ at h;unfold uS;rw[e.1,a5d]at h;by_cases c:q.1=k;·rw[if_pos (by rw[c])]at h;rw[if_pos c];cases(qA h);exact⟨_,rfl,r⟩
  ·rw[if_neg (λz=>c (qA z))]at h;rw[if_neg c];exact oV e.2 t h
theorem a4Q{v:V}:∀{kvs:List (Key×V)}{vs:List (Key×Value)},KV kvs vs->uS k kvs=some v->∃u,uh vs k=some u/\RelV v u
 |_,_,.nil,h=>by cases h|q::kvs,p::vs,.cons r t,h=>by
  unfold uS at h;have e:uh (p::vs) k=if p.1=k then some p.2 else uh vs k:=by
   unfold uh;rw[kl];by_cases c:p.1=k;·rw[if_pos c];simp[c]
   ·rw[if_neg c];simp[c]
  rw[e];by_cases c:q.1=k;·rw[if_pos c]at h;rw[if_pos (r.1▸c)];cases(qA h);exact⟨_,rfl,r.2⟩
  ·rw[if_neg c]at h;rw[if_neg (λz=>c (r.1.trans z))];exact a4Q t h
theorem gB(r:Rep K G v (cD k)):v=kV k:=by cases k<;>(cases r;rfl)
end
section
variable{a:Expr}
theorem b8P{s:Shared}(I:Inv X pz U H s):wg<s.heap.objs.size:=by have h:=(I.mod.glob.keeps I.bk).lt;exact vY (by decide) h
theorem b1c{u:Value}(r:RelV (kV k) u):(bI P w).is k u=true:=by cases k with|inl i=>obtain⟨t,rfl⟩:=r;exact a1v P w i t|inr x=>obtain⟨t,rfl⟩:=r;exact a1u P w x t
def c5s:R2:=λx y H Q=>∃p kvs k v,x=.ref p/\y=kV k/\Rd H p (.dK kvs)/\uS k kvs=some v/\Q v H
theorem b1d:IxR X c5s:=by
 intro a b j s U H x y v u Q I i g h t;obtain⟨p,d,k,z,rfl,rfl,A,C,q⟩:=h;cases i;obtain⟨F,G,E,o,e⟩:=(show cU X.prog X.w H s.heap p (.dK d)from A.ok I.hok);obtain⟨w,D,c⟩:=a4Q o C;exact y4 (x:=w) e.typeIs slot_dict_getitem.lookup
  (wpAny_getItem_of (Q:=λr f=>r=w/\EP X j U Q r f) (b1c g) e.mapOf D ⟨rfl,z,H,I.tok _,c,q⟩) t
theorem a0Z(C:DE X a fa)(A:DE X b fb)(hs:a2i b:=by exactλ_ _=>rfl):DE X (.Subscript a b pos) (op2 uM fa fb):=⟨λt s U H Q I⟨Z,r,P,S,G,e,R,q⟩=>b4I b1d C.run A.run hs t s U H Q I (bE R e q.x λx v G1 N j L o J=>bE L J (q.more j).x λy u T M g R2 i F=>by
  obtain⟨d,c,rfl⟩:=bL F;unfold uM at c;split at c;·rename_i D k z;rw[gD z]at i;cases gB i;cases(o.mono g.gg)with|dict h K p=>obtain⟨w,E,f⟩:=oV K p c;exact⟨_,_,k,w,rfl,rfl,nD g.sub h,E,q w _ _ (j.trans g) f⟩
  ·cases c)⟩
theorem b4w{g:T0b}{U:St}{H:Hp}{s:Shared}(I:Inv X g U H s):∀{ts:List V}{kvs:List (Key×V)}{its:T0m},Paired (λt b=>∃a,t=V.ref a/\SqT X.K H a [kV b.1,b.2]) ts kvs->bH ts its->∃prs:List (Key×Value),KV kvs prs/\∀(i:Nat) v,its[i]?=some v->∃t o x b,v=.ref t/\s.heap.get? t=some o/\o.cls=.type "tuple"/\(∃m,o.data=.seq #[x,b.2] m)/\(bI X.prog X.w).is b.1 x=true/\prs[i]?=some b|_,_,_,.nil,.nil=>⟨[],.nil,λi v e=>by simp at e⟩|_,_,_,.cons ⟨a,e,hq⟩ t,.cons r rs=>by obtain⟨prs,B,q⟩:=b4w I t rs;subst e;cases r;obtain⟨its,c,⟨o,j,p,n,k⟩,y⟩:=I.tuple hq;obtain⟨u,w,rfl,f,d⟩:=vals2 c;rename_i b _ _ _;refine⟨(b.1,w)::prs,.cons ⟨rfl,d⟩ B,λi v e=>?_⟩;cases i with|zero=>simp at e;exact⟨a,o,u,(b.1,w),e.symm,j,p,⟨n,k⟩,b1c f,rfl⟩|succ i=>exact q i v (by simpa using e)
theorem c2b{vs:List (Key×Value)}(h:KV kvs vs):kvs.length=vs.length:=by have:=congrArg vL (yJ h).1;simpa using this
theorem a2N:∀{l:List α}{m:List β},Paired F l m->l.length=m.length|_,_,.nil=>rfl|_,_,.cons _ t=>by simp[a2N t]
theorem a5h(M:X.calm=true):lK X (.type "dict") (λY H Q=>∃(p:Addr)(ts:List V)(kvs:List (Key×V)),Y=[.ref p]/\SqL X.K H p ts/\Paired (λt(c:Key×V)=>∃a,t=V.ref a/\SqT X.K H a [kV c.1,c.2]) ts kvs/\(kvs.map (·.1)).Nodup/\kvs.length<=1000/\∀l,H l=none->Q (.ref l) (upd H l (.dK kvs))):=by
 rintro P s U H Y N Q I r⟨p,ts,kvs,e,J,w,nd,hz,q⟩;subst e;obtain⟨u,rfl,A⟩:=vals1 r;cases A;obtain⟨F,k,⟨o,n,K,j,f,g⟩,_⟩:=I.list J;obtain⟨prs,c,G⟩:=b4w I w k;obtain⟨S,R,D,C⟩:=o;subst j f g;have L:=I.ok.hd M;have l1:=c2b c;have l2:=a2N w;have T:=k.length;have b:=jP (oN (by omega));refine SX.dict_of (knd:=bI X.prog X.w) (prs:=prs) L K (by rw[qS];lia) (λi v e=>G i v (by simpa using e)) (by lia) λh' z y E=>?_;have d:(prs.map (·.1)).Nodup:=by rwa[<-(yJ c).1]
 rw[merged_nil_of_nodup prs d]at y;have big:=b8P I;have ne:=beq_eq_false_iff_ne.mpr (kJ big);exact⟨.ref s.heap.objs.size,_,I.laid (t':=z) (a:=s.heap.objs.size) (o:=.dK kvs) E (qQ _) ⟨b,ne,prs,c,y⟩,rfl,q _ I.fresh⟩
theorem a0C{K:qB}{G:Hp}:∀{ts:List V}{Y:T0l}{ks:List (Key×q8)},RepAll K G ts Y->iD rJ Y=some ks->∃kvs:List (Key×V),Paired (λt(c:Key×V)=>∃a,t=V.ref a/\SqT K G a [kV c.1,c.2]) ts kvs/\kvs.map (·.1)=ks.map (·.1)/\RepAll K G (kvs.map (·.2)) (ks.map (·.2))
 |_,_,_,.nil,h=>by cases(qA h);exact⟨[],.nil,rfl,.nil⟩|_,d::O,ks,.cons r t,h=>by
  unfold iD at h;split at h;·cases h
  ·rename_i q p;obtain⟨k,B,rfl⟩:=qH.mp h;obtain⟨kvs,j,i,g⟩:=a0C t B;rw[b4O p]at r;cases r with|tuple o b=>cases b with|cons f b=>cases b with|cons e b=>cases b;cases gB f;exact⟨(q.1,_)::kvs,.cons ⟨_,rfl,o⟩ j,by rw[qI,qI,i],.cons e g⟩
theorem b1v(hc:X.calm=true) O d(h:yP O=some d):CallD X (.type "dict") O d:=by
 unfold yP at h;split at h
 ·split at h
  ·rename_i Y ks e;split at h;·rename_i hh;rw[qE,decide_eq_true_eq,decide_eq_true_eq]at hh;cases(qA h);exact⟨_,a5h hc,λvs G H Q s r q=>by cases r with|cons r rr=>cases rr;cases r with|list hq r=>
      obtain⟨kvs,p1,p2,p3⟩:=a0C r e;have hl:kvs.length=ks.length:=by have:=congrArg vL p2;simpa using this
      refine⟨_,_,kvs,rfl,s.seq hq,Paired.mapP p1 (by rintro a b⟨t,e1,e2⟩;exact⟨t,e1,rV s e2⟩),by rw[p2];exact hh.1,by lia,λl hl=>?_⟩;refine q _ _ _ (.put s hl) (.dict (.inl aJ) ?_ ?_)
      ·rw[qc];have:ks.map ((λx=>x.1)∘λp:Key×q8=>(cD p.1,p.2))=(ks.map (·.1)).map cD:=by rw[qc];rfl
       rw[this,<-p2,qc];rfl
      ·rw[qc];exact p3.mono (cW (s.free hl))⟩
   ·cases h
  ·cases h
 ·cases h
theorem boot_dict:wl "dict"=some (.type "dict"):=by kernel_rfl
end
theorem RepAll.plain{K:qB}{G a:Hp}:∀{vs:List V}{O:T0l},O.all a9d=true->RepAll K G vs O->RepAll K a vs O|_,_,_,.nil=>.nil|_,_,h,.cons r t=>by rw[ja,qE]at h;exact .cons (r.plain h.1) (RepAll.plain h.2 t)
section
variable{cap:T0e}
end
noncomputable abbrev kL(m:Mt):q8:=.tuple [.int m.2.1,.int (-m.2.2),.str m.1]
def c5F(s:List Mt):List Mt:=c5l kL s
abbrev Ly:=Mt×Nat
noncomputable def taken(P:List Ly)(m:Mt):List Int:=(P.filter λp=>decide (ov m p.1)).map λp=>(p.2:Int)
theorem a8g{Y:T0l}{kvs:List (Key×q8)}(h:iD rJ Y=some kvs)(nd:(kvs.map (·.1)).Nodup)(a:kvs.length<=1000):yP [.list Y]=some (a2U kvs):=by unfold yP;dsimp only;rw[h];dsimp only;rw[if_pos (by rw[qE,decide_eq_true_eq,decide_eq_true_eq];exact⟨nd,a⟩)]
noncomputable def c0x:List Ly->Str->Nat|[],_=>0|p::P,x=>if p.1.1=x then p.2 else c0x P x
section
variable{L:List Mt}{P:List Ly}
end
def c1T(L:List Mt):Int:=if L=[]then 0 else c3Z (L.map λx=>c1Z L x.2.1)
noncomputable def b5P:List Mt->List Mt->Int->List (List Mt)|[],cur,_=>[cur]|m::l,cur,reach=>if m.2.1<reach then b5P l (cur++[m]) (max reach m.2.2)else cur::b5P l [m] m.2.2
def c4k:List Mt->List (List Mt)|[]=>[]|m::l=>b5P l [m] m.2.2
section
variable{K:qB}
end
section
variable{rest:List Stmt}
end
theorem yK x(ns:T0q):inX (.str x) (.list (ns.map .str))=some (decide (x∈ns)):=by show(Option.map _ (iD b2a (ns.map .str)))=_;rw[yZ (g:=.str) (λ_=>rfl) ns];rfl
theorem xL:∀{s:List Mt},(s.map (·.1)).Nodup->∀{a b:Mt},a∈s->b∈s->a.1=b.1->a=b
 |[],_,_,_,h,_,_=>by cases h|x::s,nd,a,b,ha,hb,e=>by
  rw[qI,jy]at nd;obtain g|d:=qM.mp ha
  ·obtain f|c:=qM.mp hb;·rw[g,f]
   ·exact absurd (qK.mpr ⟨b,c,by rw[<-e,g]⟩) nd.1
  ·obtain f|c:=qM.mp hb;·exact absurd (qK.mpr ⟨a,d,by rw[e,f]⟩) nd.1
   ·exact xL nd.2 d c e
structure NR(s:List Mt):Prop where
 nd:(s.map (·.1)).Nodup
 pw:(s.map (·.1)).Pairwise (λa b=>cZ a b=true)
variable{s:List Mt}
theorem NR.nodup(h:NR s):s.Nodup:=by have:=h.nd;rw[zK,jK]at this;exact this.imp λ{a b}n z=>n (by rw[z])
theorem NR.filter(h:NR s) p:NR (s.filter p):=⟨(vy.map _).nodup h.nd,h.pw.sublist (vy.map _)⟩
noncomputable def uH(s o:List Mt):List Str:=(s.map (·.1)).filter λx=>!decide (x∈o.map (·.1))
noncomputable def bM(s o:List Mt):List Str:=(s.filter λr=>!decide (r∈o)&&decide (r.1∈o.map (·.1))).map (·.1)
variable{o:List Mt}
theorem a9x{x:Str}:x∈bM s o↔∃r∈s,r.1=x/\r∉o/\x∈o.map (·.1):=by
 unfold bM;rw[qK];constructor;·rintro⟨r,b,rfl⟩;obtain⟨B,a⟩:=qy.mp b;simp only[qE,jr,decide_eq_false_iff_not,decide_eq_true_eq]at a;exact⟨r,B,rfl,a.1,a.2⟩
 ·rintro⟨r,B,rfl,a,c⟩;refine⟨r,qy.mpr ⟨B,?_⟩,rfl⟩;simp only[qE,jr,decide_eq_false_iff_not,decide_eq_true_eq];exact⟨a,c⟩
noncomputable def dZ(s o:List Mt):List Mt:=s++o.filter λr=>!decide (r∈s)
theorem a6d:m∈dZ s o↔m∈s\/m∈o:=by
 unfold dZ;rw[qX,qy];constructor
 ·rintro(h|h);·exact .inl h
  ·exact .inr h.1
 ·rintro(h|h);·exact .inl h
  ·by_cases z:m∈s;·exact .inl z
   ·exact .inr ⟨h,by simpa using z⟩
theorem b8G(c:NR o)(h:bM s o=[]){q:Mt}(a:q∈o)(d:q.1∈s.map (·.1)):q∈s:=by
 obtain⟨r,b,e⟩:=qK.mp d;by_cases z:r∈o;·rwa[<-xL c.nd z a e]
 ·have:r.1∈bM s o:=a9x.mpr ⟨r,b,rfl,z,e▸jm (f:=(·.1)) a⟩;rw[h]at this;cases this
theorem a8H(hs:NR s)(c:NR o)(h:bM s o=[]):((dZ s o).map (·.1)).Nodup:=by unfold dZ;rw[jC,jL];refine⟨hs.nd,(c.filter _).nd,λa i b g e=>?_⟩;subst e;obtain⟨q,f,rfl⟩:=qK.mp g;obtain⟨B,d⟩:=qy.mp f;simp only[jr,decide_eq_false_iff_not]at d;exact d (b8G c h B i)
noncomputable def rowAt(u:List Mt)(x:Str):Mt:=(u.find? λr=>decide (r.1=x)).getD ("",0,0)
def a0D(u:List Mt):List Mt:=(gW (u.map (·.1))).map (rowAt u)
variable{u:List Mt}
theorem a0A(nd:(u.map (·.1)).Nodup){m:Mt}(a:m∈u):rowAt u m.1=m:=by unfold rowAt;cases h:u.find? λr=>decide (r.1=m.1)with|none=>have:=zw.mp h m a;simp at this|some r=>have B:=List.find?_some h;simp only[decide_eq_true_eq]at B;exact xL nd (vC h) a B
theorem a4I(nd:(u.map (·.1)).Nodup):(a0D u).map (·.1)=gW (u.map (·.1)):=by unfold a0D;rw[qc];refine(zh λx a=>?_).trans (List.map_id' _);obtain⟨m,b,rfl⟩:=qK.mp ((bX _).mem_iff.mp a);show(rowAt u m.1).1=m.1;rw[a0A nd b]
theorem a9j(nd:(u.map (·.1)).Nodup):NR (a0D u):=⟨by rw[a4I nd];exact(bX _).nodup_iff.mpr nd,by rw[a4I nd];exact gT _⟩
theorem a6f(nd:(u.map (·.1)).Nodup) m:m∈a0D u↔m∈u:=by
 unfold a0D;rw[qK];constructor;·rintro⟨x,a,rfl⟩;obtain⟨k,b,rfl⟩:=qK.mp ((bX _).mem_iff.mp a);rwa[a0A nd b]
 ·intro h;exact⟨m.1,(bX _).mem_iff.mpr (jm (f:=(·.1)) h),a0A nd h⟩
theorem a7z(nd:(u.map (·.1)).Nodup):(a0D u).Perm u:=(kz (a9j nd).nodup (by rw[zK,jK]at nd;exact nd.imp λ{a b}n z=>n (by rw[z]))).mpr (a6f nd)
theorem xZ(nd:(u.map (·.1)).Nodup):iT (u.map dM)=(a0D u).map dM:=by
 symm;refine a1Q (g:=[false,true,true]) ((a7z nd).map _) (λd f=>by obtain⟨m,_,rfl⟩:=qK.mp f;rfl) ?_;unfold a4g;rw[jK];have h:=a9j nd;have e:=h.pw;have c:=h.nd;rw[jK]at e;rw[zK,jK]at c;refine(e.and c).imp λ{a b}z=>?_;show(if eqC (.str b.1) (.str a.1)then ltR [.int b.2.1,.int b.2.2] [.int a.2.1,.int a.2.2]else ltC (.str b.1) (.str a.1))=false;have ne:eqC (.str b.1) (.str a.1)=false:=by show(b.1==a.1)=false;simp;exactλw=>z.2 w.symm
 rw[ne];show(!cZ a.1 b.1)=false;rw[z.1];rfl
end L2.L3
namespace L2.L3
open PySem PySem.Spec PyProof.Rows PySem.W PySem.Builtin PySem.Builtin.ObjectAttr PySem.Builtin.Getset_descriptor
noncomputable abbrev c3e:List Value:=[.type "ValueError",.type "Exception",.type "BaseException",.type "object"]
structure XCls(K:Frag)(C:Addr):Prop where
 ex:excIn K C c3e "ValueError.__new__"=true
 ga:findIn K (.ref C) "__getattribute__"=some (some (.builtin "BaseException.__getattribute__"))nga:findIn K (.ref C) "__getattr__"=some none
 cl:findIn K (.ref C) "__class__"=some (some (.builtin "object.__class__"))ob:mroIn K C (.type "object")=some true
theorem XCls.obj{K:Frag}{h:Heap}(x:XCls K C)(X:K.In h):∃j N nm q bs d k sub s a r k0 i g f e u,h.get? C=some (excClassObj nm q C N bs j d k sub s a r k0 i g f e "ValueError.__new__")/\h.Ns N u/\u "__init__"=none/\OwnTail h c3e j:=by
 have q:=x.ex;unfold excIn at q;split at q
 ·rename_i r H t D;split at q
  ·rename_i I j k0 i g f n e E v;simp only[qE,beq_iff_eq,jr]at q;obtain⟨⟨⟨⟨⟨rfl,rfl⟩,c⟩,A⟩,b⟩,p⟩:=q;obtain⟨nm,bs,z,y,w,F,k,sub,s,a,G⟩:=H;subst E c;have o:t=#[k0,i,g,f,some (.builtin "ValueError.__new__"),e]:=by obtain⟨l⟩:=t;simp only at v;rw[v]
   subst o;exact⟨j,y,nm,w,bs,F,k,sub,s,a,r,k0,i,g,f,e,_,X _ _ D,.of_isNs (isNs_of_in X b),nsMap_none_of_in X b p,tail_of_in X A⟩
  ·cases q
 ·cases q
section
variable{K:Frag}{D:Addr}{ox:Obj}
theorem c0D{R:Result->Shared->Prop}{tp:Value}(x:XCls K C)(X:K.In s.heap)(I:ExO s.heap a C ox)(h:R (.ok (.ret (.ref C))) s):wn (model prog w) A (.call (.builtin "getset_descriptor.__get__") ⟨[.builtin "object.__class__",.ref a,tp],[]⟩) R s:=by
 obtain⟨hh,g,dr,t,os⟩:=s;have L0:=I.type (M:=model prog w);have L1:=looks_mroIn (M:=model prog w) X x.ob;refine yf KF.slot_gs.plain KF.entry_gs (KF.slot_gs.check _ _ _ _ _ _ _ _ KF.type_class (KF.args_gs _ _ _) ?_);unfold Builtin.«getset_descriptor.__get__»descrGet;rw[dga_obj];refine j0 (j3 ?_);unfold descrGetter descrCheckInstance descrNameAndClass QJ;simp only[KF.owner_class];repeat lk
 refine⟨Code.quiet_builtin _ (by decide+kernel),v4 KF.entry_class ?_⟩;repeat lk
 exact h
theorem b3E{tk:Tok}{Q:Fin->Shared->Prop}(x:XCls K C)(X:K.In s.heap)(I:ExO s.heap a C ox)(hq:Q (.done (.ret (.ref C))) s):wpAny (model prog w) A (Builtin.«object.__getattribute__» ⟨[.ref a,.str "__class__" tk],[]⟩) Q E s:=by
 obtain⟨hh,g,d,t,os⟩:=s;have L0:=I.type (M:=model prog w);have L3:=looks_findIn (M:=model prog w) X x.cl;have hT5:(⟨hh,g,d,t,os⟩:Shared).TypeIs (.builtin "object.__class__") "getset_descriptor":=PySem.F.typeOf_object_class;have f5:=PySem.F.typeOf_object_class;have f6:=PySem.F.slot_gs_get.lookup;have f7:=PySem.F.slot_gs_set.lookup;repeat(any_goals(first|assumption|with_reducible refine L0.at ?_|with_reducible refine L3.at ?_|wp_step))
 refine c0D x X I ?_;repeat(any_goals(first|assumption|wp_step))
theorem b3G{Q:Unit->Shared->Prop}(x:XCls K C)(X:K.In s.heap)(I:ExO s.heap a C ox)(hq:Q () s):wpAny M A (u8 "BaseException.__getattribute__" ⟨[.ref a,nameV],[]⟩) Q E s:=by
 obtain⟨bm,N,nm,q,bs,hdct,sn,sub,ab,col,dd,k0,k1,k2,k3,k5,mN,hC,hN,hni,T⟩:=x.obj X;obtain⟨hh,g,d,t,os⟩:=s;have hk:builtinKind "BaseException.__getattribute__"=some .slot:=by decide+kernel
 have hsplit:splitId "BaseException.__getattribute__"=some ("BaseException","__getattribute__"):=by decide+kernel
 have hcB:(qr C::bm).contains (.type "BaseException")=true:=by rw[List.contains_cons,T.hasType (X:="BaseException") (b:=true) rfl];rfl
 have ha:=PySem.F.args_bexc_ga (.ref a) nameV;simp only[u8,hk,hsplit];refine j0 ?_
 ·unfold QJ;repeat(first|(with_reducible refine u5 I.at_ ?_;rw[I.cls])|(with_reducible refine wpAny_isSubtype_exc hC ?_;rw[hcB])|wp_step)
  exact hq
theorem b7h{b:Tok}{R:Result->Shared->Prop}(x:XCls K C)(X:K.In s.heap)(I:ExO s.heap a C ox)(c:R (.ok (.ret (.ref C))) s):wn (model prog w) A (.call (.builtin "BaseException.__getattribute__") ⟨[.ref a,.str "__class__" b],[]⟩) R s:=yf PySem.F.attrBase_ValueError.ga.plain PySem.F.entry_bexc_ga (b3G x X I (b3E x X I c))
theorem c3o{tk:Tok}(x:XCls K C)(X:K.In s.heap)(I:ExO s.heap a C ox)(hq:Q (.ref C) s):wpAny (model prog w) A (getAttrBy (.ref a) (.str "__class__" tk) false) Q E s:=by
 obtain⟨hh,g,d,t,os⟩:=s;have L0:=I.type (M:=model prog w);have L1:=looks_findIn (M:=model prog w) X x.ga;have L2:=looks_findIn (M:=model prog w) X x.nga;have f3:=PySem.F.attrBase_ValueError.ga.bind (.ref a);have hx2:(vA "BaseException.__getattribute__"==vA "object.__getattribute__")=false:=by decide+kernel
 have hx1:(onTheHeap (qr C)&&vA "BaseException.__getattribute__"==vA "object.__getattribute__")=false:=by rw[hx2];rfl
 repeat(any_goals(first|assumption|with_reducible refine L0.at ?_|with_reducible refine L1.at ?_|with_reducible refine L2.at ?_|wp_step))
 refine b7h x X I ?_;repeat(any_goals(first|assumption|wp_step))
theorem b3F{Q:Option Value->Shared->Prop}(x:XCls K C)(X:K.In s.heap)(I:ExO s.heap a C ox)(c:Q (some (.ref C)) {s with toks:=s.toks+1}):wpAny (model prog w) A (getAttr? (.ref a) "__class__") Q E s:=by obtain⟨e,g,d,t,b⟩:=s;exact j0 (wpAny_mkText (j0 (ym (c3o (s:=⟨e,g,d,t+1,b⟩) x X I (j3 c)))))
theorem a5s{c:Value}{dep:Int}{tk:Tok}{Q:Fin->Shared->Prop}(x:XCls K C)(X:K.In s.heap)(I:ExO s.heap a C ox)(hty:Looks (model prog w) s.heap (typeOf c) (.type "type"))(his:Looks (model prog w) s.heap (isType c) true)(hne:(qr C==c)=false)(hsub:Looks (model prog w) s.heap (isSubtype (.ref C) c) false)(h:Q (.done (.ret (.bool false))) {s with toks:=s.toks+1}):wpAny (model prog w) A (Builtin.«isinstance.nested» ⟨[.ref a,c,.int dep tk],[]⟩) Q E s:=by
 obtain⟨bm,N,nm,q,bs,hdct,sn,sub,ab,col,dd,k0,k1,k2,k3,k5,mN,hC,hN,hni,T⟩:=x.obj X;have hisD:Looks (model prog w) s.heap (isType (.ref C)) true:=by intro A' Q' E' s' k q;exact j0 (wpAny_loadPart (k _ _ hC) (j3 q))
 obtain⟨h0,g,d,tt,os⟩:=s;have L0:=I.type (M:=model prog w);have LI:Looks (model prog w) h0 (QJ (.ref a) c) false:=L0.andThen hsub;refine j0 (L0.at ?_);rw[if_neg (λq=>by rw[hne]at q;exact zY q)];refine j0 (hty.at ?_);rw[if_pos (by decide)];k_delta"plainIsInstance";refine j0 (j0 (his.at ?_));simp only[if_false];refine j0 (LI.at ?_);simp only[qi,if_false];refine j0 (b3F x X I ?_);refine j0 (hisD.at ?_);simp only[if_false];refine j0 (w9 ?_);refine hsub.at ?_;first|exact j3 h|exact j3 (j3 h)|exact j0 (j3 (j3 h))
theorem b3D(x:XCls K C)(y:XCls K D)(X:K.In s.heap)(I:ExO s.heap a C ox)(d:C≠D)(c:typeIn K (.ref D)=some (.type "type"))(hs:subIn K (.ref C) (.ref D)=some false)(h:Q (.bool false) {s with toks:=s.toks+1}):wpAny (model prog w) A (call (.builtin "isinstance") [.ref a,.ref D]) Q E s:=call_isinstance (S:=λ_ R s=>(K.In s.heap/\ExO s.heap a C ox)/\R (.ok (.ret (.bool false))) {s with toks:=s.toks+1})
  (λ_ _ _ _ _ b=>isinstance_outer (a5s x b.1.1 b.1.2 (looks_typeIn b.1.1 c) (by obtain⟨F,N,nm,q,bs,e,i,sub,G,g,z,v,u,t,r,p,o,f,_⟩:=y.obj b.1.1;intro L H J j k q;exact j0 (wpAny_loadPart (k _ _ f) (j3 q))) (Bool.eq_false_iff.mpr λq=>d (Value.ref.inj (beq_iff_eq.mp q))) (looks_subIn b.1.1 hs) b.2) (by intro q;cases q)) ⟨⟨X,I⟩,h⟩
theorem c3n(X:K.In s.heap)(I:ExO s.heap a C ox)(e:isIn K (.ref C) D=true)(h:Q (.bool true) s):wpAny (model prog w) A (call (.builtin "isinstance") [.ref a,.ref D]) Q E s:=isi_call X (λ_=>I.type) e (by intro q;cases q) h
theorem c0C(X:K.In s.heap)(I:ExO s.heap a C ox)(b:typeOf (.type T)=pure (.type "type"))(e:subIn K (.ref C) (.type T)=some true)(h:Q (.bool true) s):wpAny (model prog w) A (call (.builtin "isinstance") [.ref a,.type T]) Q E s:=by refine PyProof.Rows.call_isinstance_of ?_ (by intro q;cases q);obtain⟨j,g,d,t,i⟩:=s;have c:=I.type (M:=model prog w);have f:=looks_subIn (M:=model prog w) X e;refine j0 (c.at ?_);rw[if_neg (λq=>by cases beq_iff_eq.mp q)];refine j0 (m:=typeOf (.type T)) (ul b ?_);rw[if_pos (by decide)];refine j0 (j0 (m:=isType (.type T)) (j3 (a:=true) ?_));refine j0 (m:=QJ (.ref a) (.type T)) ((c.andThen f).at ?_);exact j3 (a:=true) (j3 h)
theorem b3C{Q:Bool->Shared->Prop}(x:XCls K C)(y:XCls K D)(X:K.In s.heap)(I:ExO s.heap a C ox)(hs:subIn K (.ref C) (.ref D)=some true)(hq:Q true s):wpAny M A (excMatches (.ref a) (.ref D)) Q E s:=by
 obtain⟨bm,N,nm,q,bs,hdct,sn,sub,ab,col,dd,k0,k1,k2,k3,k5,mN,hC,hN,hni,T⟩:=y.obj X;obtain⟨hh,g,d,t,os⟩:=s;have L1:=looks_subIn (M:=M) X hs;have hcB:(qr D::bm).contains (.type "BaseException")=true:=by rw[List.contains_cons,T.hasType (X:="BaseException") (b:=true) rfl];rfl
 have f:=tc_notTuple;unfold excMatches;repeat(first|(with_reducible refine u5 I.at_ ?_;rw[I.cls])|with_reducible refine u5 hC ?_|with_reducible refine L1.at ?_|(with_reducible refine wpAny_isSubtype_exc hC ?_;rw[hcB])|wp_step)
 exact hq
end
end L2.L3
namespace L2.L3
open PySem PySem.Spec PyProof.Rows
theorem pT(I:Inv X pz U H s){b:Addr}(h:s.heap.get? b=none):rQ X b:=by
 refine⟨?_,λp a z=>?_⟩;·cases q:X.s₀.heap.get? b with|none=>exact .inr rfl|some o=>refine .inl (jZ λn=>?_);obtain⟨c,e⟩:=I.base.there b o q n;rw[h]at e;cases e
 ·obtain⟨e,_⟩:=I.pin p (jQ _ a);rw[z,h]at e;cases e
variable{sp:Pos}
noncomputable def a9m(f:SF):SF:=λZ=>match f Z with|some (.xc _ _)=>none|r=>r
theorem c2J(h:DS X.nox st f):DS X st (a9m f):=⟨by
 rintro j s U H D I⟨Z,o,b,g,G,e,R,q⟩;have⟨e',n⟩:f Z=some o/\∀c a,o≠.xc c a:=by
  unfold a9m at e;split at e;·cases e
  ·rename_i z;exact⟨e,λc a w=>z c a (by rw[e,w])⟩
 have i:a0g X.nox b g G D o:=by cases o with|nx a=>exact q|rt d=>exact q|bk a=>exact q|ct a=>exact q|xc c a=>exact absurd rfl (n c a)
 exact v3 (h.run j s U H D (I.wish _) ⟨Z,o,b,g,G,e',R,i⟩) (λ_ _ z=>z.unwish) λ_ _ z=>qz z⟩
noncomputable def gG(c:Str):SF:=λZ=>some (.xc c Z)
theorem b6l{x m:Str}{j:_}(F:X.calm=true)(v:eW X.K x=some C)(J:XCls X.K C)(E:Gl X x:=by rfl)(i:U2 x:=by decide)(g:j4 [.Constant (.str m) j sp] X.env=(false,eval (.Constant (.str m) j sp) X.env)::j4 [] X.env:=by rfl)(d:U6 X cpos []:=by rfl):DS X (.Raise (some (.Call (.Name x np) [.Constant (.str m) j sp] [] cpos)) none pos) (gG x):=⟨by
 rintro u s U H D I⟨Z,o,H0,Gz,G,e,R,q⟩;cases(qA e);obtain⟨bm,N,nm,y,bs,hdct,sn,sub,ab,col,dd,k0,k1,k2,k3,k5,mN,L,K,f,T⟩:=J.obj I.mod.kin;have A:=kU I.mod.kin I.mod.glob (a6v v);refine wpAny_Raise_call_subT (C:=C) (nm:=nm) (q:=y) (N:=N) (bs:=bs) (bm:=bm) (hdct:=hdct) (sn:=sn) (sub:=sub) (ab:=ab) (col:=col) (dd:=dd) (k0:=k0) (k1:=k1) (k2:=k2) (k3:=k3) (k5:=k5)
  PySem.F.excBase_ValueError (mN:=mN) (T.hasType PySem.F.excBase_ValueError.hasBase) (I.ok.hd F) (by rw[g];show(false||(j8 cpos (j4 [] X.env)).any (·.1))=false;rw[d];rfl) f (iN I E A ⟨rfl,?_⟩ i);have h:=dC (X:=X) (b4D:PE X (.Constant (.str m) j sp) (tC (.str m))) fE g cpos u s U H (λp k=>p=[.str m]/\k=H) I ⟨rfl,rfl⟩;rw[g]at h⊢;refine zy (thn h ?_);rintro S r⟨p,k,c,w,Q,P⟩;subst Q P;refine⟨rfl,by rw[<-w.length];show 1<=j5;decide,c.bk _ _ L,K.keeps c.bk,T.keeps c.bk,λM a b=>?_⟩;obtain⟨t,z,_,_⟩:=b.there;exact q u {r with heap:=M} U k G _ (c.kept (t':=r.toks) b.keeps) R (.refl _) ⟨a,C,rfl,v,.inl (.inl ⟨pT c b.new,b5K c.hok b.new,_,_,.ref t,z,rfl,rfl,rfl,rfl⟩)⟩⟩
def oP(m n:Nat)(f:SF)(O:T0l):Mm q8:=if O.length=n then(match f (pA m O)with|some (.rt d)=>some (.ok d)|some (.nx _)=>some (.ok .none)|some (.xc c _)=>some (.ex c)|_=>none)else none
def CX1(P:Program)(w:World):CXT:=λouter H s E e s'=>∃a C H',e=.ref a/\E (.ref C) none H'/\s'.os=s.os/\um s'.gens/\Un (frs outer) [] H H' s.heap s'.heap/\HOk P w H' s'.heap/\ExcAt (λb=>s.heap.get? b=none) H' a C s'.heap
def c4F(K:qB)(G H:Hp)(Q:VK)(E:XK):Re q8->Prop|.ok d=>∀v G' H',Grow G H G' H'->Rep K G' v d->Q v H'|.ex c=>∀C G' H',eW K c=some C->Grow G H G' H'->E (.ref C) none H'
noncomputable def spX(K:qB)(F:List q8->Mm q8):Sp:=λvs H Q E=>∃G O r,(aT G H/\iX K G H)/\RepAll K G vs O/\F O=some r/\c4F K G H Q E r
structure CalleeX(P:Program)(w:World)(K:qB)(mg:T0d)(base:Heap)(x:Str)(k:Nat)(ps:T0q)(F:List q8->Mm q8):Prop where ex:∃f fd,mg x=some (.ref f)/\jY K (.ref f)=true/\Binds K fd ps []/\FnOk P w K mg base (CX1 P w) k f fd ps (spX K F)
theorem a2k(I:Inv X pz U H s)(g:X.ex=[])(un:Un (frs X.stack) ch H H s.heap h')(i:∀b∈ch,X.s₀.heap.get? b=none):Un X.fs [] X.H₀ H X.s₀.heap h':=by
 have nx:∀b:Addr,b∉X.ex:=λb z=>by rw[g]at z;cases z
 have d:∀b o,X.s₀.heap.get? b=some o->b≠X.env.locals:=λb o e=>qW (qU (qN e) I.ok.above);have f:∀b o,X.s₀.heap.get? b=some o->b∉ch:=λb o e z=>by rw[i b z]at e;cases e
 refine⟨λb o e n a _=>?_,λb o e n a _=>?_,λb o e n _=>I.base.free b o e n (nx b),λb o e _=>?_,I.base.tups,I.base.frzs,I.base.tbls⟩;·exact un.keep b o (I.base.keep b o e n a (nx b)) (I.base.free b o e n (nx b)) (λz=>(qM.mp (I.stkSub b z)).elim (d b o e) a) (f b o e)
 ·obtain⟨q,j⟩:=I.base.slot b o e n a (nx b);obtain⟨c,p⟩:=un.any j (I.base.free b o e n (nx b)) (f b o e);exact⟨c,p⟩
 ·obtain⟨k,j⟩:=I.base.there b o e (nx b);exact un.there b k j (f b o e)
section
variable{K:qB}{x:Str}{F:List q8->Mm q8}
abbrev fcX(P:Program)(w:World)(K:qB)(mg:T0d)(base:Heap)(N:T0q)(qual:Str)(scope:Scope)(f:Addr)(cd:Value)(A:Around)(outer:List Env)(s:Shared)(H:Hp)(E:XK):Cx:=a1a (CX1 P w) P w K mg base N qual scope f cd A outer s H E
theorem b8X{fa:Addr} m n(Fu:Fun K x x st fa fd)(S:FnScope N ps (aD st))(hm:N.length=m)(hn:ps.length=n)(p:∀ cdv A i s H E,Room k (A.deeper (w4 x (aD st) s.heap.objs.size fa cdv))->DB (fcX P w K mg base N x (aD st) fa cdv A i s H E) (bK st) f):FnOk P w K mg base (CX1 P w) (k+1) fa fd ps (spX K (oP m n f)):=by
 obtain⟨oc,od,kV,doc,pm,an,cdv,ct,osl,rfl,lk,T⟩:=Fu.ex;refine a7U lk T S (λvs H Q E⟨G,O,r,s,t,j,_⟩=>?_) λA i s H vs Q E J⟨G,O,r,F,t,j,q⟩=>?_
 ·unfold oP at j;split at j;·rename_i hl;rw[t.length,hl,hn]
  ·cases j
 ·unfold oP at j;split at j
  ·rw[<-hm,<-a0p]at j;split at j;·rename_i d e;cases(qA j);exact⟨_,(p cdv A i s H E J).run,lZ N O,_,H,G,G,e,lR F t,λv y u _ g t=>q v y u g t⟩
   ·rename_i D e;cases(qA j);exact⟨_,(p cdv A i s H E J).run,lZ N O,_,H,G,G,e,lR F t,λy u σ' _ R'=>q .non y u R'.grow .none⟩
   ·rename_i c D e;cases(qA j);refine⟨_,(p cdv A i s H E J).run,lZ N O,_,H,G,G,e,lR F t,?_⟩;rintro pz s' U u y e' I R _⟨a,C,e1,hE,xa⟩;subst e1;refine a2Y (X:=fcX P w K mg base N x (aD st) fa cdv A i s H E) (fr:=λb=>s.heap.get? b=none) I.ok.frames rfl rfl I (xa.mono λb hb=>?_) (λb hb=>?_) λh' ch un M L x'=>?_
    ·obtain z|z:=hb.1;·cases z
     ·exact z
    ·cases z:s.heap.get? b with|none=>rfl|some o=>obtain⟨o',z'⟩:=I.base.there b o z (by intro w;cases w);rw[hb]at z';cases z'
    ·exact⟨a,C,u,rfl,q C y u hE R.grow,I.os,I.bare,a2k I rfl un M,L,x'⟩
   ·cases j
  ·cases j
theorem eP m n(D:Def K mg x st)(S:FnScope N ps (aD st))(i:N.length=m)(g:ps.length=n)(j:∀ kV doc pm(an:T0k) cdv ct(us:T0m),us.length=ps.length->uk (jg x x (fD st) (bK st) (aD st) .none kV doc pm an cdv ct) ⟨us,[]⟩=pure (ps.zip us))(b:∀ fa cdv A a s H E,Room k (A.deeper (w4 x (aD st) s.heap.objs.size fa cdv))->DB (fcX P w K mg base N x (aD st) fa cdv A a s H E) (bK st) f):CalleeX P w K mg base x (k+1) ps (oP m n f):=by obtain⟨fa,o,d,c⟩:=D.ex;exact⟨fa,o,c,d.kp,d.binds j,b8X m n d S i g λcdv A a s H E e=>b fa cdv A a s H E e⟩
def gP(F:List q8->Mm q8)(fa:AF):EF:=λZ=>bnd (fa Z) F
theorem fZ{fa:AF}(C:CalleeX X.prog X.w X.K X.mg X.base x k ps F)(hr:Room k X.A)(ha:DA X (e::es) fa)(hg:Gl X x:=by rfl)(S:U2 x:=by decide)(he:U5 X e es:=by rfl)(N:U6 X pos es:=by rfl):DE X (.Call (.Name x p) (e::es) [] pos) (gP F fa):=⟨by
 rintro pz s U H Q I⟨Z,r,H0,Gz,G,e',R,q⟩;obtain⟨f,fd,a,b,c,Fk⟩:=C.ex;refine j9 (iN I hg a ?_ S);refine kI (h₀:=X.base) I.ok.mod.kin b (thn (ha.run pos pz s U H (λw j=>∃i O,Grow G H i j/\RepS X.K H0 Gz i j U Z/\RepAll X.K i w O/\F O=some r) I (bA R e' q.x λO w i j A K o e1=>⟨i,O,A,K,o,e1⟩))
  λJ s1⟨w,j,t,o,i,O,A,K,rd,hF⟩=>⟨t.kIn,?_⟩) he N;have sp:spX X.K F w j Q (λcv _ L=>∃E C c,cv=.ref C/\r=.ex c/\eW X.K c=some C/\Grow i j E L):=by refine⟨i,O,r,⟨A.sub,K.tab⟩,rd,hF,?_⟩;cases r with|ok d=>exactλv E L g o=>q v E L (A.trans g) o|ex c=>exactλC E L T g=>⟨E,C,c,rfl,rfl,T,g⟩
 have hl:J.length=ps.length:=by rw[<-o.length];exact Fk.len _ _ _ _ sp
 refine yg (wc (Fk.run X.A X.stack s1 j ⟨J,[]⟩ J w Q _ hr t.env0 (by simpa using c s1 J t.kIn (by simpa using hl)) o sp) λM s' y=>?_);cases M with|error e2=>obtain⟨a2,C2,H2,rfl,⟨G2,C3,c3,e3,rfl,T,g2⟩,os,D,un,P,xa⟩:=y;cases e3;exact q pz s' U H2 G2 _ (t.call' (ch:=[]) os un P D (λb z=>nomatch z)) (K.more g2) (A.gg.trans g2.gg) ⟨a2,C2,rfl,T,.inl (xa.mono λb hb=>pT t hb)⟩|ok fl=>cases fl with|ret u=>exact t.after y|next=>exact qz y|brk=>exact qz y|cont=>exact qz y⟩
end
section
variable{K:qB}
end
theorem name_goes{Q:Unit->Shared->Prop}{n:Str}(I:Inv X pz U H s)(hN:X.N.Nodup)(L:X.N[j]?=some n)(hk:X.env.scope.names.lookup n=some .local)(h:∀s',Inv X pz (U.set j none) H s'->Q () s'):wpAny M A (do bindName X.env n .none;unbindBehindTheSuite X.env n pos) Q E s:=by
 obtain⟨m,K,hl⟩:=id I.loc;obtain⟨oL,_,_,hoL,_⟩:=id K;have u:(X.env.scope.kind==.class||(X.env.scope.kind==.module&&X.env.locals !=X.env.globals))=false:=by rw[I.ok.kind];rfl
 have t:j<U.length:=by rw[I.len];exact(qR.mp L).1
 refine wpAny_nameGoes_keeps hk K u λh' v D f=>?_;have a:∀b o,X.s₀.heap.get? b=some o->b≠X.env.locals:=λb o e=>qW (qU (qN e) I.ok.above);refine h _ ⟨I.ok,I.os,I.bare,⟨λb o e n G r=>?_,λb o e n G r=>?_,I.base.free,λb o e r=>?_,I.base.tups,I.base.frzs,I.base.tbls⟩,⟨_,D,λi y N g C e3=>?_⟩,λy c e=>?_,I.free,I.freeC,λp hp=>?_,λb ob e=>?_,by simpa using I.len⟩;·exact(f.2 b (a b o e)).trans (I.base.keep b o e n G r)
 ·obtain⟨R,g⟩:=I.base.slot b o e n G r;exact⟨R,(f.2 b (a b o e)).trans g⟩
 ·obtain⟨T,g⟩:=I.base.there b o e r;exact⟨T,(f.2 b (a b o e)).trans g⟩
 ·by_cases F:i=j;·subst F;rw[ke t]at C;cases C
  ·rw[qt (jH F)]at C;obtain⟨P,S,q⟩:=hl i y N g C e3;refine⟨P,S,?_⟩;obtain⟨k,e⟩|⟨k,c,e,z⟩:=q;·refine .inl ⟨k,?_⟩;have:y≠n:=λe=>F (a2S hN g (e▸L));simp[this,e]
   ·exact .inr ⟨k,c,e,z.sameBut f (I.cne y c e)⟩
 ·obtain⟨J,z⟩:=I.cell y c e;exact⟨J,z.sameBut f (I.cne y c e)⟩
 ·obtain⟨e,n,ne,nf,d⟩:=I.pin p hp;exact⟨(f.2 p.1 ne).trans e,n,ne,nf,d⟩
 ·refine(I.hok b ob e).stay (λc J w q=>(f.2 c ?_).trans q) (λ_ q=>q) λ_ _ q=>q;rintro rfl;obtain rfl|w:=w;·rw[I.free]at e;cases e
  ·rw[I.free]at w;cases w
noncomputable abbrev Cx.suite(X:Cx)(a:Addr):Cx:={X with A:=X.A.mark (some (.ref a)),calm:=false,xe:=λ_ _=>False}
theorem a4W(I:Inv X pz U H s) a:Inv (Cx.suite X a) pz U H s:=⟨⟨I.ok.mod,I.ok.kind,I.ok.glob,I.ok.blt,I.ok.above,I.ok.inj,I.ok.has,I.ok.cab,(λz=>nomatch z),I.ok.frames,I.ok.stk,I.ok.exf,I.ok.bs,I.ok.bsz,I.ok.noex,I.ok.exfs,I.ok.funs,I.ok.frf⟩,I.os,I.bare,I.base,I.loc,I.cell,I.free,I.freeC,I.pin,I.hok,I.len⟩
theorem a7P(I:Inv (Cx.suite X a) pz U H s)(ok:X.Ok):Inv X pz U H s:=⟨ok,I.os,I.bare,I.base,I.loc,I.cell,I.free,I.freeC,I.pin,I.hok,I.len⟩
def a6O(K:qB)(C:Addr):Bool:=PySem.W.excIn K C c3e "ValueError.__new__"&&(jF K (.ref C) "__getattribute__"==some (some (.builtin "BaseException.__getattribute__")))&&(jF K (.ref C) "__getattr__"==some none)&&(jF K (.ref C) "__class__"==some (some (.builtin "object.__class__")))&&(PySem.W.mroIn K C (.type "object")==some true)
def b1o(K:qB)(S:Addr)(c:Str):Bool:=match eW K c with|some C=>a6O K C&&(PySem.W.typeIn K (.ref C)==some (.type "type"))&&(ky K (.ref C) (.type "ValueError")==some true)&&(ky K (.ref C) (.ref S)==some true)|none=>false
def c0w(K:qB)(c d:Str):Bool:=c==d||match eW K c,eW K d with|some C,some D=>(C !=D)&&(ky K (.ref C) (.ref D)==some false)|_,_=>false
theorem a5r{K:qB}(h:a6O K C=true):XCls K C:=by simp only[a6O,qE,beq_iff_eq]at h;exact⟨h.1.1.1.1,h.1.1.1.2,h.1.1.2,h.1.2,h.2⟩
section
variable{x:Str}
theorem c3r:typeOf (.type "ValueError")=pure (.type "type"):=by kernel_rfl
end
noncomputable def c1d(m:Nat)(f:SF)(c:Str):Mm q8:=match f (.exc c::zE (m-1) .no)with|some (.rt d)=>some (.ok d)|some (.nx _)=>some (.ok .none)|_=>none
variable{c:Str}
theorem b2b{K:qB}(s:aT G H/\iX K G H)(f:eW K c=some C)(d:H a=some (xcO a C)):RepS K H G G H (start N [.ref a]) (.exc c::zE (N.length-1) .no):=by
 refine⟨.refl s.1,by simp[start,Nat.add_comm],λi o e B b=>?_,Inj.free (λi e b=>?_),s.2⟩
 ·cases i with|zero=>
   have B:some (some (V.ref a))=some o:=by exact B
   cases B;cases(qA b);exact⟨a,C,rfl,f,d⟩|succ i=>
   rw[vM,jt]at b;split at b;·cases b;trivial
   ·cases b
 ·cases i with|zero=>cases(qA b);rfl|succ i=>
   rw[vM,jt]at b;split at b;·cases b;rfl
   ·cases b
section
variable{K:qB}{x y:Str}{F:Str->Mm q8}
end
def b6e(L:T0q)(K:qB):Bool:=match eW K "SheetError"with|some S=>a6O K S&&L.all (b1o K S)|none=>false
structure ExL(L:T0q)(K:qB):Prop where ok:b6e L K=true
theorem ExL.she{K:qB}(F:ExL L K):∃S,eW K "SheetError"=some S/\XCls K S/\∀c∈L,∃C,eW K c=some C/\XCls K C/\ky K (.ref C) (.ref S)=some true:=by
 have h:=F.ok;unfold b6e at h;split at h
 ·rename_i S d;rw[qE]at h;refine⟨S,d,a5r h.1,λc b=>?_⟩;have a:=qp.mp h.2 c b;unfold b1o at a;split at a;·rename_i C e;simp only[qE,beq_iff_eq]at a;exact⟨C,e,a5r a.1.1.1,a.2⟩
  ·cases a
 ·cases h
theorem fP{x m:Str}{j:_}(F:ExL L X.K)(e:X.calm=true)(hx:x∈L:=by decide)(c:Gl X x:=by rfl)(b:U2 x:=by decide)(d:j4 [.Constant (.str m) j sp] X.env=(false,eval (.Constant (.str m) j sp) X.env)::j4 [] X.env:=by rfl)(a:U6 X cpos []:=by rfl):DS X (.Raise (some (.Call (.Name x np) [.Constant (.str m) j sp] [] cpos)) none pos) (gG x):=by obtain⟨S,_,_,f⟩:=F.she;obtain⟨C,B,g,_⟩:=f x hx;exact b6l e B g c b d a
section
variable{env:Env}
def cpX(M:Model)(A:Around)(E:T0a)(env:Env)(Q:T0a)(acc:Value)(C:Addr)(r:Result)(s':Shared):Prop:=match r with|.ok _=>∃m,s'.heap.Ns C m/\∀h',jx C s'.heap h'->Q acc {s' with heap:=h'}|.error x=>∃m,s'.heap.Ns C m/\∀h',jx C s'.heap h'->∀ce:Env,ce.frame=env.frame->wpAny M A (PySem.passOn "comprehension.variables-let-go" x ce:Sem Value) (λ_ _=>False) E {s' with heap:=h'}
theorem b0f{a first:Sem Value}{g:Comprehension}{gs:List Comprehension}{cl:T0f}(C:clausesOf e=g::gs)(hs:∀x,v6 g.iter env x=pure x)(j:closureFor scope env=pure cl)(b:scope.kind=.function)(d:∀x∈scope.names,x.2=.local->scope.names.lookup x.1=some .local)(h:wpAny M A first (λx v=>wpAny M A (QK x) (λit u=>wpAny M A a (λo t=>wpAny M A (y3 scope env.globals cl [] env.qual none .none (some env)) (λcenv q=>cenv.frame=env.frame/\wn M A (.compStart e 0 it o {cenv with scope:=relabel scope env}) (cpX M A E env Q o cenv.locals) q) E t) E u) E v) E s):wpAny M A (comprehension e scope env pos a false first none) Q E s:=by
 unfold comprehension;rw[j,C];refine j0 (v3 h (λx v G=>j0 (ui (j0 (ul (hs x) (j0 (k7 (v3 G (λit u F=>wpAny_standIf (j0 (v3 F (λo t D=>j0 (j3 (j0 (v3 D (λcenv q k=>?_) λ_ _ c=>c)))) λ_ _ c=>c)))
   λ_ _ c=>c))))))) λ_ _ c=>c);obtain⟨z,k⟩:=k;have I:∀x∈(scope.names.filter λx=>(x.2==.local||x.2==.cell)&&x.1 !=(".0":Str)).reverse,x.2=.local->Env.kindOf {cenv with scope:=relabel scope env} x.1=some .local:=λx K L=>lookup_relabel_local (d x (qy.mp (List.mem_reverse.mp K)).1 L);refine k7 (j0 (ym (k7 (wpAny_run (wc k λr H p=>?_)))));cases r with|ok f=>obtain⟨m,w,p⟩:=p;exact j0 (k7 (wpAny_comp_letGo (cenv:={cenv with scope:=relabel scope env}) b _ H m I w λc J _ i=>j3 (p c i)))|error x=>obtain⟨m,w,p⟩:=p;exact j0 (k7 (wpAny_comp_letGo (cenv:={cenv with scope:=relabel scope env}) b _ H m I w λc J _ i=>v3 (p c i _ z) (λ_ _ f=>f.elim) λ_ _ y=>y))
end
section
variable{U:List (Option V)}
theorem c2w{Q:Unit->Shared->Prop}(o:T0k)(i:HOk X.prog X.w H s.heap)(x:xR fr fl H a C s.heap)(h:∀h' ch,Chg X fr ch H s.heap h'->xR fr (o.elim .none λf=>v2 f) H a C h'->Q () {s with heap:=h'}):wpAny M A (setFlight (.ref a) o) Q E s:=by
 obtain⟨B,K,I,F,R,T,J,G,P,N,D,L,y,w,p,t,k,d,r⟩:=x;have sz:=(jf.mp r).1;refine j0 (yh P D y ?_);rw[if_pos (show(qr T !=kC)=true from by rfl)];refine wpAny_setField k d sz (h _ [T] ⟨λb z=>?_,⟨λb o e n _ g=>?_,λb o e n _ g=>?_,λb o e n _=>n,λb o e g=>?_,λ_ _ q=>q,λ_ _ _ q=>q,λ_ S q=>⟨#[],by rw[q];simp⟩⟩,λb u q=>?_⟩ ?_);·cases qV.mp z;exact⟨w,p,J,G,k,d⟩
 ·rwa[qm _ _ (λz=>g (by simp[z]))]
 ·exact⟨o.slots,by rwa[qm _ _ (λz=>g (by simp[z]))]⟩
 ·exact⟨o,by rwa[qm _ _ (λz=>g (by simp[z]))]⟩
 ·have tr:∀c u,H c=some u->T≠c:=λc u q z=>by rw[<-z,p]at q;cases q
  refine(i b u q).stay (λc v j z=>?_) (λ_ z=>z) λ_ _ z=>z;obtain rfl|j:=j;·rwa[qm _ _ (tr c u q)]
  ·rwa[qm _ _ (tr c _ j)]
 ·refine⟨B,K,I,F,R,T,_,_,?_,N,D,L,y,w,p,t,kS _ k (Obj.isFreed_of_fields (vO d _)),vO d _,by simp[sz]⟩;rwa[qm _ _ t]
theorem b8f{Q:α->Shared->Prop}{d:Env}{i:String}(b:HOk X.prog X.w H s.heap)(x:xR fr fl H a C s.heap)(h:∀h' ch,Chg X fr ch H s.heap h'->xR fr (d.frame.elim .none λf=>v2 f) H a C h'->E (.ref a) {s with heap:=h'}):wpAny M A (PySem.passOn i (.ref a) d:Sem α) Q E s:=by have g:=x;obtain⟨B,u,r,p,z,T,t,q,o,y,k,w,j,v⟩:=x;refine j0 (yh o k j ?_);rw[if_neg (by simp)];exact j0 (c2w d.frame b g λh' ch c e=>wpAny_throw (h h' ch c e))
end
def uR(t:Tg)(ρb:List Ent)(ft:TF)(fe:EF):List q8->Mm (List q8)|[]=>some (.ok [])|d::O=>match tgD t ρb d with|none=>none|some ρx=>(match ft ρx with|some (.ok true)=>bnd (fe ρx) λv=>bnd (uR t ρb ft fe O) λvs=>some (.ok (v::vs))|some (.ok false)=>uR t ρb ft fe O|_=>none)
def b6F(t:Tg)(cap:T0e)(fi:AF)(ft:TF)(fe:EF):EF:=λZ=>bnd (fi Z) λO=>if dI O.length then bnd (uR t (cJ cap Z) ft fe O) λes=>some (.ok (.list es))else none
theorem a2X{ft:TF}{fe:EF}:∀{O es:T0l},uR t ρb ft fe O=some (.ok es)->sU t ρb ft fe O=some es
 |[],es,h=>by cases h;rfl|d::O,es,h=>by
  unfold uR at h;unfold sU;split at h;·cases h
  ·rename_i e k;split at h
   ·rename_i b;obtain⟨v,i,g⟩|⟨c,_,z⟩:=dB h
    ·obtain⟨j,a,f⟩|⟨c,_,z⟩:=dB g;·cases f;simp only[i,a2X a,Option.map_some]
     ·cases z
    ·cases z
   ·rename_i b;try simp only[b]
    exact a2X h
   ·cases h
theorem a7J{ft:TF}{fe:EF}{c:Str}:∀{O:T0l},uR t ρb ft fe O=some (.ex c)->∃b d a,O=b++d::a/\(∀x∈b,tgD t ρb x=some (cX t ρb x)/\ft (cX t ρb x)=some (.ok (cT t ρb ft x))/\(cT t ρb ft x=true->∃v,fe (cX t ρb x)=some (.ok v)))/\tgD t ρb d=some (cX t ρb d)/\ft (cX t ρb d)=some (.ok true)/\fe (cX t ρb d)=some (.ex c)
 |[],h=>by cases h|d::O,h=>by
  unfold uR at h;split at h;·cases h
  ·rename_i f r;have ex:cX t ρb d=f:=by unfold cX;rw[r];rfl
   have p:uR t ρb ft fe O=some (.ex c)->(ft f=some (.ok (cT t ρb ft d))/\(cT t ρb ft d=true->∃v,fe f=some (.ok v)))->∃b g a,d::O=b++g::a/\(∀x∈b,tgD t ρb x=some (cX t ρb x)/\ft (cX t ρb x)=some (.ok (cT t ρb ft x))/\(cT t ρb ft x=true->∃v,fe (cX t ρb x)=some (.ok v)))/\tgD t ρb g=some (cX t ρb g)/\ft (cX t ρb g)=some (.ok true)/\fe (cX t ρb g)=some (.ex c):=λB j=>by
    obtain⟨b,g,a,i,w,o⟩:=a7J B;refine⟨d::b,g,a,by rw[i];rfl,λx k=>?_,o⟩;obtain rfl|k:=qM.mp k;·rw[ex];exact⟨r,j.1,j.2⟩
    ·exact w x k
   split at h
   ·rename_i i;have e:cT t ρb ft d=true:=by unfold cT;rw[ex,i]
    obtain⟨v,q,j⟩|⟨y,q,z⟩:=dB h
    ·obtain⟨A,u,s⟩|⟨y,o,z⟩:=dB j;·cases s
     ·cases z;exact p o ⟨by rwa[e],λ_=>⟨v,q⟩⟩
    ·cases z;exact⟨[],d,O,rfl,λ_ z=>absurd z (by simp),by rwa[ex],by rwa[ex],by rwa[ex]⟩
   ·rename_i i;have e:cT t ρb ft d=false:=by unfold cT;rw[ex,i]
    exact p h ⟨by rwa[e],λz=>by rw[e]at z;cases z⟩
   ·cases h
noncomputable def eX(K:qB)(Y:T0l)(ρx:q8->List Ent)(fe:EF)(c:Str)(H0 Gz:Hp):TE:=λU H Q=>∃x r G,x∈Y/\fe (ρx x)=some r/\RepS K H0 Gz G H U (ρx x)/\(match r with|.ok d=>∀v G' H',Grow G H G' H'->Rep K G' v d->Q v H'|.ex c'=>c'=c)
theorem c0O{K:qB}{ρb:List Ent}{cap:T0e}{f k:T0l}{ρx:q8->List Ent}{cnd:q8->Bool}(R:RepS K H0 Gz G H U Z)(wk:Walk K J G (f++d::k))(hb:Weak (cJ cap Z) ρb)(hw:∀x∈f++[d],Weak (ρx x) ρb)(hz:(f++d::k).length<=j5)(hp:∀x∈f,cnd x=true->∃v,fe (ρx x)=some (.ok v))(hd:cnd d=true)(he:fe (ρx d)=some (.ex c)):uX J (gU K (f++[d]) (λx=>x) ρb ρx) (tU K (f++[d]) ρx cnd) (eX K (f++[d]) ρx fe c H G) (gA cap U) H (λ_ _=>False):=by
 refine⟨λD i m ys X H'=>m=f.length-i/\i<=f.length/\ys.length<=i/\∃G',RepS K H G G' H' X ρb/\G' D=none,λD hD=>⟨⟨f.length,by simp,qx _,qx _,G,?_,R.sub.free hD⟩,?_⟩⟩;·exact((R.cap cap).more (.side R.sub hD)).weak hb
 ·rintro i m ys σ1 H1⟨rfl,hi,hys,G1,R1,hG1⟩N;obtain⟨wgo,wstop⟩:=wk i G1 H1 R1.grow.gg R1.sub;have hx:∃x,(f++[d])[i]?=some x/\(f++d::k)[i]?=some x/\x∈f++[d]/\((i<f.length/\x∈f)\/x=d):=by
   by_cases h:i<f.length
   ·refine⟨f[i],?_,?_,?_,.inl ⟨h,jR h⟩⟩;·rw[qh h];exact qG h
    ·rw[qh h];exact qG h
    ·exact jQ _ (jR h)
   ·have:i=f.length:=by lia
    subst this;exact⟨d,by simp,by simp,by simp,.inr rfl⟩
  obtain⟨x,_,hx2,u,hx4⟩:=hx;obtain⟨go,yl⟩:=wgo x hx2;refine .inr ⟨go,λv H2 y=>?_⟩;obtain⟨G2,T,rx⟩:=yl v H2 y;refine⟨x,u,H,G,G2,R1.more T,rx,λσ3 S=>⟨x,u,H,G,G2,S,λG4 H4 P=>?_⟩⟩;have Q:=T.trans P;have t:=Q.hh.lst N;have M:=Q.new D hG1 (by rw[N];simp);dsimp only;have hzz:f.length<j5:=by rw[qe,qZ]at hz;lia
  obtain⟨F,A⟩|rfl:=hx4
  ·by_cases s:cnd x=true
   ·rw[if_pos s];obtain⟨w,ew⟩:=hp x A s;refine⟨x,.ok w,G4,u,ew,S.more P,λv G5 H5 g5 rv=>?_⟩;have p:=g5.hh.lst t;have L:=g5.new D M (by rw[t];simp);refine⟨p,by lia,f.length-(i+1),by omega,rfl,F,by simp;omega,G5,?_,L⟩;have r:=((S.more P).more g5).weak (hw _ u);have g:∀(j:Nat)(e:Ent),ρb[j]?=some e->a3f e=false:=λj e q=>by
     obtain z'|z':=hb.at q;·rw[z'];rfl
     ·exact a1f cap Z j e z'
    have I:=hD;refine⟨⟨r.grow.gg,r.grow.hh.wr I p,λb o e=>?_,r.grow.new,r.grow.nt⟩,r.len,λj o e B q=>?_,Inj.free (λj e q=>g j e q),r.tab.wr p⟩;·rw[aE (aK e L)];exact r.sub b o e
    ·have E:=r.ent j o e B q;cases e with|no=>trivial|val d=>exact E|exc c=>obtain⟨b,C,z,g1,T⟩:=E;exact⟨b,C,z,g1,by rwa[aE (bS T p (by unfold xcO;nofun))]⟩|lst es=>have:=g j _ q;cases this|nst dss=>have:=g j _ q;cases this|dct kvs=>have:=g j _ q;cases this|adr a=>exact E|ro oa b=>exact tQ.wr E I
   ·rw[if_neg s];exact⟨t,f.length-(i+1),by omega,rfl,F,by lia,G4,(S.more P).weak (hw _ u),M⟩
  ·rw[if_pos hd];exact⟨x,.ex c,G4,u,he,S.more P,rfl⟩
section
variable{cap:T0e}
def c3i(X:Cx)(scope:Scope)(N':T0q)(c:Str)(G H:Hp)(C:Addr)(s3z:Shared)(H3z:Hp)(fp:T0o)(e:Value)(s':Shared):Prop:=∃pz U H' G',Inv (cB X scope N' C s3z H3z fp) pz U H' s'/\Grow G H G' H'/\b1K (cB X scope N' C s3z H3z fp) c e H' s'
theorem c0F{e:Value}{cl:T0f}{acc:Value}(N:X.stack=X.env::X.outer)(P:X.env.frame=some X.env.locals)(u:Inv X pz U H3z s3z)(A:∀b∈fp,a1i X pz H3z b)(R:RepS X.K H0 Gz G H U Z)(q:mR X H0 Gz G Z c)(z:c3i X scope N' c G H s3z.heap.objs.size s3z H3z fp e s'):notedBy (model X.prog X.w) X.A (QM scope cl s3z.heap.objs.size X.env) (λx s'=>cpX (model X.prog X.w) X.A X.xe X.env Q acc s3z.heap.objs.size (.error x) s') e s':=by
 obtain⟨M,σ',H',G',t,g,a,C,rfl,hC,xa⟩:=z;have F:=u.call' (ch:=fp) t.os t.base t.hok t.bare λb f=>by obtain⟨_,f1,_,f3,f4,I⟩:=A b f;exact⟨f3,f1,f4,I⟩
 have i:∀b,(s3z.heap.get? b=none\/s'.heap.get? b=none)->∀p∈pz,p.1≠b:=λb f p r w=>by
  obtain f|f:=f;·have:=(u.pin p (qb _ r)).1;rw[w,f]at this;cases this
  ·have:=(F.pin p (qb _ r)).1;rw[w,f]at this;cases this
 have K:nU X (λb=>rQ X b/\∀p∈pz,p.1≠b) H' a C s'.heap:=xa.mono λb f=>by
  obtain w|w:=f.1;·obtain⟨_,f1,_,f3,f4,I⟩:=A b w;refine⟨⟨f3.imp id λy=>zL y,λp r=>I p (jQ _ r)⟩,λp r=>I p (qb _ r)⟩
  ·exact⟨pT u w,i b (.inl w)⟩
 refine a2R (X:=X) F.ok.frames N P F K (λb f=>⟨pT F f,i b (.inr f)⟩) λB ch1 c1 x1=>?_;have I1:=Inv.chg F c1;obtain⟨m,hn,_⟩:=t.loc;obtain⟨oL,es,ep,k,L⟩:=hn;have k:s'.heap.get? s3z.heap.objs.size=some oL:=k;have cL:s3z.heap.objs.size∉ch1:=λz=>by obtain⟨_,_,o,vs,E,J⟩:=c1.ch _ z;rw[k]at E;cases E;rw[L.1]at J;cases J
 obtain⟨sl,qL⟩:=c1.un.any k t.free cL;have nL:=kJ u.lt;refine⟨m,⟨_,es,ep,qL,L⟩,λh2 j ce S=>?_⟩;have j:=j;have I2:=Inv.turned (s:={s' with heap:=B}) (t':=s'.toks) (it:=s3z.heap.objs.size) I1 (λb o f e=>j.extBut b o f e) t.free nL (.inr u.sz) (λx c e z=>by obtain⟨v,q⟩:=u.cell x c e;exact absurd q.lt (by rw[z];exact ji _)) λp r z=>absurd (qN (u.pin p r).1) (by rw[z];exact ji _)
 have x2:xR (λb=>rQ X b/\∀p∈pz,p.1≠b) (v2 X.env.locals) H' a C h2:=by
  obtain⟨h1',h2',oe,vs,a0,T,oT,ts,E,J,e3,e4,e5,e6,e7,e8,e9,D,e11⟩:=x1;have ne:∀b o us,B.get? b=some o->o.data=.fields us->b≠s3z.heap.objs.size:=λb o us e d w=>by rw[w,qL]at e;cases e;have d:=d;rw[L.1]at d;cases d
  exact⟨h1',h2',oe,vs,a0,T,oT,ts,j.extBut _ _ (ne _ _ _ E e3) E,J,e3,e4,e5,e6,e7,e8,j.extBut _ _ (ne _ _ _ e9 D) e9,D,e11⟩
 refine b8f (X:=X) (s:={s' with heap:=h2}) I2.hok x2 λh3 ch3 c3 x3=>?_;rw[S,P]at x3;exact q pz _ U H' G' _ (Inv.chg (s:={s' with heap:=h2}) I2 c3) (R.more g) g.gg ⟨a,C,rfl,hC,.inr ⟨_,P,x3.mono λb f=>f.1⟩⟩
theorem b6B(hst:X.stack=X.env::X.outer)(hfr:X.env.frame=some X.env.locals)(hc:X.calm=true)(L:Blk X scope N' cap)(hi:DI X tg iter fi)(hf:a2m cap t=true)(hg:∀C a b fp,DG (cB X scope N' C a b fp) tg t)(ht:∀C a b fp,DTs (cB X scope N' C a b fp) ifs ft)(he:∀C a b fp E,DE ((cB X scope N' C a b fp).wish E) elt fe)(hs:∀x,v6 iter X.env x=pure x:=by intro _;rfl):DE X (.ListComp elt [⟨tg,iter,ifs,0⟩] scope pos) (b6F t cap fi ft fe):=⟨by
 rintro i s U H Q I⟨Z,r,H0,Gz,G,e,R,q⟩;have y:∀r',fR t cap fi ft fe Z=some r'->r'=r->wpAny (model X.prog X.w) X.A (eval (.ListComp elt [⟨tg,iter,ifs,0⟩] scope pos) X.env) (EP X i U Q) X.xe s:=λr' e' er=>by subst er;exact(gC hc L hi hf hg ht (λC a b fp=>he C a b fp λ_ _=>False) hs).run i s U H Q I ⟨Z,_,H0,Gz,G,e',R,q⟩
 obtain⟨O,M,A⟩|⟨c,M,A⟩:=dB e
 ·split at A
  ·rename_i hz;obtain⟨es,e3,e4⟩|⟨c,e3,e4⟩:=dB A;·cases e4;refine y _ ?_ rfl;unfold fR;rw[M,b9M,if_pos hz,a2X e3];rfl
   ·subst e4;obtain⟨j,d,post,e5,e6,e7,e8,e9⟩:=a7J e3;rw[eval_ListComp];refine b0f rfl hs (lQ λp hp hk=>I.ok.has p.1 (.inl (L.free p hp hk))) L.kind L.names ?_;refine thn (hi.run i s U H (λJ K=>∃o,Grow G H o K/\Walk X.K J o O) I ⟨Z,_,H0,Gz,G,M,R,λJ o K g w=>⟨o,g,w⟩⟩) ?_;rintro v s1 B;refine thn B ?_;rintro itv s2⟨it,fp,tn,J,N,e',I2,T,S,f2,P,g2,wk⟩;subst e';have R2:=R.more g2;have F:cT t (cJ cap Z) ft d=true:=by unfold cT;rw[e8]
    have k:∀x∈j++[d],tgD t (cJ cap Z) x=some (cX t (cJ cap Z) x)/\ft (cX t (cJ cap Z) x)=some (.ok (cT t (cJ cap Z) ft x)):=λx f=>by
     obtain f|f:=qX.mp f;·exact⟨(e6 x f).1,(e6 x f).2.1⟩
     ·cases qV.mp f;exact⟨e7,by rwa[F]⟩
    refine a5e (RR:=λacc C=>cpX (model X.prog X.w) X.A X.xe X.env (EP X i U Q) acc C) (XE:=λC a b fp=>c3i X scope N' c P N C a b fp) (g:=gU X.K (j++[d]) (λx=>x) (cJ cap Z) (cX t (cJ cap Z))) (tc:=tU X.K (j++[d]) (cX t (cJ cap Z)) (cT t (cJ cap Z) ft))
     (Q:=λ_ _=>False) (te:=eX X.K (j++[d]) (cX t (cJ cap Z)) fe c N P) hc L I2 T S f2 (by rintro C a b fp i s U H v u Q I r⟨x,f,q⟩;exact((hg C a b fp).run _ _ _ (k x f).1).run i s U H v u Q I r q)
     (by rintro C a b fp i s U H Q I⟨x,f,q⟩;exact((ht C a b fp).run _ _ (k x f).2).run i s U H Q I q) (λC a b fp i s U H Q I⟨x,r,o,f,er,R',q'⟩=>?_)
     (c0O R2 (e5▸wk) (.refl _) (λx f=>a1O hf (k x f).1) (e5▸lY hz) (λx f hcx=>(e6 x f).2.2 hcx) F e9) (λD a b e s' I3 hf3 hD hH hsz z=>?_) (λD C s' K m' _ _ _ _ _ z=>z.elim);·refine(he C a b fp (c3i X scope N' c P N C a b fp)).run i s U H Q I ⟨_,r,N,P,o,er,R',?_⟩;cases r with|ok d=>exact q'|ex c'=>cases q';exactλi s' U K G'' e I' R'' _ x=>⟨i,U,K,G'',I'.unwish,R''.grow,x⟩
    ·exact c0F hst hfr I3 hf3 R2 (q.mono g2.gg) z
  ·cases A
 ·subst A;refine y _ ?_ rfl;unfold fR;rw[M];rfl⟩
end
end L2.L3
namespace L2.L3
open PySem PySem.Spec PySem.Calls PyProof.Rows
noncomputable abbrev a9F(qual:Str)(scope:Scope)(L f:Addr)(cd:Value)(cl:T0f):Env:=newEnv scope L j7 cl (qual++".<locals>.") (some f) cd none ua
section
variable{K:qB}
def cxL(P:Program)(w:World)(K:qB)(mg:T0d)(base:Heap)(N:T0q)(env:Env)(A:Around)(outer:List Env)(s:Shared)(H:Hp)(E:XK):Cx where prog:=P;w:=w;K:=K;mg:=mg;base:=base;A:=A.deeper env;N:=N;s₀:=s;H₀:=H;env:=env;outer:=outer;stack:=env::outer;ex:=[];calm:=true;fn:=λ_=>false;pn:=[];xe:=λe s'=>wpAny (model P w) (A.deeper env) (leaving env e) (λ_ s''=>CX1 P w outer H s E e s'') (λe' s''=>CX1 P w outer H s E e' s'') s'
structure Caps(cl:T0f)(scope:Scope)(N:T0q)(U:St)(H:Hp)(h:Heap):Prop where
 inj:∀x y c,cl.lookup x=some c->cl.lookup y=some c->x=y
 has:∀x,scope.names.lookup x=some .free->∃c,cl.lookup x=some c
 cell:∀x c,cl.lookup x=some c->H c=none/\∃v,h.IsCell c v
 val:∀(i:Nat) x v,N[i]?=some x->U[i]?=some (some v)->scope.names.lookup x=some .free/\∃u c,RelV v u/\cl.lookup x=some c/\h.IsCell c (some u)len:U.length=N.length
theorem Caps.more(C:Caps cl scope N U H h)(un:Un fs [] H H' h h'):Caps cl scope N U H' h':=by
 have f:∀x c v,cl.lookup x=some c->h.IsCell c v->h'.IsCell c v:=by rintro x c v e⟨o,a,b⟩;obtain⟨r,q⟩:=un.any a (C.cell x c e).1 (by simp);exact⟨_,q,b⟩
 refine⟨C.inj,C.has,λx c e=>?_,λi x v p k=>?_,C.len⟩;·obtain⟨n,v,o,a,b⟩:=C.cell x c e;exact⟨un.free c o a n (by simp),v,f x c v e ⟨o,a,b⟩⟩
 ·obtain⟨B,u,c,j,d,g⟩:=C.val i x v p k;exact⟨B,u,c,j,d,f x c _ d g⟩
theorem b8O{f:Addr}{D:Value}{cl:T0f}{outer:List Env}{E:XK}(Q:scope.kind=.function)(r:∀x∈scope.names,x.2≠.cell)(t:A.handled=none)(d:Env0 P w K mg base A outer s H)(C:Caps cl scope N U H s.heap)(j:∃m,B.Ns s.heap.objs.size m)(k:U9 s.heap B):Inv (cxL P w K mg base N (a9F qual scope s.heap.objs.size f D cl) A outer s H E) [] U H {s with heap:=B,toks:=tk}:=by
 have e:∀b:Addr,b∉(cxL P w K mg base N (a9F qual scope s.heap.objs.size f D cl) A outer s H E).ex:=λb z=>absurd (show b∈([]:T0o)from z) (by simp);obtain⟨m,j⟩:=j;have a:∀c v,s.heap.IsCell c v->B.IsCell c v:=(by rintro c v⟨o,M,t⟩;exact⟨o,k _ _ M,t⟩);refine⟨⟨d.mod,Q,rfl,rfl,qQ _,C.inj,λy g=>?_,(λy c z _=>nomatch z),λ_=>t,Around.frames_deeper d.frames,.inr ⟨rfl,rfl⟩,λb z=>absurd z (e b),d.bs,d.bsz,λb _ _=>e b,λb z=>absurd z (e b),d.funs,d.frf⟩,rfl,d.bare,Un.kept k,⟨m,j,λi y v B R S=>?_⟩,λy c h=>?_,d.hok.fresh (qQ _),λy c h=>(C.cell y c h).1,λp L=>absurd (show p∈([]:T0b)from L) (by simp),d.hok.kept k,C.len⟩
 ·have g:=g;obtain g|g:=g;·exact absurd rfl (r _ (qo g))
  ·exact C.has y g
 ·obtain⟨J,u,c,I,G,F⟩:=C.val i y v B R;exact⟨u,I,.inr ⟨.inr J,c,G,a c _ F⟩⟩
 ·obtain⟨_,v,q⟩:=C.cell y c h;exact⟨v,a c v q⟩
end
structure RoomN(k:Nat)(A:Around):Prop where
 dp:A.depth+3*k+5<uy
 un:A.units+16*k+200<cLine
theorem RoomN.units(r:RoomN k A):A.units+64<cLine:=by have:=r.un;lia
theorem Room.n(r:Room k A)(e:T0p):RoomN k (A.mark e):=⟨r.dp,r.un⟩
section
variable{K:qB}{x:Str}{F:Str->Mm q8}
abbrev fcN(P:Program)(w:World)(K:qB)(mg:T0d)(base:Heap)(N:T0q)(qual:Str)(scope:Scope)(f:Addr)(cd:Value)(A:Around)(outer:List Env)(s:Shared)(H:Hp):Cx:={a1a CX0 P w K mg base N qual scope f cd A outer s H E0 with calm:=false,xe:=λ_ _=>False}
structure ClsOk(P:Program)(w:World)(K:qB)(mg:T0d)(base:Heap)(x:Str)(k:Nat)(F:Str->Mm q8):Prop where ex:∃f,mg x=some (.ref f)/\jY K (.ref f)=true/\∀ A outer s H G a C c d,RoomN k A->Env0 P w K mg base A outer s H->(aT G H/\iX K G H)->eW K c=some C->H a=some (xcO a C)->F c=some (.ok d)->wn (model P w) A (.call (.ref f) ⟨[.ref a],[]⟩) (CR CX0 outer P w H s (λv H'=>∃G',Grow G H G' H'/\Rep K G' v d) E0) s
theorem b9E{y:Str} m(D:Def K mg x st)(S:FnScope N [y] (aD st))(hm:N.length=m)(hb:∀ kV doc pm(an:T0k) cdv ct(us:T0m),us.length=[y].length->uk (jg x x (fD st) (bK st) (aD st) .none kV doc pm an cdv ct) ⟨us,[]⟩=pure ([y].zip us))(R:∀ fa cdv A i s H,RoomN 0 (A.deeper (w4 x (aD st) s.heap.objs.size fa cdv))->DB (fcN P w K mg base N x (aD st) fa cdv A i s H) (bK st) f):ClsOk P w K mg base x 1 (c1d m f):=by
 obtain⟨fa,fd,Fu,hmg⟩:=D.ex;refine⟨fa,hmg,Fu.kp,λA i s H G a C c d hr p sm hC hH L=>?_⟩;have bd:=Fu.binds hb;obtain⟨oc,od,kV,doc,pm,an,cdv,ct,osl,rfl,lk,hcd⟩:=Fu.ex;have KX:=p.mod.kin.keeps λb o e=>(p.bs b o e).1;have lim:=p.mod.nolimit.keeps λb o e=>(p.bs b o e).1;have F:∀z∈[y].zip [qr a],(aD st).names.lookup z.1=some .local\/((aD st).names.lookup z.1=some .cell/\((k8 (s.heap.objs.size+1) (aD st).names []).lookup z.1).isSome=true):=by
  rintro ⟨n,v⟩hy;obtain q|q:=S.par n (zg hy).1;·exact .inl q
  ·exact .inr ⟨q,zP _ _ _ (.inl q)⟩
 have dep:A.depth<uy:=by have:=hr.dp;lia
 refine y9 dep (KX _ _ lk) rfl S.co S.gen rfl (wC KX hcd) (bd s [.ref a] KX rfl _ _ _ _ ?_);refine yi S.kind F λenv he T xx=>?_;subst he;refine⟨lim.keeps xx.toInCall.keep,codeAny_func ?_⟩;have e1:Env0 P w K mg base {A with handled:=none} i s H:=⟨p.frames,p.mod,p.bs,p.bsz,p.funs,p.frf,p.hok,p.bare⟩;have J:Inv (a1a CX0 P w K mg base N x (aD st) fa cdv {A with handled:=none} i s H E0) [] (start N [.ref a]) H T:=a0Q S rfl e1 rfl (.cons rfl .nil) xx;have I:Inv (fcN P w K mg base N x (aD st) fa cdv A i s H) [] (start N [.ref a]) H T:=⟨⟨J.ok.mod,J.ok.kind,J.ok.glob,J.ok.blt,J.ok.above,J.ok.inj,J.ok.has,J.ok.cab,(λz=>nomatch z),J.ok.frames,J.ok.stk,J.ok.exf,J.ok.bs,J.ok.bsz,J.ok.noex,J.ok.exfs,J.ok.funs,J.ok.frf⟩,J.os,J.bare,J.base,J.loc,J.cell,J.free,J.freeC,J.pin,J.hok,J.len⟩;unfold c1d at L;rw[<-hm]at L;have Q:∀(r:Flow)(t:Shared),SP (fcN P w K mg base N x (aD st) fa cdv A i s H) [] {nx:=λ_ k=>∃j,Grow G H j k/\Rep K j .non d,rt:=λv k=>∃j,Grow G H j k/\Rep K j v d} r t->(match r with|.ret u=>CR CX0 i P w H s (λv k=>∃j,Grow G H j k/\Rep K j v d) E0 (.ok (.ret u)) t|.next=>CR CX0 i P w H s (λv k=>∃j,Grow G H j k/\Rep K j v d) E0 (.ok (.ret .none)) t|_=>False):=λr t E=>by cases r with|ret u=>obtain⟨v,M,k,J,X,q⟩:=E;exact⟨v,k,J.os,J.bare,J.base,J.hok,X,q⟩|next=>obtain⟨M,k,J,q⟩:=E;exact⟨.non,k,J.os,J.bare,J.base,J.hok,rfl,q⟩|brk=>obtain⟨_,_,_,q⟩:=E;exact q.elim|cont=>obtain⟨_,_,_,q⟩:=E;exact q.elim
 have run:∀o,f (.exc c::zE (N.length-1) .no)=some o->a0g (fcN P w K mg base N x (aD st) fa cdv A i s H) H G G {nx:=λ_ k=>∃j,Grow G H j k/\Rep K j .non d,rt:=λv k=>∃j,Grow G H j k/\Rep K j v d} o->wpAny (model P w) (A.deeper (w4 x (aD st) s.heap.objs.size fa cdv)) (execs (bK st) (w4 x (aD st) s.heap.objs.size fa cdv)) (SP (fcN P w K mg base N x (aD st) fa cdv A i s H) [] {nx:=λ_ k=>∃j,Grow G H j k/\Rep K j .non d,rt:=λv k=>∃j,Grow G H j k/\Rep K j v d}) (λ_ _=>False) T:=λo e q=>(R fa cdv A i s H ⟨by have:=hr.dp;show A.depth+1+3*0+5<_;omega,by have:=hr.un;show A.units+3+16*0+200<_;omega⟩).run [] T _ H _ I ⟨_,o,H,G,G,e,b2b sm hC hH,q⟩;split at L;·rename_i d' e;cases(qA L);refine v3 (run _ e λv j k _ g X=>⟨j,g,X⟩) (λr t E=>?_) λ_ _ z=>z.elim;have:=Q r t E;cases r<;>first|exact this|exact this.elim
 ·rename_i ρ' e;cases(qA L);refine v3 (run _ e λj k M _ R'=>⟨j,R'.grow,.none⟩) (λr t E=>?_) λ_ _ z=>z.elim;have:=Q r t E;cases r<;>first|exact this|exact this.elim
 ·cases L
end
variable{c:Str}
theorem b3h{c:Addr}{dn:Str}{y:VK}{A:XK}(I:Inv X pz U H s)(M:X.N[i]?=some dn)(k:U[i]?=some (some (.ref c)))(G:Vis X.env.scope dn)(K:U2 dn)(q:U3 dn)(J:∀s',Inv X pz U H s'->PySem.W.FnAt c s'.heap)(run:∀s',Inv X pz U H s'->wn (model X.prog X.w) X.A (.call (.ref c) ⟨[],[]⟩) (CR (CX1 X.prog X.w) X.stack X.prog X.w H s' y A) s'):wpAny (model X.prog X.w) X.A (eval (.Call (.Name dn p) [] [] pos) X.env) (EP X pz U y) (λe s'=>∃a C H',e=.ref a/\A (.ref C) none H'/\Inv X pz U H' s'/\ExcAt (rQ X) H' a C s'.heap) s:=by have nm:=cM (X:=X.wish λ_ _=>False) (pos:=p) M G K q pz s U H (λv H'=>v=.ref c/\H'=H) (I.wish _) ⟨.ref c,k,rfl,rfl⟩;refine j9 (v3 nm (?_) λ_ _ z=>z.elim);rintro u t⟨v,T,r,E,P,w⟩;subst P w;cases E;have g:=r.unwish;refine PySem.W.callWith_F0 (J t g) (yg (wc (run t g) λj s' d=>?_));cases j with|error w=>obtain⟨Q,S,R,rfl,N,F,f,un,o,D⟩:=d;exact⟨Q,S,R,rfl,N,g.call' (ch:=[]) F un o f (λb z=>nomatch z),D.mono λb L=>pT g L⟩|ok c=>cases c with|ret u=>exact g.after d|next=>exact qz d|brk=>exact qz d|cont=>exact qz d
theorem b6I{x n:Str}{d:q8}{F:Str->Mm q8}{e:T0p}(K0:ClsOk X.prog X.w X.K X.mg X.base x k F)(M:RoomN k X.A)(I:Inv X pz U H s)(R:X.N[j]?=some n)(i:U[j]?=some (some (.ref a)))(L:Vis X.env.scope n)(Q:U2 n)(r:U3 n)(A:aT G H/\iX X.K G H)(hC:eW X.K c=some C)(S:H a=some (xcO a C))(T:F c=some (.ok d))(P:Gl X x)(q:U2 x)(y:j4 [.Name n p2] X.env=(false,eval (.Name n p2) X.env)::j4 [] X.env)(o:U6 X pos []):wpAny (model X.prog X.w) X.A (eval (.Call (.Name x p) [.Name n p2] [] pos) X.env) (EP X pz U λv H'=>∃G',Grow G H G' H'/\Rep X.K G' v d) X.xe s:=by obtain⟨f,N,K,run⟩:=K0.ex;refine j9 (iN I P N ?_ q);refine kI (h₀:=X.base) I.ok.mod.kin K (thn (dC (cM R L Q r) fE y pos pz s U H (λw H'=>w=[.ref a]/\H'=H) I ⟨.ref a,i,rfl,rfl⟩) ?_) y o;rintro us D⟨w,H1,t,E,e1,z⟩;refine⟨t.kIn,?_⟩;subst e1 z;obtain⟨u,rfl,J⟩:=vals1 E;cases J;refine yg (wc (run X.A X.stack D H1 G a C c d M t.env0 A hC S T) λg s' b=>?_);cases g with|error z=>exact b.elim|ok fl=>cases fl with|ret u=>exact t.after b|next=>exact qz b|brk=>exact qz b|cont=>exact qz b
noncomputable def uP(L:T0q)(F:Str->Mm q8)(r:Re q8):Option q8:=match r with|.ok d=>some d|.ex c=>if L.contains c then(match F c with|some (.ok d)=>some d|_=>none)else none
section
variable{K:qB}{x:Str}{F:Str->Mm q8}
end
theorem b9G(f:Blk X scope N' cap)(I:Inv X pz U H s):Caps (a1b scope X.env) scope N' (gA cap U) H s.heap:=by
 have cl:∀x c,(a1b scope X.env).lookup x=some c->X.env.cells.lookup x=some c:=λx c h=>a6C h;refine⟨λx y c B t=>I.ok.inj x y c (cl x c B) (cl y c t),λx h=>?_,λx c h=>⟨I.freeC x c (cl x c h),I.cell x c (cl x c h)⟩,λi x v E b=>?_,by unfold gA;rw[qD];exact f.len⟩;·have w:=qo h;obtain⟨c,e⟩:=I.ok.has x (.inl (f.free _ w rfl));exact⟨c,yT w e⟩
 ·unfold gA at b;rw[qO]at b;cases g:cap[i]? with|none=>rw[g]at b;cases b|some o=>rw[g]at b;cases o with|none=>cases b|some j=>
    have d:(U[j]?).getD none=some v:=qA b;have D:U[j]?=some (some v):=by cases q:U[j]? with|none=>rw[q]at d;cases d|some A=>rw[q]at d;have:A=some v:=d;rw[this]
    obtain⟨y,B,t,p⟩:=f.caps i j g;rw[E]at B;cases B;have a:=f.free _ (qo p) rfl;obtain⟨m,_,C⟩:=I.loc;obtain⟨u,r,l⟩:=C j x v t D (.inr (.inl a));obtain⟨k,_⟩|⟨_,c,e,z⟩:=l;·rw[a]at k;cases k
    ·exact⟨p,u,c,r,yT (qo p) e,z⟩
def b1n(L:T0q)(K:qB):Bool:=match eW K "SheetError"with|some S=>a6O K S&&L.all (b1o K S)&&(L.all λc=>L.all λd=>c0w K c d)|none=>false
structure ExG(L:T0q)(K:qB):Prop where ok:b1n L K=true
variable{d:Str}
section
variable{K:qB}
theorem ExG.l(F:ExG L K):ExL L K:=⟨by
 have h:=F.ok;unfold b1n at h;unfold b6e;split at h;·rename_i S a;rw[qE]at h;first|exact h.1|(rw[a];exact h.1)
 ·cases h⟩
theorem ExG.one(F:ExG L K)(b:c∈L):∃C,eW K c=some C/\XCls K C/\PySem.W.typeIn K (.ref C)=some (.type "type")/\ky K (.ref C) (.type "ValueError")=some true:=by
 have h:=F.ok;unfold b1n at h;split at h
 ·rename_i S e;rw[qE,qE]at h;have a:=qp.mp h.1.2 c b;unfold b1o at a;split at a;·rename_i C d;simp only[qE,beq_iff_eq]at a;exact⟨C,d,a5r a.1.1.1,a.1.1.2,a.1.2⟩
  ·cases a
 ·cases h
theorem ExG.two(F:ExG L K)(e:c∈L)(b:d∈L)(n:c≠d){D:Addr}(g:eW K c=some C)(f:eW K d=some D):C≠D/\ky K (.ref C) (.ref D)=some false:=by
 have h:=F.ok;unfold b1n at h;split at h
 ·rw[qE,qE]at h;have a:=qp.mp (qp.mp h.2 c e) d b;unfold c0w at a;rw[g,f]at a;obtain z|z:=Bool.or_eq_true_iff.mp a;·exact absurd (beq_iff_eq.mp z) n
  ·simp only[qE,beq_iff_eq,bne_iff_ne]at z;exact z
 ·cases h
end
variable{pi:Pos}
section
variable{x:Str}
noncomputable def a3W(L:T0q)(i:Nat)(d:Str):EF:=λZ=>match Z[i]? with|some (.exc c)=>if L.contains c then some (.ok (.bool (c==d)))else none|_=>none
theorem nQ i(F:ExG L X.K)(hm:X.mg "isinstance"=none)(f:d∈L:=by decide)(k:U0 X i x:=by exact U1)(E:U2 d:=by decide)(N:j4 [.Name x p,.Name d p2] X.env=(false,eval (.Name x p) X.env)::j4 [.Name d p2] X.env:=by rfl)(A:j4 [.Name d p2] X.env=(false,eval (.Name d p2) X.env)::j4 [] X.env:=by rfl)(w:(j8 pos (j4 [.Name d p2] X.env)).any (·.1)=false:=by rfl)(hg:Gl X "isinstance":=by rfl)(z:Gl X d:=by rfl):DE X (.Call (.Name "isinstance" pi) [.Name x p,.Name d p2] [] pos) (a3W L i d):=⟨by
 rintro M s U H Q I⟨Z,r,H0,Gz,G,e,R,q⟩;obtain⟨D,hD,P,t,_⟩:=F.one f;have y:=kU I.mod.kin I.mod.glob (a6v hD);have hc:lK X (.builtin "isinstance") (λY H Q=>∃a C c,Y=[.ref a,.ref D]/\c∈L/\eW X.K c=some C/\H a=some (xcO a C)/\Q (.bl (c==d)) H):=by
  rintro M s U H Y us Q I r⟨a,C,c,e1,b,j,J,q⟩;subst e1;obtain⟨u,w',rfl,r1,T⟩:=vals2 r;cases r1;cases T;obtain⟨⟨ox,K⟩,_⟩:=I.hok a _ J;obtain⟨C',g,S,_⟩:=F.one b;rw[j]at g;cases g;by_cases h:c=d;·subst h;rw[j]at hD;cases hD;refine c3n I.kIn K (by unfold PySem.W.isIn;simp) ⟨.bl (c==c),H,I,by show jv true=jv (c==c);simp,q⟩
  ·obtain⟨n1,n2⟩:=F.two b f h j hD;exact b3D S P I.kIn K n1 t n2 ⟨.bl (c==d),H,I.tok _,by show jv false=jv (c==d);simp[h],q⟩
 refine oQ hc hg hm boot_isinstance (dC (cM k.1 k.2 k.3 k.4) (dC (b0M (v:=.ref D) z y rfl E) fE A) N) (by decide) (by decide) N w M s U H Q I ?_;unfold a3W at e;split at e
 ·rename_i c hi;split at e;·rename_i b;cases(qA e);obtain⟨o,eo,a,C,rfl,j,J⟩:=R.at hi;exact⟨_,eo,a,C,c,rfl,by simpa using b,j,J,q _ G H (.refl R.sub) (.bool _)⟩
  ·cases e
 ·cases e⟩
noncomputable def c2n(L:T0q)(i:Nat):EF:=λZ=>match Z[i]? with|some (.exc c)=>if L.contains c then some (.ok (.bool true))else none|_=>none
theorem b9p i(F:ExG L X.K)(M:X.mg "isinstance"=none)(j:X.mg "ValueError"=none)(f:U0 X i x:=by exact U1)(A:j4 [.Name x p,.Name "ValueError" p2] X.env=(false,eval (.Name x p) X.env)::j4 [.Name "ValueError" p2] X.env:=by rfl)(t:j4 [.Name "ValueError" p2] X.env=(false,eval (.Name "ValueError" p2) X.env)::j4 [] X.env:=by rfl)(g:(j8 pos (j4 [.Name "ValueError" p2] X.env)).any (·.1)=false:=by rfl)(P:Gl X "isinstance":=by rfl)(k:Gl X "ValueError":=by rfl):DE X (.Call (.Name "isinstance" pi) [.Name x p,.Name "ValueError" p2] [] pos) (c2n L i):=⟨by
 rintro z s U H Q I⟨Z,r,H0,Gz,G,e,R,q⟩;have S:lK X (.builtin "isinstance") (λY H Q=>∃a C c,Y=[.ref a,.ty "ValueError"]/\c∈L/\eW X.K c=some C/\H a=some (xcO a C)/\Q (.bl true) H):=by rintro z s U H Y us Q I r⟨a,C,c,e1,b,y,w,q⟩;subst e1;obtain⟨u,w',rfl,K,J⟩:=vals2 r;cases K;cases J;obtain⟨⟨ox,D⟩,_⟩:=I.hok a _ w;obtain⟨C',d,xC,_,E⟩:=F.one b;rw[y]at d;cases d;exact c0C I.kIn D c3r E ⟨.bl true,H,I,rfl,q⟩
 refine oQ S P M boot_isinstance (dC (cM f.1 f.2 f.3 f.4) (dC (b0O (v:=.ty "ValueError") k j (by decide+kernel) rfl (by decide) (by decide)) fE t) A) (by decide) (by decide) A g z s U H Q I ?_;unfold c2n at e;split at e
 ·rename_i c N;split at e;·rename_i b;cases(qA e);obtain⟨o,T,a,C,rfl,y,w⟩:=R.at N;exact⟨_,T,a,C,c,rfl,by simpa using b,y,w,q _ G H (.refl R.sub) (.bool _)⟩
  ·cases e
 ·cases e⟩
noncomputable def cE:List Str:=["NoBack","NoMeeting","NoSheet","NoText","NoTime","NoZone","Taken","TooMany"]
end
noncomputable abbrev Sto:=List (Addr×BS)
noncomputable def eT:Sto->Addr->Option BS|[],_=>none|p::β,a=>if p.1=a then some p.2 else eT β a
noncomputable def lA:Sto->Addr->BS->Sto|[],_,_=>[]|p::β,a,b=>if p.1=a then(a,b)::β else p::lA β a b
noncomputable def plus(H0 H:Hp)(F:T0o):Hp:=λx=>if x∈F then H x else H0 x
noncomputable def less(H:Hp)(F:T0o):Hp:=λx=>if x∈F then none else H x
theorem cN(h:x∈F):plus H0 H F x=H x:=if_pos h
theorem bG(h:x∉F):plus H0 H F x=H0 x:=if_neg h
theorem fC(h:x∈F):less H F x=none:=if_pos h
theorem cA(h:x∉F):less H F x=H x:=if_neg h
def uW:HO->Prop|.ins _ _ _=>True|.own _=>True|.dK _=>True|.lst _=>True|_=>False
theorem BOk.kind{K:qB}{b:BS}(h:BOk K G H a b fp):∀x∈fp,∃o,H x=some o/\uW o:=by
 obtain⟨r,d,q,p,k,Y,j,rfl,n,B,i,g,f,e,_⟩:=h;intro x c;simp only[qM,kF,or_false]at c;obtain rfl|rfl|rfl|rfl|rfl:=c;·exact⟨_,B,trivial⟩
 ·exact⟨_,i,trivial⟩
 ·exact⟨_,g,trivial⟩
 ·exact⟨_,f,trivial⟩
 ·exact⟨_,e,trivial⟩
theorem uW.nt{o:HO}(h:uW o):∀ps,o≠.tbl ps:=λps z=>by subst z;exact h
structure StoOk(K:qB)(H0 G H:Hp)(β:Sto)(fps:List (List Addr)):Prop where
 each:Paired (λ(p:Addr×BS)fp=>BOk K G H p.1 p.2 fp) β fps
 nd:fps.flatten.Nodup
 out:∀x∈fps.flatten,H0 x=none/\G x=none
def bF(K:qB)(H0 Gz G H:Hp)(U:St)(Z:List Ent)(β:Sto):Prop:=∃fps,StoOk K H0 G H β fps/\RepS K (plus H0 H fps.flatten) Gz G H U Z
def nT(K:qB)(H0 Gz G H:Hp)(β:Sto):Prop:=∃fps,StoOk K H0 G H β fps/\Grow Gz (plus H0 H fps.flatten) G H
section
variable{K:qB}{β:Sto}
theorem a1s{c:α->List Addr->Prop}{b:Addr->Prop}(h:∀p fp,c p fp->∀x∈fp,b x):∀{l:List α}{m:List (List Addr)},Paired c l m->∀x∈m.flatten,b x
 |_,_,.nil,x,a=>nomatch a|_,_,.cons r t,x,a=>by
  rw[jI,qX]at a;obtain a|a:=a;·exact h _ _ r x a
  ·exact a1s h t x a
theorem StoOk.kind(S:StoOk K H0 G H β fps):∀x∈fps.flatten,∃o,H x=some o/\uW o:=a1s (λ_ _ r=>r.kind) S.each
theorem uD:∀{l:List α}{m:List (List Addr)},Paired Φ l m->(∀p fp,fp∈m->Φ p fp->Ψ p fp)->Paired Ψ l m|_,_,.nil,_=>.nil|_,_,.cons r t,h=>.cons (h _ _ qa r) (uD t λp fp a=>h p fp (qF _ a))
theorem StoOk.grow(S:StoOk K H0 G H β fps)(i:aT Gz G)(g:Grow Gz (plus H0 H fps.flatten) G' H')(s:aT G G'):StoOk K H0 G' H' β fps/\plus H0 H' fps.flatten=plus H0 H fps.flatten:=by
 have d:∀x∈fps.flatten,∀o,H x=some o->H' x=some o:=λx a o e=>by obtain⟨c,b,k⟩:=S.kind x a;rw[e]at b;cases b;exact g.hh.keep x o (by rwa[cN a]) k.nt
 refine⟨⟨uD S.each λp j f r=>r.keep (λx o a e _=>d x (wT.mpr ⟨j,f,a⟩) o e) s,S.nd,λx a=>⟨(S.out x a).1,g.new x (i.free (S.out x a).2) ?_⟩⟩,?_⟩;·obtain⟨c,b,_⟩:=S.kind x a;rw[cN a,b];simp
 ·funext x;by_cases a:x∈fps.flatten;·rw[cN a,cN a];obtain⟨c,b,_⟩:=S.kind x a;rw[b,d x a c b]
  ·rw[bG a,bG a]
theorem bF.of(S:StoOk K H0 G H β fps)(a:aT Gz G)(R:RepS K (plus H0 H fps.flatten) Gz G' H' σ' ρ')(s:aT G G'):bF K H0 Gz G' H' σ' ρ' β:=by obtain⟨b,e⟩:=S.grow a R.grow s;exact⟨fps,b,by rwa[e]⟩
theorem nT.of(S:StoOk K H0 G H β fps)(a:aT Gz G)(g:Grow Gz (plus H0 H fps.flatten) G' H')(s:aT G G'):nT K H0 Gz G' H' β:=by obtain⟨b,e⟩:=S.grow a g s;exact⟨fps,b,by rwa[e]⟩
theorem bF.grow(R:bF K H0 Gz G H U Z β):nT K H0 Gz G H β:=by obtain⟨a,S,R⟩:=R;exact⟨a,S,R.grow⟩
theorem bF.sub(R:bF K H0 Gz G H U Z β):aT G H:=by obtain⟨a,S,R⟩:=R;exact R.sub
theorem bF.tab(R:bF K H0 Gz G H U Z β):iX K G H:=by obtain⟨a,S,R⟩:=R;exact R.tab
theorem bF.more(R:bF K H0 Gz G H U Z β)(g:Grow G H G' H'):bF K H0 Gz G' H' U Z β:=by obtain⟨a,S,R⟩:=R;exact .of S R.grow.gg (R.more g) g.gg
def gS(β:Sto):Ent->Ent
 |.adr a=>match eT β a with|some b=>.ro (some a) b|none=>.adr a
 |e=>e
noncomputable def b3M:Ent->Ent|.ro (some a) _=>.adr a|e=>e
def vw(β:Sto)(Z:List Ent):List Ent:=Z.map (gS β)
def uv(Z:List Ent):List Ent:=Z.map b3M
theorem a5B{a:Addr}{b:BS}:∀{β:Sto}{fps:List (List Addr)},Paired (λ(p:Addr×BS)fp=>BOk K G H p.1 p.2 fp) β fps->eT β a=some b->∃fp∈fps,BOk K G H a b fp
 |_,_,.nil,e=>nomatch e|p::β,_,.cons r t,e=>by
  unfold eT at e;split at e;·rename_i h;cases(qA e);exact⟨_,qa,h▸r⟩
  ·obtain⟨fp,B,c⟩:=a5B t e;exact⟨fp,qF _ B,c⟩
theorem RepS.view(S:StoOk K H0 G H β fps)(R:RepS K (plus H0 H fps.flatten) Gz G H U Z):RepS K (plus H0 H fps.flatten) Gz G H U (vw β Z):=by
 refine⟨R.grow,by unfold vw;rw[qD];exact R.len,λi o e B c=>?_,R.inj.sub λi e B c=>⟨?_,rfl⟩,R.tab⟩;·unfold vw at c;rw[qO]at c;obtain⟨d,q,rfl⟩:=qH.mp c;have E:=R.ent i o d B q;cases d with
  |adr a=>
   unfold gS;dsimp only;split;·rename_i b k;obtain⟨g,j,r⟩:=a5B S.each k;refine⟨a,g,E,λp z=>(qA z).symm,r,λx f=>?_⟩;rw[cN (wT.mpr ⟨g,j,f⟩)];obtain⟨u,z,_⟩:=r.there x f;rw[z];simp
   ·exact E|_=>exact E
 ·unfold vw at B;rw[qO]at B;obtain⟨d,q,rfl⟩:=qH.mp B;rw[q];cases d with|adr a=>unfold gS at c;dsimp only at c;split at c<;>cases c|_=>rfl
theorem RepS.unv(R:RepS K H0 Gz G H U Z):RepS K H0 Gz G H U (uv Z):=by
 refine⟨R.grow,by unfold uv;rw[qD];exact R.len,λi o e B c=>?_,R.inj.sub λi e B c=>⟨?_,rfl⟩,R.tab⟩;·unfold uv at c;rw[qO]at c;obtain⟨d,q,rfl⟩:=qH.mp c;have E:=R.ent i o d B q;cases d with
  |ro f b=>cases f with|none=>exact E|some a=>obtain⟨k,j,z,g,_⟩:=E;rwa[<-g a rfl]at z
  |_=>exact E
 ·unfold uv at B;rw[qO]at B;obtain⟨d,q,rfl⟩:=qH.mp B;rw[q];cases d with|ro f b=>cases f<;>cases c|_=>rfl
theorem RepS.unview(R:RepS K H0 Gz G H U (vw β Z)):RepS K H0 Gz G H U Z:=by
 have d:U.length=Z.length:=by have:=R.len;unfold vw at this;rwa[qD]at this
 refine⟨R.grow,d,λi o e B b=>?_,R.inj.sub λi e B b=>⟨?_,rfl⟩,R.tab⟩
 ·have q:(vw β Z)[i]?=some (gS β e):=by unfold vw;rw[qO,b];rfl
  have E:=R.ent i o _ B q;cases e with
  |adr a=>
   unfold gS at E;dsimp only at E;split at E;·obtain⟨g,f,z,c,_⟩:=E;rwa[<-c a rfl]at z
   ·exact E|_=>exact E
 ·have q:(vw β Z)[i]?=some (gS β e):=by unfold vw;rw[qO,B];rfl
  rw[q];cases e with|adr a=>cases b|_=>rfl
end
def XcO(X:Cx)(H0 Gz G:Hp)(Z:List Ent)(β:Sto)(c:Str):Prop:=∀ pz s'(U:St) H' G' e,Inv X pz U H' s'->bF X.K H0 Gz G' H' U Z β->aT G G'->b1K X c e H' s'->X.xe e s'
theorem XcO.mono(h:XcO X H0 Gz G Z β c)(s:aT G G'):XcO X H0 Gz G' Z β c:=λb a U d f e I R g x=>h b a U d f e I R (s.trans g) x
abbrev OEF:=List Ent->Sto->Option (Re q8×Sto)
abbrev OAF:=List Ent->Sto->Option (Re (List q8)×Sto)
abbrev OTF:=List Ent->Sto->Option (Re Bool×Sto)
abbrev OSF:=List Ent->Sto->Option (So×Sto)
def a3G(X:Cx)(H0 Gz G:Hp)(Z:List Ent)(β:Sto)(U:St)(Q:VK):Re q8->Prop|.ok d=>∀v G' H',aT G G'->bF X.K H0 Gz G' H' U Z β->Rep X.K G' v d->Q v H'|.ex c=>XcO X H0 Gz G Z β c
def c4G(X:Cx)(H0 Gz G:Hp)(Z:List Ent)(β:Sto)(U:St)(Q:Bool->Hp->Prop):Re Bool->Prop|.ok b=>∀G' H',aT G G'->bF X.K H0 Gz G' H' U Z β->Q b H'|.ex c=>XcO X H0 Gz G Z β c
def rR(X:Cx)(H0 Gz G:Hp)(D:Ends)(β:Sto):So->Prop|.nx Z=>∀G' H' σ',aT G G'->bF X.K H0 Gz G' H' σ' Z β->D.nx σ' H'|.rt d=>∀v G' H',aT G G'->nT X.K H0 Gz G' H' β->Rep X.K G' v d->D.rt v H'|.bk Z=>∀G' H' σ',aT G G'->bF X.K H0 Gz G' H' σ' Z β->D.bk σ' H'|.ct Z=>∀G' H' σ',aT G G'->bF X.K H0 Gz G' H' σ' Z β->D.ct σ' H'|.xc c Z=>XcO X H0 Gz G Z β c
noncomputable def rOE(X:Cx)(f:OEF):TE:=λU H Q=>∃Z β r β' H0 Gz G,f Z β=some (r,β')/\bF X.K H0 Gz G H U Z β/\a3G X H0 Gz G Z β' U Q r
noncomputable def rOT(X:Cx)(f:OTF):TT:=λU H Q=>∃Z β r β' H0 Gz G,f Z β=some (r,β')/\bF X.K H0 Gz G H U Z β/\c4G X H0 Gz G Z β' U Q r
noncomputable def rOS(X:Cx)(f:OSF):TS:=λD U H=>∃Z β o β' H0 Gz G,f Z β=some (o,β')/\bF X.K H0 Gz G H U Z β/\rR X H0 Gz G D β' o
structure OE(X:Cx)(e:Expr)(f:OEF):Prop where run:PE X e (rOE X f)
structure OT(X:Cx)(e:Expr)(f:OTF):Prop where run:PT X e (rOT X f)
structure OS(X:Cx)(st:Stmt)(f:OSF):Prop where run:PS X st (rOS X f)
structure OB(X:Cx)(sts:List Stmt)(f:OSF):Prop where run:PSs X sts (rOS X f)
variable{fa:OTF}{T:Bool->Hp->Prop}{o:So}
section
variable{β β':Sto}
theorem a3G.mono{Q:VK}{r:Re q8}(q:a3G X H0 Gz G Z β U Q r)(s:aT G G1):a3G X H0 Gz G1 Z β U Q r:=by cases r with|ok d=>exactλv f e a R b=>q v f e (s.trans a) R b|ex c=>exact XcO.mono q s
theorem rR.mono{D:Ends}{o:So}(h:rR X H0 Gz G D β o)(s:aT G G1):rR X H0 Gz G1 D β o:=by cases o with|nx Z=>exactλf e a b R=>h f e a (s.trans b) R|rt d=>exactλv f e b g r=>h v f e (s.trans b) g r|bk Z=>exactλf e a b R=>h f e a (s.trans b) R|ct Z=>exactλf e a b R=>h f e a (s.trans b) R|xc c Z=>exact XcO.mono h s
noncomputable def c3d{α γ:Type}(m:Option (Re α×Sto))(k:α->Sto->Option (Re γ×Sto)):Option (Re γ×Sto):=match m with|some (.ok a,β)=>k a β|some (.ex c,β)=>some (.ex c,β)|none=>none
noncomputable def b0n{α:Type}(m:Option (Re α×Sto))(Z:List Ent)(k:α->Sto->Option (So×Sto)):Option (So×Sto):=match m with|some (.ok a,β)=>k a β|some (.ex c,β)=>some (.xc c Z,β)|none=>none
theorem b3x{k:α->Sto->Option (Re γ×Sto)}{r:Re γ×Sto}(h:c3d m k=some r):(∃a β,m=some (.ok a,β)/\k a β=some r)\/∃c β,m=some (.ex c,β)/\r=(.ex c,β):=by match m,h with|some (.ok a,β),h=>exact .inl ⟨a,β,rfl,h⟩|some (.ex c,β),h=>exact .inr ⟨c,β,rfl,(qA h).symm⟩|none,h=>cases h
theorem a5k{k:α->Sto->Option (So×Sto)}{r:So×Sto}(h:b0n m Z k=some r):(∃a β,m=some (.ok a,β)/\k a β=some r)\/∃c β,m=some (.ex c,β)/\r=(.xc c Z,β):=by match m,h with|some (.ok a,β),h=>exact .inl ⟨a,β,rfl,h⟩|some (.ex c,β),h=>exact .inr ⟨c,β,rfl,(qA h).symm⟩|none,h=>cases h
theorem obT{k:Bool->Sto->Option (Re γ×Sto)}{r:Re γ}(R:bF X.K H0 Gz G H U Z β)(e:c3d (fa Z β) k=some (r,β'))(hx:∀c,r=.ex c->XcO X H0 Gz G Z β' c)(h:∀x a G1 H1,aT G G1->bF X.K H0 Gz G1 H1 U Z a->k x a=some (r,β')->T x H1):rOT X fa U H T:=by
 obtain⟨x,a,d,b⟩|⟨c,a,d,b⟩:=b3x e;·exact⟨Z,β,_,a,H0,Gz,G,d,R,λG1 H1 f g=>h x a G1 H1 f g b⟩
 ·cases b;exact⟨Z,β,_,_,H0,Gz,G,d,R,hx c rfl⟩
theorem osE{fa:OEF}{k:q8->Sto->Option (So×Sto)}(R:bF X.K H0 Gz G H U Z β)(e:b0n (fa Z β) Z k=some (o,β'))(q:rR X H0 Gz G D β' o){T:VK}(h:∀x v a G1 H1,aT G G1->bF X.K H0 Gz G1 H1 U Z a->Rep X.K G1 v x->k x a=some (o,β')->rR X H0 Gz G1 D β' o->T v H1):rOE X fa U H T:=by
 obtain⟨x,a,d,b⟩|⟨c,a,d,b⟩:=a5k e;·exact⟨Z,β,_,a,H0,Gz,G,d,R,λv G1 H1 f i g=>h x v a G1 H1 f i g b (q.mono f)⟩
 ·cases b;exact⟨Z,β,_,_,H0,Gz,G,d,R,q⟩
theorem osT{k:Bool->Sto->Option (So×Sto)}(R:bF X.K H0 Gz G H U Z β)(e:b0n (fa Z β) Z k=some (o,β'))(q:rR X H0 Gz G D β' o)(h:∀x a G1 H1,aT G G1->bF X.K H0 Gz G1 H1 U Z a->k x a=some (o,β')->rR X H0 Gz G1 D β' o->T x H1):rOT X fa U H T:=by
 obtain⟨x,a,d,b⟩|⟨c,a,d,b⟩:=a5k e;·exact⟨Z,β,_,a,H0,Gz,G,d,R,λG1 H1 f g=>h x a G1 H1 f g b (q.mono f)⟩
 ·cases b;exact⟨Z,β,_,_,H0,Gz,G,d,R,q⟩
theorem a3G.x{Q:VK}(q:a3G X H0 Gz G Z β U Q r):∀c,r=.ex c->XcO X H0 Gz G Z β c:=λc e=>by subst e;exact q
end
def upT(f:TF):OTF:=λZ β=>(f (vw β Z)).map (·,β)
def b3L:So->So|.nx Z=>.nx (uv Z)|.rt d=>.rt d|.bk Z=>.bk (uv Z)|.ct Z=>.ct (uv Z)|.xc c Z=>.xc c (uv Z)
def upS(f:SF):OSF:=λZ β=>(f (vw β Z)).map λo=>(b3L o,β)
variable{sts:List Stmt}
section
variable{a c:Expr}{rest:T0n}{fa:EF}{g:AF}
theorem a4H(h:DT X e ft):OT X e (upT ft):=⟨by rintro a s U H Q I⟨Z,v,r,i,y,u,G,e,R,q⟩;obtain⟨w,o,z⟩:=qH.mp e;cases z;obtain⟨k,S,R⟩:=R;refine h.run a s U H Q I ⟨_,_,_,u,G,o,RepS.view S R,?_⟩;cases r with|ok d=>exactλf b g=>q f b g.gg (.of S R.grow.gg (R.more g) g.gg)|ex c=>exactλa j U b f e t p g x=>q a j U b f e t (.of S R.grow.gg p.unview g) g x⟩
theorem b7j(S:StoOk X.K H0 G H β fps)(j:aT Gz G)(q:rR X H0 Gz G D β (b3L o)):a0g X (plus H0 H fps.flatten) Gz G D o:=by cases o with|nx Z=>exactλf b a s i=>q f b a s (.of S j i.unv s)|rt d=>exactλv f b s g p=>q v f b s (.of S j g s) p|bk Z=>exactλf b a s i=>q f b a s (.of S j i.unv s)|ct Z=>exactλf b a s i=>q f b a s (.of S j i.unv s)|xc c Z=>exactλr k U b f e t i g x=>q r k U b f e t (.of S j i.unv g) g x
theorem sM(h:DS X st f):OS X st (upS f):=⟨by rintro b s U H D I⟨Z,i,o,a,k,g,G,e,R,q⟩;obtain⟨j,d,z⟩:=qH.mp e;cases z;obtain⟨c,S,R⟩:=R;exact h.run b s U H D I ⟨_,_,_,g,G,d,RepS.view S R,b7j S R.grow.gg q⟩⟩
end
section
variable{a c:Expr}{rest:T0n}{fa fb:OEF}{ft fu:OTF}{f g:OSF}{fA:OAF}
theorem bF.set{K:qB}{b c G H:Hp}{U:St}{Z:List Ent}{a:Sto}{i:Nat}{v:V}{d:q8}(R:bF K b c G H U Z a)(r:Rep K G v d):bF K b c G H (U.set i (some v)) (Z.set i (.val d)) a:=by obtain⟨e,S,R⟩:=R;exact .of S R.grow.gg (R.set r) (.refl _)
noncomputable def b5d:OSF:=λZ β=>some (.nx Z,β)
noncomputable def eO(f g:OSF):OSF:=λZ β=>match f Z β with|some (.nx ρ',β')=>g ρ' β'|r=>r
theorem a9l:OB X [] b5d:=⟨by rintro b s U H D I⟨Z,c,o,a,d,f,G,e,R,q⟩;exact b0G b s U H D I (by cases(qA e);exact q G H U (.refl _) R)⟩
theorem eJ(B:OS X st f)(J:OB X sts g):OB X (st::sts) (eO f g):=⟨by
 rintro t s U H D I⟨Z,y,o,i,j,p,G,e,R,q⟩;unfold eO at e;split at e;·rename_i a r K;refine we (thn (B.run t s U H {D with nx:=λb k=>rOS X g D b k} I ⟨Z,y,_,_,j,p,G,K,R,λN k b C L=>⟨a,r,o,i,j,p,N,e,L,q.mono C⟩⟩) λu A z=>?_);cases u with|next=>obtain⟨b,k,M,z⟩:=z;exact J.run t A b k D M z|ret v=>exact z|brk=>exact z|cont=>exact z
 ·rename_i z;have F:∀a,o≠.nx a:=λa w=>z a i (by rw[e,w]);have E:rR X j p G {D with nx:=λ_ _=>False} i o:=by cases o with|nx a=>exact absurd rfl (F a)|rt d=>exact q|bk a=>exact q|ct a=>exact q|xc c a=>exact q
  refine we (thn (B.run t s U H {D with nx:=λ_ _=>False} I ⟨Z,y,o,i,j,p,G,e,R,E⟩) λu A z=>?_);cases u with|next=>obtain⟨_,_,_,z⟩:=z;exact z.elim|ret v=>exact z|brk=>exact z|cont=>exact z⟩
theorem fW(h:OS X st f):OB X [st] f:=⟨a5L h.run⟩
def b4c(i:Nat)(fa:OEF):OSF:=λZ β=>b0n (fa Z β) Z λd β'=>some (.nx (Z.set i (.val d)),β')
theorem c1x i{x:Str}(k:X.N.Nodup)(h:OE X e fa)(g:X.N[i]?=some x:=by rfl)(hx:Loc X.env.scope x:=by first|exact jT rfl|exact qu rfl)(hs:wb e (some (.Name x p)) pos.line X.env=pure false:=by rfl)(j:U7 X x:=by first|exact .inl rfl|exact .inr rfl):OS X (.Assign [.Name x p] e pos) (b4c i fa):=⟨by rintro f s U H D I⟨Z,y,o,b,A,C,G,e,R,q⟩;exact a2H k g hx h.run hs j f s U H D I (osE R e q λx v a w u z t c r d=>by cases(qA r);exact d w u _ (.refl _) (t.set c))⟩
def yN(fa:OEF):OSF:=λZ β=>b0n (fa Z β) Z λ_ β'=>some (.nx Z,β')
theorem a5T(h:OE X e fa)(hs:wb e none pos.line X.env=pure false:=by rfl):OS X (.Expr e pos) (yN fa):=⟨by rintro d s U H D I⟨Z,k,o,b,t,u,G,e,R,q⟩;exact uC h.run hs d s U H D I (osE R e q λx v a j i p g r f c=>by cases(qA f);exact c j i U (.refl _) g)⟩
def xE(fa:OEF):OSF:=λZ β=>b0n (fa Z β) Z λd β'=>some (.rt d,β')
theorem sL(h:OE X e fa):OS X (.Return (some e) pos) (xE fa):=⟨by rintro f s U H D I⟨Z,p,o,b,t,u,G,e,R,q⟩;exact b4t h.run f s U H D I (osE R e q λx v a k j r i c g d=>by cases(qA g);exact d v k j (.refl _) i.grow c)⟩
def ifO(ft:OTF)(f g:OSF):OSF:=λZ β=>b0n (ft Z β) Z λt β'=>if t then f Z β' else g Z β'
theorem b0Q{x y:List Stmt}(v:OT X c ft)(z:OB X x f)(w:OB X y g):OS X (.If c x y pos) (ifO ft f g):=⟨by rintro u s U H D I⟨Z,A,o,b,k,p,G,e,R,q⟩;exact c0d v.run z.run w.run u s U H D I (osT R e q λt a r E C j d i=>by cases t with|true=>rw[if_pos rfl]at d⊢;exact⟨Z,a,o,b,k,p,r,d,j,i⟩|false=>rw[if_neg (by decide)]at d⊢;exact⟨Z,a,o,b,k,p,r,d,j,i⟩)⟩
def a9K(ft:OTF)(fa fb:OEF):OEF:=λZ β=>c3d (ft Z β) λt β1=>if t then fa Z β1 else fb Z β1
theorem c0i(v:OT X c ft)(y:OE X a fa)(w:OE X b fb):OE X (.IfExp c a b pos) (a9K ft fa fb):=⟨by rintro u s U H Q I⟨Z,z,r,f,k,o,G,e,R,q⟩;exact a7w v.run y.run w.run u s U H Q I (obT R e q.x λt d p A i j g=>by cases t with|true=>rw[if_pos rfl]at g⊢;exact⟨Z,d,r,f,k,o,p,g,j,q.mono i⟩|false=>rw[if_neg (by decide)]at g⊢;exact⟨Z,d,r,f,k,o,p,g,j,q.mono i⟩)⟩
def sR(t:Tg)(fb:OSF):List q8->List Ent->Sto->Option (So×Sto)|[],Z,β=>some (.nx Z,β)|d::O,Z,β=>match tgD t Z d with|none=>none|some ρ1=>(match fb ρ1 β with|some (.nx ρ2,β2)=>sR t fb O ρ2 β2|some (.ct ρ2,β2)=>sR t fb O ρ2 β2|some (.bk ρ2,β2)=>some (.nx ρ2,β2)|some (.rt d,β2)=>some (.rt d,β2)|some (.xc c ρ2,β2)=>some (.xc c ρ2,β2)|none=>none)
def b5Z(t:Tg)(fi:AF)(fb:OSF):OSF:=λZ β=>match fi Z with|some (.ok O)=>sR t fb O Z β|_=>none
theorem c1y(hp:u7 (model X.prog X.w) X.A X.env X.xe)(hc:X.calm=true)(hi:DI X tg iter fi)(hg:DG X tg t)(hb:OB X body g)(hs:∀x,v6 iter X.env x=pure x:=by intro _;rfl):OS X (.For tg iter body [] pos) (b5Z t fi g):=⟨λpz s U H D I⟨Z,β,o,M,u,k,G,ef,R,q⟩=>b4v hp hc hi.run hg.pg hb.run hs pz s U H D I (by
  unfold b5Z at ef;split at ef
  ·rename_i O e1;obtain⟨fps,S,R0⟩:=R;refine⟨Z,_,_,k,G,e1,R0,λJ G1 H1 K wk=>?_⟩;refine⟨λi m z H'=>m=O.length-i/\i<=O.length/\∃p c G',aT G1 G'/\bF X.K u k G' H' z p c/\sR t g (O.drop i) p c=some (o,M),⟨O.length,by simp,qx _,Z,β,G1,.refl _,.of S R0.grow.gg (R0.more K) K.gg,by exact ef⟩,?_⟩;rintro i m z H'⟨rfl,hin,p,c,G',s',R',e⟩;obtain⟨N,A⟩:=wk i G' H' s' R'.sub;by_cases E:i<O.length
   ·rw[List.drop_eq_getElem_cons E]at e;have hx:=qG E;refine .inr ⟨(N _ hx).1,λL H2=>∃b a f,aT G1 f/\bF X.K u k f H2 L b a/\sR t g (O.drop (i+1)) b a=some (o,M),?_,λx H2 y=>?_⟩;·rintro L H2⟨b,a,f,s2,R2,e2⟩;exact⟨O.length-(i+1),by omega,rfl,E,b,a,f,s2,R2,e2⟩
    ·obtain⟨f,g2,rx⟩:=(N _ hx).2 x H2 y;unfold sR at e;split at e;·cases e
     ·rename_i d et;obtain⟨fps',S',T⟩:=R';refine⟨p,O[i],d,_,k,f,et,T.more g2,rx,λσ3 R3=>?_⟩;have j:bF X.K u k f H2 σ3 d c:=.of S' T.grow.gg R3 g2.gg;have P:=s'.trans g2.gg;split at e;·rename_i b a r;exact⟨d,c,_,_,u,k,f,r,j,λF H4 w C Q=>⟨b,a,F,P.trans C,Q,e⟩⟩
      ·rename_i b a r;exact⟨d,c,_,_,u,k,f,r,j,λF H4 w C Q=>⟨b,a,F,P.trans C,Q,e⟩⟩
      ·rename_i b a r;cases(qA e);exact⟨d,c,_,_,u,k,f,r,j,λF H4 w C Q=>q F H4 w (K.gg.trans (P.trans C)) Q⟩
      ·rename_i d' a r;cases(qA e);exact⟨d,c,_,_,u,k,f,r,j,λv F H4 C gr rv=>q v F H4 (K.gg.trans (P.trans C)) gr rv⟩
      ·rename_i c' b a r;cases(qA e);exact⟨d,c,_,_,u,k,f,r,j,XcO.mono q (K.gg.trans P)⟩
      ·cases e
   ·have hi':i=O.length:=by lia
    subst hi';rw[List.drop_length]at e;cases(qA e);exact .inl ⟨A (qQ _),q G' H' z (K.gg.trans s') R'⟩
  ·cases ef)⟩
end
end L2.L3
variable{β':L2.L3.Sto}
namespace L2
open PySem PySem.Spec PyProof.Rows
section
variable(P:Program)(w:World)
end
section
variable{h:Heap}{o:HO}
end
section
variable{h:Heap}{x e:Addr}
end
section
variable{fs fs' ex ex':T0o}{h h2:Heap}{x e:Addr}{o:HO}
end
section
variable{U:List (Option V)}
end
section
variable{a:Expr}
variable{tA tB':TT}{rest:T0n}
end
section
variable{Y:List V}
end
section
variable{rest:List Stmt}{t u:TS}
end
variable{tc:TE}
section
variable{a:Expr}
end
section
variable{a:Expr}
end
variable{f:Addr}
section
variable{K:qB}{x:Addr}{v:Value}
end
section
variable{h:Heap}{fs fs':List (Str×V)}
end
section
variable{fs:List (Str×V)}{f:Str}
end
section
variable{f:Str}
end
section
variable{c:Value}{b:Bool}
end
variable{t:TA}
section
variable{dvs:List V}{O:T0m}{E:XK}{x m:Str}
end
section
variable{E:XK}{x m:Str}{kpos:Pos}{kws:List Keyword}{tk:TA}{nm:Option Str}
variable{g:List Value->List Value->List Value}{gV:List V->List V->List V}
end
section
variable{x:Str}{id:String}{r:List V->Hp->VK->Prop}
end
section
variable{κ:Type}[DecidableEq κ]
noncomputable def nV(kvs:List (κ×V))(k:κ):Option V:=(kvs.find? λkv=>decide (kv.1=k)).map (·.2)
noncomputable def putK(kvs:List (κ×V))(k:κ)(v:V):List (κ×V):=if(kvs.any λkv=>decide (kv.1=k))=true then kvs.map (λkv=>if kv.1=k then(kv.1,v)else kv)else kvs++[(k,v)]
noncomputable def a3t(kvs:List (κ×V))(k:κ):List (κ×V):=kvs.filter λkv=>decide (kv.1≠k)
theorem xV{p:κ×V}{r:List (κ×V)}{k:κ}(e:p.1=k):nV (p::r) k=some p.2:=by simp[nV,e]
theorem xW{p:κ×V}{r:List (κ×V)}{k:κ}(e:¬p.1=k):nV (p::r) k=nV r k:=by simp[nV,e]
theorem a6P k:∀kvs:List (κ×V),(kvs.any λa=>decide (a.1=k))=(nV kvs k).isSome
 |[]=>rfl|p::r=>by
  rw[kB];by_cases e:p.1=k;·simp only[xV e,decide_eq_true e,Bool.true_or,Option.isSome_some]
  ·rw[xW e,decide_eq_false e,Bool.false_or];exact a6P k r
theorem a1y kvs(k:κ) v:(putK kvs k v).length<=kvs.length+1:=by
 unfold putK;split;·rw[qD];lia
 ·rw[qe,qZ,kP];lia
theorem tR.isSome_eq{o:Option V}{u:T0p}(r:tR o u):o.isSome=u.isSome:=by cases o with
 |none=>cases u with|none=>rfl|some _=>exact(show False from r).elim
 |some _=>cases u with|none=>exact(show False from r).elim|some _=>rfl
theorem tR.getD{o:Option V}{u:T0p}{d:V}{d':Value}(r:tR o u)(a:RelV d d'):RelV (o.getD d) (u.getD d'):=by cases o with
 |none=>cases u with|none=>exact a|some _=>exact(show False from r).elim
 |some _=>cases u with|none=>exact(show False from r).elim|some _=>exact r
theorem KV.val{kvs:List (κ×V)}{vs:List (κ×Value)}(r:KV kvs vs) k:tR (nV kvs k) (uh vs k):=by induction r with|nil=>exact kZ|@cons p q d a h t f=>
  obtain⟨B,g⟩:=h;by_cases e:p.1=k
  ·have c:=B.symm.trans e;have b:uh (q::a) k=some q.2:=by simp[uh,c]
   rwa[xV e,b]
  ·have c:¬q.1=k:=λz=>e (B.trans z);have b:uh (q::a) k=uh a k:=by simp[uh,c]
   rwa[xW e,b]
theorem KV.any{kvs:List (κ×V)}{vs:List (κ×Value)}(r:KV kvs vs) k:(kvs.any λa=>decide (a.1=k))=vs.any λa=>decide (a.1=k):=by induction r with|nil=>rfl|cons h t b=>rw[kB,kB,b,h.1]
theorem KV.repl{kvs:List (κ×V)}{vs:List (κ×Value)}(r:KV kvs vs) k(b:RelV y u):KV (kvs.map λa=>if a.1=k then(a.1,y)else a) (vs.map λa=>if a.1=k then(a.1,u)else a):=by induction r with|nil=>exact .nil|@cons p q g f h t c=>
  rw[qI,qI];refine .cons ?_ c;obtain⟨B,d⟩:=h;by_cases e:p.1=k;·rw[if_pos e,if_pos (B.symm.trans e)];exact⟨B,b⟩
  ·rw[if_neg e,if_neg (λz=>e (B.trans z))];exact⟨B,d⟩
theorem KV.put{kvs:List (κ×V)}{vs:List (κ×Value)}(r:KV kvs vs) k(a:RelV y u):KV (putK kvs k y) (stored vs k u):=by
 unfold putK stored;rw[r.any k];by_cases e:(vs.any λb=>decide (b.1=k))=true;·rw[if_pos e,if_pos e];exact r.repl k a
 ·rw[if_neg e,if_neg e];exact Paired.snoc r ⟨rfl,a⟩
theorem KV.drop{kvs:List (κ×V)}{vs:List (κ×Value)}(r:KV kvs vs) k:KV (a3t kvs k) (without vs k):=by unfold a3t without;induction r with|nil=>exact .nil|@cons p q i g h t c=>
  obtain⟨B,d⟩:=h;rw[List.filter_cons,List.filter_cons];by_cases e:p.1=k
  ·have a:¬decide (p.1≠k)=true:=by simp[e]
   have b:¬decide (q.1≠k)=true:=by simp[B.symm.trans e]
   rwa[if_neg a,if_neg b]
  ·have f:¬q.1=k:=λz=>e (B.trans z);have a:decide (p.1≠k)=true:=by simp[e]
   have b:decide (q.1≠k)=true:=by simp[f]
   rw[if_pos a,if_pos b];exact .cons ⟨B,d⟩ c
theorem KV.length{kvs:List (κ×V)}{vs:List (κ×Value)}(r:KV kvs vs):kvs.length=vs.length:=Paired.length r
theorem b6q kvs(k:κ):(a3t kvs k).length<=kvs.length:=jN _ _
end
theorem a4S{k:Key}(r:RelV (kV k) u):(bI P w).is k u=true:=by cases k with|inl i=>obtain⟨t,e⟩:=(show∃t,u=Value.int i t from r);subst e;exact a1v P w i t|inr x=>obtain⟨t,e⟩:=(show∃t,u=wA x t from r);subst e;exact a1u P w x t
theorem a4V:∀{ks:List Key}{us:T0m},bH (ks.map kV) us->ItemsAre (bI P w) ks us|[],_,r=>by rw[wM]at r;cases r;exact .nil|k::ks,_,r=>by rw[qI]at r;cases r with|cons h t=>exact .cons (a4S h) (a4V t)
abbrev KT(H:Hp):List (List Key×V)->List (List Key×Addr×Value)->Prop:=Paired λp q=>p.1=q.1/\H q.2.1=some (.tup (p.1.map kV))/\RelV p.2 q.2.2
variable{kvs:List (List Key×V)}{Y:List (List Key×Addr×Value)}
theorem KT.val(r:KT H kvs Y)(k:List Key):tR (nV kvs k) ((atKey Y k).map (·.2)):=by induction r with|nil=>exact kZ|@cons p q d a h t f=>
  obtain⟨B,_,g⟩:=h;by_cases e:p.1=k
  ·have c:=B.symm.trans e;have b:atKey (q::a) k=some q.2:=by simp[atKey,c]
   rwa[xV e,b]
  ·have c:¬q.1=k:=λz=>e (B.trans z);have b:atKey (q::a) k=atKey a k:=by simp[atKey,c]
   rwa[xW e,b]
theorem KT.repl(r:KT H kvs Y) k(c:RelV y u):KT H (kvs.map λa=>if a.1=k then(a.1,y)else a) (Y.map (putAt k u)):=by induction r with|nil=>exact .nil|@cons p q i g h t d=>
  rw[qI,qI];refine .cons ?_ d;obtain⟨B,b,f⟩:=h;unfold putAt;by_cases e:p.1=k;·rw[if_pos e,if_pos (B.symm.trans e)];exact⟨B,b,c⟩
  ·rw[if_neg e,if_neg (λz=>e (B.trans z))];exact⟨B,b,f⟩
theorem KT.put(r:KT H kvs Y) k{b:Addr}(d:H b=some (.tup (k.map kV)))(a:RelV y u):KT H (putK kvs k y) (storedH Y k b u):=by
 have e:(kvs.any λc=>decide (c.1=k))=(atKey Y k).isSome:=by rw[a6P,(r.val k).isSome_eq,zT]
 unfold putK storedH;rw[e];by_cases q:(atKey Y k).isSome=true;·rw[if_pos q,if_pos q];exact r.repl k a
 ·rw[if_neg q,if_neg q];exact Paired.snoc r ⟨rfl,d,a⟩
theorem KT.keeps(r:KT H kvs Y)(a:∀b ys,H b=some (.tup ys)->H' b=some (.tup ys)):KT H' kvs Y:=Paired.mapP r λ_ _ z=>⟨z.1,a _ _ z.2.1,z.2.2⟩
section
variable{h:Heap}
theorem c0c{u:HO}(ok:HOk P w H h)(e:Rd H a u):cU P w H h a u:=e.ok ok
theorem a5c{kvs:List (Key×V)}(ok:HOk P w H h)(e:Rd H a (.dK kvs)):kvs.length<=j5/\(a==wg)=false/\∃vs,KV kvs vs/\h.DictOf (bI P w) a vs:=show cU P w H h a (.dK kvs)from c0c ok e
theorem b6t{kvs:List (Key×V)}(ok:HOk P w H h)(e:H a=some (.dK kvs)):kvs.length<=j5/\(a==wg)=false/\∃vs,KV kvs vs/\h.DictOf (bI P w) a vs:=a5c ok (.inl e)
theorem a3d{ks:List Key}(ok:HOk P w H h)(e:H a=some (.tup (ks.map kV))):(QD (bI P w)).is h ks a:=by obtain⟨_,b,r,o,B,d,n,c⟩:=(show cU P w H h a (.tup (ks.map kV))from ok a _ e);exact⟨o,b.toArray,n,B,d,c,by simpa using a4V r⟩
theorem a8d(ok:HOk P w H h)(e:Rd H a (.dT kvs)):kvs.length<=j5/\(a==wg)=false/\∃Y,KT H kvs Y/\h.DictOfH (QD (bI P w)) a Y:=by
 obtain⟨z,y,Y,r,o,k,s,B,j,i,g,f⟩:=(show cU P w H h a (.dT kvs)from c0c ok e);refine⟨z,y,Y,r,o,k,s,B,j,i,g,λx b=>?_,f⟩;have all:∀{l:List (List Key×V)}{m:List (List Key×Addr×Value)},KT H l m->∀x∈m,(QD (bI P w)).is h x.1 x.2.1:=by intro l m q;induction q with|nil=>intro x b;exact nomatch b|@cons p q v u c t d=>
   intro x b;obtain e|b:=qM.mp b;·subst e;exact a3d ok (by rw[<-c.1];exact c.2.1)
   ·exact d x b
 exact all r x b
theorem c4y(ok:HOk P w H h)(e:H a=some (.dT kvs)):kvs.length<=j5/\(a==wg)=false/\∃Y,KT H kvs Y/\h.DictOfH (QD (bI P w)) a Y:=a8d ok (.inl e)
end
def b3B(H:Hp)(a:Addr)(y:V)(r:Option V):Prop:=(∃kvs k,Rd H a (.dK kvs)/\y=kV k/\r=nV kvs k)\/∃kvs k b,Rd H a (.dT kvs)/\y=.ref b/\H b=some (.tup (k.map kV))/\r=nV kvs k
def c4H(H:Hp)(a:Addr)(y v:V)(H':Hp):Prop:=(∃kvs k,H a=some (.dK kvs)/\y=kV k/\kvs.length<j5/\H'=upd H a (.dK (putK kvs k v)))\/∃kvs k b,H a=some (.dT kvs)/\y=.ref b/\H b=some (.tup (k.map kV))/\kvs.length<j5/\H'=upd H a (.dT (putK kvs k v))
variable{r:Value}
section
variable{o:Option V}
theorem Inv.big(I:Inv X pz U H s):wg<s.heap.objs.size:=by have h:=(I.mod.glob.keeps I.bk).lt;exact vY (by decide) h
theorem c5V(hu:A.units+1<cLine)(I:Inv X pz U H s)(g:b3B H a y o)(p:RelV y u)(h:∀s',Inv X pz U H s'->Q (.bool o.isSome) s'):wpAny (model X.prog X.w) A (wa .In u (.ref a)) Q E s:=by
 obtain⟨d,k,e,i,l⟩|⟨d,k,b,e,i,r,l⟩:=g;·subst i;obtain⟨z,f,t,c,j⟩:=a5c I.hok e;refine wpAny_in_of (a4S p) f j.mapOf ?_;rw[<-(c.val k).isSome_eq,<-l];exact h _ (I.tok _)
 ·subst i;cases(show u=qr b from p);obtain⟨z,f,Y,c,j⟩:=a8d I.hok e;refine wpAny_in_heap (yr hu) (a3d I.hok r) f j ?_;have q:=(c.val k).isSome_eq;rw[zT]at q;rw[<-q,<-l];exact h _ (I.tok _)
theorem b9s(hu:A.units+1<cLine)(I:Inv X pz U H s)(g:b3B H a y o)(p:RelV y u)(h:∀s',Inv X pz U H s'->Q (.bool (!o.isSome)) s'):wpAny (model X.prog X.w) A (wa .NotIn u (.ref a)) Q E s:=by
 obtain⟨d,k,e,i,l⟩|⟨d,k,b,e,i,r,l⟩:=g;·subst i;obtain⟨z,f,t,c,j⟩:=a5c I.hok e;refine wpAny_notIn_of (a4S p) f j.mapOf ?_;rw[<-(c.val k).isSome_eq,<-l];exact h _ (I.tok _)
 ·subst i;cases(show u=qr b from p);obtain⟨z,f,Y,c,j⟩:=a8d I.hok e;refine wpAny_notIn_heap (yr hu) (a3d I.hok r) f j ?_;have q:=(c.val k).isSome_eq;rw[zT]at q;rw[<-q,<-l];exact h _ (I.tok _)
theorem a6B(I:Inv X pz U H s)(d:Mut (H a))(hs:jx a s.heap h')(f:∃q,h'.get? a=some q)(c:cU X.prog X.w (upd H a ob) h' a ob):Inv X pz U (upd H a ob) {s with heap:=h',toks:=t'}:=I.write (x:=a) (e:=a) d (.inl rfl) (λb q g z=>(hs.2 b g).trans z) f c
theorem b6u{kvs:List (Key×V)}{vs:List (Key×Value)}(z:kvs.length<=j5)(c:(a==wg)=false)(b:KV kvs vs)(dd:h'.DictOf (bI P w) a vs):cU P w H' h' a (.dK kvs):=⟨z,c,vs,b,dd⟩
theorem b3l{Q:Unit->Shared->Prop}(hu:A.units+1<cLine)(I:Inv X pz U H s)(g:c4H H a y v H')(G:RelV y u)(J:RelV v r)(h:∀s',Inv X pz U H' s'->Q () s'):wpAny (model X.prog X.w) A (setItem (.ref a) u r) Q E s:=by
 obtain⟨f,k,e,C,l,D⟩|⟨f,k,b,e,C,L,l,D⟩:=g
 ·subst C D;obtain⟨z,w,M,d,F⟩:=b6t I.hok e;have o:M.length<=j5:=by rwa[<-d.length]
  have t:(putK f k v).length<=j5:=by have:=a1y f k v;lia
  refine wpAny_setItem_pairs (hsz:=o) (a4S G) F λK i p=>h _ ?_;have N:∃q,K.get? a=some q:=let⟨q,_,_,j,_⟩:=i;⟨q,j⟩;exact a6B I (by rw[e];exact kZ) p N (b6u t w (d.put k J) i)
 ·subst C D;cases(show u=qr b from G);obtain⟨z,w,Y,d,F⟩:=c4y I.hok e;have o:Y.length<=j5:=by rwa[<-Paired.length d]
  have t:(putK f k v).length<=j5:=by have:=a1y f k v;lia
  refine wpAny_setItem_heap (hsz:=o) (yr hu) (a3d I.hok L) F λK i p=>h _ ?_;obtain⟨q,es,ep,j,T,S,R,_,P⟩:=i;refine a6B I (by rw[e];exact kZ) p ⟨q,j⟩ ⟨t,w,_,(d.put k L J).keeps λc ys ec=>?_,q,es,ep,j,T,S,R,P⟩;rwa[aE (bS ec e (λz=>nomatch z))]
end
section
variable{kvs:List (Key×V)}{k:Key}
theorem c4B{more:T0m}(I:Inv X pz U H s)(e:H a=some (.dK kvs))(f:RelV (kV k) u)(l:nV kvs k=some v)(p:more=[]\/∃x,more=[x])(h:∀c s',Inv X pz U (upd H a (.dK (a3t kvs k))) s'->RelV v c->Q c s'):wpAny (model X.prog X.w) A (call (.builtin "dict.pop") (.ref a::u::more)) Q E s:=by
 obtain⟨z,F,j,b,r⟩:=b6t I.hok e;obtain⟨c,w,g⟩:=tR.some_of (v:=v) (o:=uh j k) (by rw[<-l];exact b.val k);have C:(keyPart u).isSome=true:=by cases k with|inl i=>obtain⟨t,q⟩:=(show∃t,u=Value.int i t from f);subst q;rfl|inr x=>obtain⟨t,q⟩:=(show∃t,u=wA x t from f);subst q;rfl
 have G:argsOk "dict.pop" ⟨.ref a::u::more,[]⟩:=by
  obtain q|⟨x,q⟩:=p;·subst q;exact PySem.F.args_dict_pop_2 _ _
  ·subst q;exact PySem.F.args_dict_pop_3 _ _ _
 refine call_meetsIn PySem.F.slot_dict_pop r.typeIs PySem.F.entry_dict_pop G (meets_dict_pop_there (bI X.prog X.w) a (a4S f) more p C)
  ⟨j,c,r,by rwa[<-b.length],w,λJ d y=>h c _ ?_ g⟩;have D:∃q,J.get? a=some q:=let⟨q,_,_,hq,_⟩:=d;⟨q,hq⟩;exact a6B I (by rw[e];exact kZ) y D (b6u (qg (b6q kvs k) z) F (b.drop k) d)
end
noncomputable def c5f(ty td:TE):TE:=λU H Q=>ty U H λy H1=>td U H1 λx H2=>∃a o,x=.ref a/\b3B H2 a y o/\Q (.bl o.isSome) H2
noncomputable def b7o(ty td:TE):TE:=λU H Q=>ty U H λy H1=>td U H1 λx H2=>∃a o,x=.ref a/\b3B H2 a y o/\Q (.bl (!o.isSome)) H2
noncomputable def c3E(td ty tv:TE):TS:=λD U H=>tv U H λv H1=>td U H1 λx H2=>ty U H2 λy H3=>∃a H4,x=.ref a/\c4H H3 a y v H4/\D.nx U H4
variable{ty:TE}
section
variable{i:Expr}
theorem a9h(hu:X.A.units+1<cLine)(hi:PE X i ty)(ho:PE X o td):PC X .In i o (c5f ty td):=by intro pz s U H Q I h;refine thn (hi pz s U H _ I h) ?_;rintro iv s1⟨y,H1,I1,ry,q1⟩;refine thn (ho pz s1 U H1 _ I1 q1) ?_;rintro u s2⟨x,H2,I2,rx,a,ov,ex,g,q2⟩;subst ex;obtain rfl:u=qr a:=rx;exact c5V hu I2 g ry λs3 I3=>⟨.bl ov.isSome,H2,I3,rfl,q2⟩
theorem a4F(hu:X.A.units+1<cLine)(hi:PE X i ty)(ho:PE X o td):PC X .NotIn i o (b7o ty td):=by intro pz s U H Q I h;refine thn (hi pz s U H _ I h) ?_;rintro iv s1⟨y,H1,I1,ry,q1⟩;refine thn (ho pz s1 U H1 _ I1 q1) ?_;rintro u s2⟨x,H2,I2,rx,a,ov,ex,g,q2⟩;subst ex;obtain rfl:u=qr a:=rx;exact b9s hu I2 g ry λs3 I3=>⟨.bl (!ov.isSome),H2,I3,rfl,q2⟩
theorem b0I(hu:X.A.units+1<cLine)(ho:PE X o td)(hi:PE X i ty)(hv:PE X value tv)(hs:wb value (some (.Subscript o i pos')) pos.line X.env=pure false):PS X (.Assign [.Subscript o i pos'] value pos) (c3E td ty tv):=by intro pz s U H D I h;refine wpAny_Assign_Subscript (thn (hv pz s U H _ I h) ?_) hs;rintro r s1⟨v,H1,I1,rv,q1⟩;refine thn (ho pz s1 U H1 _ I1 q1) ?_;rintro u s2⟨x,H2,I2,rx,q2⟩;refine thn (hi pz s2 U H2 _ I2 q2) ?_;rintro iv s3⟨y,H3,I3,ry,a,H4,ex,g,q3⟩;subst ex;obtain rfl:u=qr a:=rx;exact b3l hu I3 g ry rv λs4 I4=>⟨U,H4,I4,q3⟩
end
theorem b6v(h:Heap)(a:wg<h.objs.size):cU P w H (h.push {cls:=.type "dict",data:=.dict #[]}) h.objs.size (.dK []):=⟨qx _,beq_eq_false_iff_ne.mpr (jH (qW a)),[],.nil,Heap.DictOf.new h⟩
def c0T:TE:=λ_ H Q=>∀p,H p=none->Q (.ref p) (upd H p (.dK []))
theorem a7x:PE X (.Dict [] [] pos) c0T:=λb s U H Q I h=>wpAny_Dict_empty ⟨.ref s.heap.objs.size,_,I.laid (a:=s.heap.objs.size) (o:=.dK []) (t':=s.toks) (λ_ _ q=>qC _ q) (qQ _) (b6v s.heap I.big),rfl,h _ (I.hok.fresh (qQ _))⟩
structure M1(X:Cx)(o:Expr)(m:Str)(apos:Pos)(e:Expr)(cpos:Pos):Prop where
 base:U8 X o m
 few:((j8 cpos (j4 [e] X.env)).all (λx=>!x.1)&&(yc cpos (wm [] X.env)).all (λx=>x.1.isSome)&&decide (([e]:T0n).length+([]:List Keyword).length+(if([]:List Keyword).isEmpty then 0 else 1)<30))=true
 line:(apos.endLine==cpos.line)=true
 trees:j8 cpos (j4 [e] X.env)=[(false,eval e X.env)]
def IsD(H:Hp)(a:Addr):Prop:=(∃kvs,Rd H a (.dK kvs))\/∃kvs,Rd H a (.dT kvs)
theorem b5E(I:Inv X pz U H s)(d:IsD H a):s.TypeIs (.ref a) "dict"/\(∀b,qr a=.ref b->∃ob,s.heap.get? b=some ob/\ob.dict=none)/\(a==wg)=false:=by
 obtain⟨f,e⟩|⟨f,e⟩:=d;·obtain⟨_,g,j,_,c⟩:=a5c I.hok e;refine⟨c.typeIs,λb q=>?_,g⟩;cases q;obtain⟨ob,_,_,B,i,_⟩:=c;exact⟨ob,B,i.2.1⟩
 ·obtain⟨_,g,Y,_,c⟩:=a8d I.hok e;refine⟨c.typeIs,λb q=>?_,g⟩;cases q;obtain⟨ob,_,_,B,i,_⟩:=c;exact⟨ob,B,i.2.1⟩
section
variable{d:V}{o:Option V}
theorem c2R(hu:A.units+1<cLine)(I:Inv X pz U H s)(g:b3B H a y o)(q:RelV y u)(h:∀p s',Inv X pz U H s'->RelV (o.getD .non) p->Q p s'):wpAny (model X.prog X.w) A (call (.builtin "dict.get") [.ref a,u]) Q E s:=by
 obtain⟨f,k,e,j,l⟩|⟨f,k,b,e,j,r,l⟩:=g;·subst j;obtain⟨z,i,t,c,d⟩:=a5c I.hok e;refine call_meetsIn vX d.typeIs PySem.F.entry_dict_get (PySem.F.args_dict_get_2 _ _) (meets_dict_get (bI X.prog X.w) a (a4S q) i) ⟨_,d.mapOf,h _ _ (I.tok _) ?_⟩;rw[l];exact(c.val k).getD rfl
 ·subst j;cases(show u=qr b from q);obtain⟨z,i,Y,c,d⟩:=a8d I.hok e;refine call_meetsIn vX d.typeIs PySem.F.entry_dict_get (PySem.F.args_dict_get_2 _ _) (meetsH_dict_get (QD (bI X.prog X.w)) a b i) ⟨yr hu,k,Y,a3d I.hok r,d,h _ _ (I.tok _) ?_⟩;rw[l];exact(c.val k).getD rfl
end
noncomputable def c0U(td ty:TE):TE:=λU H Q=>td U H λx H1=>∃a,x=.ref a/\IsD H1 a/\ty U H1 λy H2=>∃o,b3B H2 a y o/\Q (o.getD .non) H2
def c0S(td ty:TE):TE:=λU H Q=>td U H λx H1=>∃a,x=.ref a/\IsD H1 a/\ty U H1 λy H2=>∃kvs k v,H2 a=some (.dK kvs)/\y=kV k/\nV kvs k=some v/\Q v (upd H2 a (.dK (a3t kvs k)))
section
variable{f:Expr}{tx:TE}
theorem b4K(hu:X.A.units+1<cLine)(ho:PE X o td)(he:PE X e ty)(m:M1 X o "get" apos e cpos):PE X (.Call (.Attribute o "get" apos) [e] [] cpos) (c0U td ty):=by intro pz s U H Q I h;refine wpAny_Call_method m.base m.few m.line PySem.F.plainAttrs_dict vX PySem.F.type_dict_get (thn (ho pz s U H _ I h) ?_);rintro u s1⟨x,H1,I1,rx,a,ex,d,q1⟩;subst ex;obtain rfl:u=qr a:=rx;obtain⟨t1,t2,_⟩:=b5E I1 d;refine⟨t1,t2,?_⟩;rw[m.trees];exact vz rfl (zy (zA (thn (he pz s1 U H1 _ I1 q1) (by rintro iv s2⟨y,H2,I2,ry,ov,g,q2⟩;exact zJ (c2R hu I2 g ry λw' s3 I3 rw'=>⟨_,H2,I3,rw',q2⟩)))))
theorem b4J(ho:PE X o td)(he:PE X e ty)(m:M1 X o "pop" apos e cpos):PE X (.Call (.Attribute o "pop" apos) [e] [] cpos) (c0S td ty):=by intro pz s U H Q I h;refine wpAny_Call_method m.base m.few m.line PySem.F.plainAttrs_dict PySem.F.slot_dict_pop PySem.F.type_dict_pop (thn (ho pz s U H _ I h) ?_);rintro u s1⟨x,H1,I1,rx,a,ex,d,q1⟩;subst ex;obtain rfl:u=qr a:=rx;obtain⟨t1,t2,_⟩:=b5E I1 d;refine⟨t1,t2,?_⟩;rw[m.trees];refine vz rfl (zy (zA (thn (he pz s1 U H1 _ I1 q1) ?_)));rintro iv s2⟨y,H2,I2,ry,kvs,k,v,ea,ey,l,q2⟩;refine zJ ?_;subst ey;exact c4B I2 ea ry l (.inl rfl) λw' s3 I3 rw'=>⟨v,_,I3,rw',q2⟩
end
section
variable{kvs:List (Key×V)}
end
end L2
namespace Att
open PySem PySem.W PySem.Calls PyProof.Rows
section
variable{K:Frag}
end
end Att
namespace L2
open PySem PySem.Spec PyProof.Rows
section
variable{K:qB}
end
section
variable{κ:Type}[DecidableEq κ]
end
end L2
namespace L2.L3
open PySem PySem.Spec PyProof.Rows
def a5Y(i:Nat)(fa fb:EF):SF:=λZ=>match fa (frzAll Z),fb (frzAll Z)with|some (.ok (.list a)),some (.ok (.list b))=>if(a++b).all a9d&&dI (a.length+b.length)then some (.nx (Z.set i (.lst (a++b))))else none|_,_=>none
variable{a:Expr}
theorem a5b i{x:Str}(P:X.N.Nodup)(N:DE X a fa)(M:DE X b fb)(K:X.N[i]?=some x:=by rfl)(hx:Loc X.env.scope x:=by first|exact jT rfl|exact qu rfl)(hs:wb (.BinOp a .Add b p2) (some (.Name x p)) pos.line X.env=pure false:=by rfl)(L:U7 X x:=by first|exact .inl rfl|exact .inr rfl):DS X (.Assign [.Name x p] (.BinOp a .Add b p2) pos) (a5Y i fa fb):=⟨λF s U H D I⟨Z,o,w,y,G,c,R,q⟩=>a2H P K hx (c0f b0R N.run M.run) hs L F s U H D I (by
 unfold a5Y at c;split at c
 ·rename_i da db ea T;split at c;·rename_i f;rw[qE]at f;cases(qA c);obtain⟨G',A,t⟩:=R.frzAll;refine⟨_,_,w,y,G',ea,t,λv G1 H1 r C=>⟨_,_,w,y,G1,T,t.more r,λu G2 H2 d E=>?_⟩⟩;have g:=r.trans d;have e:=C.mono d.gg;have S:Grow G H G H2:=⟨.refl _,g.hh,A.trans (g.gg.trans g.sub),λ_ z _=>z,id⟩;cases e with|list B k=>cases E with|list Q j=>exact⟨_,_,_,_,rfl,rfl,d.sub.seq B,d.sub.seq Q,by rw[k.length,j.length];exact lY f.2,λl J=>q G _ _ (.refl _) ((R.more S).fresh J (RepAll.plain f.1 (k.append j)))⟩
  ·cases c
 ·cases c)⟩
noncomputable def noD(i:Nat)(Z:List Ent):Bool:=(ql Z.length).all λj=>j==i||(match Z[j]? with|some (.dct _)=>false|_=>true)
theorem c1N(h:noD i Z=true):∀ j ks,Z[j]?=some (.dct ks)->j=i:=λj ks a=>by have:=qp.mp h j (jO.mpr (qR.mp a).1);rw[a]at this;simpa using this
noncomputable def rH(kvs:List (Key×q8))(k:Key)(d:q8):List (Key×q8):=if(kvs.any λkv=>decide (kv.1=k))=true then kvs.map (λkv=>if kv.1=k then(kv.1,d)else kv)else kvs++[(k,d)]
def a1q(i:Nat)(fk fv:EF):SF:=λZ=>match Z[i]? with|some (.dct kvs)=>bns (fv Z) Z λd=>bns (fk Z) Z λk=>(match oG k with|some k=>if dI kvs.length then some (.nx (Z.set i (.dct (rH kvs k d))))else none|none=>none)|_=>none
theorem a8v{e d:Type}{k:Key}:∀{vs:List (Key×e)}{kvs:List (Key×d)},vs.map (·.1)=kvs.map (·.1)->(vs.any λc=>decide (c.1=k))=kvs.any λc=>decide (c.1=k)|[],[],_=>rfl|[],_::_,h=>by simp at h|_::_,[],h=>by simp at h|a::vs,b::kvs,h=>by rw[qI,qI,zN]at h;rw[kB,kB,a8v h.2,h.1]
theorem eA.repl{K:qB}{G:Hp}{k:Key}{v:V}{d:q8}(r:Rep K G v d):∀{vs:List (Key×V)}{kvs:List (Key×q8)},eA K G vs kvs->eA K G (vs.map λe=>if e.1=k then(e.1,v)else e) (kvs.map λe=>if e.1=k then(e.1,d)else e)|[],[],h=>h|[],_::_,h=>by have:=h.1;simp at this|_::_,[],h=>by have:=h.1;simp at this|a::vs,b::kvs,⟨B,h2⟩=>by rw[qI,qI,zN]at B;rw[qI,qI]at h2;cases h2 with|cons o j=>
   obtain⟨i,g⟩:=eA.repl (k:=k) r (vs:=vs) (kvs:=kvs) ⟨B.2,j⟩;by_cases c:b.1=k
   ·have f:=B.1.trans c;refine⟨?_,?_⟩;·simp only[qI,if_pos c,i,B.1]
    ·simp only[qI,if_pos c,if_pos f];exact .cons r g
   ·have f:¬a.1=k:=λz=>c (B.1.symm.trans z);refine⟨?_,?_⟩;·simp only[qI,if_neg c,i,B.1]
    ·simp only[qI,if_neg c,if_neg f];exact .cons o g
variable{k:Key}{vs:List (Key×V)}{kvs:List (Key×q8)}
theorem eA.put{K:qB}(h:eA K G vs kvs)(r:Rep K G v d):eA K G (putK vs k v) (rH kvs k d):=by
 unfold putK rH;rw[a8v h.1];split;·exact eA.repl r h
 ·refine⟨by rw[jC,jC,h.1];rfl,?_⟩;rw[jC,jC];exact h.2.append (.cons r .nil)
theorem eA.len{K:qB}(h:eA K G vs kvs):vs.length=kvs.length:=by have:=congrArg vL h.1;simpa using this
variable{f:Expr}{fd:EF}
theorem b1s i{x:Str}{A:Pos}(hu:X.A.units+64<cLine)(M:DE X e fv)(N:DE X kx fk)(f:U0 X i x:=by exact U1)(hs:wb e (some (.Subscript (.Name x xp) kx A)) pos.line X.env=pure false:=by rfl):DS X (.Assign [.Subscript (.Name x xp) kx A] e pos) (a1q i fk fv):=⟨λJ s U H D I⟨Z,o,H0,Gz,G,g,R,q⟩=>b0I (by lia) (cM f.1 f.2 f.3 f.4) N.run M.run hs J s U H D I (by
  unfold a1q at g;split at g
  ·rename_i K w;obtain⟨a,vs,y,_⟩:=R.ownD w;refine sE R g q λd v G1 H1 g1 S C Q F=>⟨.ref a,y,sE S Q F λk u T H2 P R2 z b E=>?_⟩;split at b
   ·rename_i p t;split at b;·rename_i L;cases(qA b);obtain⟨a',j,c,B,h2,h3,r⟩:=R2.ownD w;rw[y]at c;cases c;rw[gD t]at z;cases gB z;exact⟨a,_,rfl,.inl ⟨j,p,B,rfl,by rw[r.len];exact b0B L,rfl⟩,E T _ U (.refl _) (R2.wroteD w y (r.put (C.mono P.gg)))⟩
    ·cases b
   ·cases b
  ·cases g)⟩
def c4m(D:List (q8×q8))(k z:q8):Option q8:=match oG k with|some k=>some ((dQ k D).getD z)|none=>none
theorem a0k:∀kvs:List (Key×V),nV kvs k=uS k kvs
 |[]=>rfl|p::r=>by
  unfold uS;by_cases c:p.1=k;·rw[if_pos c,xV c]
  ·rw[if_neg c,xW c,a0k r]
theorem xH{k:Key}:∀{kvs:List (Key×V)}{D:List (q8×q8)},D.map (·.1)=kvs.map (λp=>cD p.1)->dQ k D=none->uS k kvs=none
 |[],_,_,_=>rfl|p::r,[],h,_=>by simp at h|p::r,q::D,h,e=>by
  rw[qI,qI,zN]at h;unfold dQ at e;unfold uS;split at e;·cases e
  ·rename_i c;rw[h.1,a5d]at c;rw[if_neg λz=>c (by rw[z])];exact xH h.2 e
variable{D:List (q8×q8)}
theorem b5w{K:qB}{kvs:List (Key×V)}{z:q8}{a:V}(h:D.map (·.1)=kvs.map (λp=>cD p.1))(r:RepAll K G (kvs.map (·.2)) (D.map (·.2)))(c:Rep K G a z):Rep K G ((nV kvs k).getD a) ((dQ k D).getD z):=by rw[a0k];cases e:dQ k D with|none=>rwa[xH h e]|some d=>obtain⟨v,b,f⟩:=oV h r e;rwa[b]
noncomputable def blD:q8->Option Bool|.bool b=>some b|_=>none
theorem b6U{b:Bool}(h:blD d=some b):d=.bool b:=by
 unfold blD at h;split at h;·cases h;rfl
 ·cases h
def c2T(x y:q8):Option q8:=match x,y with|.list Y,.int k=>(match iD intD Y with|some ns=>some (.int (ns.count k:Nat))|none=>none)|.list Y,.bool c=>(match iD blD Y with|some bs=>some (.int (bs.count c:Nat))|none=>none)|_,_=>none
def c2q(x y:q8):Option q8:=match x,y with|.list Y,.bool c=>(match iD blD Y with|some bs=>if c∈bs then some (.int (bs.idxOf c:Nat))else none|none=>none)|_,_=>none
theorem wX:∀{bs:List Bool}{us:T0m},bH (bs.map V.bl) us->us=bs.map jv|[],_,.nil=>rfl|b::bs,_,.cons r t=>by cases r;rw[qI,wX t]
theorem a3u k:∀{us:T0m}{ns:T0s},bH (ns.map V.int) us->us.countP (isInt k)=ns.count k|_,[],.nil=>rfl|_,n::ns,.cons ⟨t,e⟩ r=>by subst e;rw[List.countP_cons,List.count_cons,a3u k r];rfl
section
variable{fo:EF}
theorem b2D:MtM X "list.count" (λx vs H Q=>∃(p:Addr)(ns:T0s)(k:Int),x=.ref p/\vs=[.int k]/\SqL X.K H p (ns.map V.int)/\Q (.int (ns.count k:Nat)) H):=by
 rintro J s U H x vs v E Q I e f⟨p,ns,k,C,A,w,q⟩;subst C A;cases e;obtain⟨u,rfl,t,rfl⟩:=f.one;obtain⟨a,c,g,K⟩:=I.list w;obtain⟨⟨L,D,G,b⟩,i,d,o,_,j⟩:=g;subst o j;have z:=intsAre_of c;refine QG vg ⟨_,d,rfl⟩ F.entry_list_count (F.args_list_count_2 _ _)
  (SeqAt.list_countAt p a.toArray i D b (.int k t) (isInt k)) ⟨d,λy r=>(eq_isInt k t z y (by simpa using r)).at _ _,⟨.int _,H,I.tok _,⟨_,rfl⟩,?_⟩⟩;have:(a.toArray.toList.countP (isInt k):Nat)=ns.count k:=by simpa using a3u k c
 rwa[this]
noncomputable def b5F(c:Bool):Value->Bool|.bool b=>b==c|_=>false
theorem b2E:MtM X "list.count" (λx vs H Q=>∃(p:Addr)(bs:List Bool)(c:Bool),x=.ref p/\vs=[.bl c]/\SqL X.K H p (bs.map V.bl)/\Q (.int (bs.count c:Nat)) H):=by
 rintro J s U H x vs v E Q I e f⟨p,bs,c,C,A,w,q⟩;subst C A;cases e;obtain⟨u,rfl,rfl⟩:=f.one;obtain⟨r,g,i,K⟩:=I.list w;obtain⟨⟨L,D,G,a⟩,j,d,o,_,k⟩:=i;subst o k;have z:=wX g;subst z;refine QG vg ⟨_,d,rfl⟩ F.entry_list_count (F.args_list_count_2 _ _)
  (SeqAt.list_countAt p (bs.map jv).toArray j D a (.bool c) (b5F c)) ⟨d,λy t=>?_,⟨.int _,H,I.tok _,⟨_,rfl⟩,?_⟩⟩;·obtain⟨b,_,rfl⟩:=qK.mp (show y∈bs.map jv by simpa using t);exact wF b c
 ·have:((bs.map jv).toArray.toList.countP (b5F c):Nat)=bs.count c:=by rw[List.countP_map];rfl
  rwa[this]
theorem b2C:MtM X "list.index" (λx vs H Q=>∃(p:Addr)(bs:List Bool)(c:Bool),x=.ref p/\vs=[.bl c]/\SqL X.K H p (bs.map V.bl)/\c∈bs/\Q (.int (bs.idxOf c:Nat)) H):=by
 rintro pz s U H x vs v us Q I rx rv⟨p,bs,c,e1,e2,hq,hc,q⟩;subst e1 e2;cases rx;obtain⟨u,rfl,rfl⟩:=rv.one;obtain⟨its,r1,p1,hz⟩:=I.list hq;obtain⟨⟨c1,d1,t1,sl1⟩,n1,g1,k1,_,m1⟩:=p1;subst k1 m1;have hi:=wX r1;subst hi;have lt:=List.idxOf_lt_length_iff.mpr hc;rw[qD]at hz;have hz2:(j5:Nat)<2^62:=by rw[wu];decide
 refine QG F.slot_list_index ⟨_,g1,rfl⟩ F.entry_list_index (F.args_list_index_2 _ _)
  (SeqAt.list_indexAt p (bs.map jv).toArray n1 d1 sl1 (.bool c) (b5F c) (bs.idxOf c) (by simpa using lt) (by lia) ?_ ?_) ⟨g1,λy hy=>?_,⟨.int _,H,I.tok _,⟨_,rfl⟩,q⟩⟩;·have:=List.getElem_idxOf lt;simpa[b5F]using this
 ·intro j hjs hlt;have B:j<bs.length:=by simpa using hjs
  have:=List.not_of_lt_findIdx (p:=(·==c)) (xs:=bs) hlt;simpa[b5F]using this
 ·obtain⟨b,_,rfl⟩:=qK.mp (show y∈bs.map jv by simpa using hy);exact wF b c
theorem b6A(E:DE X o fo)(I:DE X e fa)(i:U8 X o "count":=by rfl)(t:U4 X cpos (e::[]):=by rfl)(f:(apos.endLine==cpos.line)=true:=by rfl)(j:U5 X e []:=by rfl)(b:U6 X cpos []:=by rfl):DE X (.Call (.Attribute o "count" apos) [e] [] cpos) (dfE c2T fo fa):=a1F λZ r h=>by
 unfold dfE at h;split at h
 ·rename_i x y K J;obtain⟨d,p,rfl⟩:=bL h;refine⟨d,rfl,?_⟩;unfold c2T at p;split at p
  ·rename_i Y k;split at p;·rename_i M D;have C:=iP (g:=km) (λd a q=>a6n q) D;subst C;cases(qA p);exact b4N F.plainAttrs_list vg F.type_list_count b2D (E.pd K) (yF (I.pd J) a1Y j) (λx G H s r=>by cases r with|list u _=>exact .inl ⟨rfl,_,s.seq u⟩) (λx L G H Q s r v q=>by cases r with|list u w=>have e:=w.ints;subst e;cases v with|cons A z=>cases A;cases z;exact⟨_,M,k,rfl,rfl,s.seq u,q _ G H (.refl s) (.int _)⟩) i t f j b
   ·cases p
  ·rename_i Y c;split at p;·rename_i bs D;have C:=iP (g:=wP) (λd a q=>b6U q) D;subst C;cases(qA p);exact b4N F.plainAttrs_list vg F.type_list_count b2E (E.pd K) (yF (I.pd J) a1Y j) (λx G H s r=>by cases r with|list u _=>exact .inl ⟨rfl,_,s.seq u⟩) (λx L G H Q s r v q=>by cases r with|list u w=>have e:=w.bools;subst e;cases v with|cons A z=>cases A;cases z;exact⟨_,bs,c,rfl,rfl,s.seq u,q _ G H (.refl s) (.int _)⟩) i t f j b
   ·cases p
  ·cases p
 ·cases h
theorem b3j(C:DE X o fo)(E:DE X e fa)(j:U8 X o "index":=by rfl)(p:U4 X cpos (e::[]):=by rfl)(i:(apos.endLine==cpos.line)=true:=by rfl)(k:U5 X e []:=by rfl)(b:U6 X cpos []:=by rfl):DE X (.Call (.Attribute o "index" apos) [e] [] cpos) (dfE c2q fo fa):=a1F λZ r h=>by
 unfold dfE at h;split at h
 ·rename_i x y K J;obtain⟨d,f,rfl⟩:=bL h;refine⟨d,rfl,?_⟩;unfold c2q at f;split at f
  ·rename_i Y c;split at f
   ·rename_i bs I;split at f;·rename_i D;have A:=iP (g:=wP) (λd a q=>b6U q) I;subst A;cases(qA f);exact b4N F.plainAttrs_list F.slot_list_index F.type_list_index b2C (C.pd K) (yF (E.pd J) a1Y k) (λx G H s r=>by cases r with|list t _=>exact .inl ⟨rfl,_,s.seq t⟩) (λx L G H Q s r u q=>by cases r with|list t v=>have e:=v.bools;subst e;cases u with|cons z w=>cases z;cases w;exact⟨_,bs,c,rfl,rfl,s.seq t,D,q _ G H (.refl s) (.int _)⟩) j p i k b
    ·cases f
   ·cases f
  ·cases f
 ·cases h
end
def a7E(i:Nat)(f:AF):SF:=λZ=>bns (f Z) Z λO=>match O with|[.list Y]=>(match iD rJ Y with|some kvs=>if decide (kvs.map (·.1)).Nodup&&decide (kvs.length<=1000)&&noD i Z then some (.nx (Z.set i (.dct kvs)))else none|none=>none)|_=>none
def a3j(k d:q8):Option Bool:=match d,oG k with|.dict D,some k=>some (dQ k D).isSome|_,_=>none
def rK(k d:q8):Option Bool:=(a3j k d).map (!·)
noncomputable def xM(kvs:List (Key×q8))(k:Key):List (Key×q8):=kvs.filter λkv=>decide (kv.1≠k)
theorem eA.keys{K:qB}(r:eA K G vs kvs):(kvs.map λp=>(cD p.1,p.2)).map (·.1)=vs.map λp=>cD p.1:=by rw[qc];have:=congrArg (List.map cD) r.1;rw[qc,qc]at this;exact this.symm
theorem eA.vals{K:qB}(r:eA K G vs kvs):RepAll K G (vs.map (·.2)) ((kvs.map λp=>(cD p.1,p.2)).map (·.2)):=by rw[qc];exact r.2
theorem eA.drop{K:qB}{G:Hp}{k:Key}:∀{vs:List (Key×V)}{kvs:List (Key×q8)},eA K G vs kvs->eA K G (a3t vs k) (xM kvs k)|[],[],h=>h|[],_::_,h=>by have:=h.1;simp at this|_::_,[],h=>by have:=h.1;simp at this|a::vs,b::kvs,⟨B,h2⟩=>by rw[qI,qI,zN]at B;rw[qI,qI]at h2;cases h2 with|cons i g=>
   obtain⟨e,d⟩:=eA.drop (k:=k) (vs:=vs) (kvs:=kvs) ⟨B.2,g⟩;unfold a3t xM at e d⊢;by_cases c:b.1=k;·have f:=B.1.trans c;rw[jV (by simpa using f),jV (by simpa using c)];exact⟨e,d⟩
   ·have f:¬a.1=k:=λz=>c (B.1.symm.trans z);rw[jE (by simpa using f),jE (by simpa using c)];exact⟨by rw[qI,qI,e,B.1],by rw[qI,qI];exact .cons i d⟩
theorem lT{K:qB}{kvs:List (Key×V)}(h:D.map (·.1)=kvs.map (λp=>cD p.1))(r:RepAll K G (kvs.map (·.2)) (D.map (·.2))):(nV kvs k).isSome=(dQ k D).isSome:=by rw[a0k];cases e:dQ k D with|none=>rw[xH h e];rfl|some d=>obtain⟨v,a,_⟩:=oV h r e;rw[a];rfl
theorem b6n i{x:Str}{f:AF}(S:X.calm=true)(T:X.N.Nodup)(K:X.mg "dict"=none)(h:DA X [e] f)(N:Gl X "dict":=by rfl)(Q:j4 [e] X.env=(false,eval e X.env)::j4 [] X.env:=by rfl)(u:U6 X p3 []:=by rfl)(M:X.N[i]?=some x:=by rfl)(hx:Loc X.env.scope x:=by first|exact jT rfl|exact qu rfl)(hs:wb (.Call (.Name "dict" p2) [e] [] p3) (some (.Name x p)) pos.line X.env=pure false:=by rfl)(P:U7 X x:=by first|exact .inl rfl|exact .inr rfl):DS X (.Assign [.Name x p] (.Call (.Name "dict" p2) [e] [] p3) pos) (a7E i f):=⟨λF s U H D I⟨Z,o,H0,Gz,G,ef,R,q⟩=>a2H T M hx (a4E (a5h S) N K boot_dict h.run (by decide) (by decide) Q u) hs P F s U H D I (sA R ef q λO vs G1 H1 y R1 g c E=>by
 split at c
 ·rename_i Y;split at c
  ·rename_i j L;split at c;·rename_i k;cases(qA c);rw[qE,qE,decide_eq_true_eq,decide_eq_true_eq]at k;cases g with|cons g C=>cases C;cases g with|list J r=>
     obtain⟨w,A,d,z⟩:=a0C r L;have hl:w.length=j.length:=by have:=congrArg vL d;simpa using this
     exact⟨_,_,w,rfl,y.sub.seq J,Paired.mapP A (by rintro a b⟨t,c,e2⟩;exact⟨t,c,rV y.sub e2⟩),by rw[d];exact k.1.1,by lia,λl v=>E G1 _ _ (.refl _) (R1.freshD v (c1N k.2) ⟨d,z⟩)⟩
   ·cases c
  ·cases c
 ·cases c)⟩
theorem c2O(hu:X.A.units+64<cLine)(E:DE X e fk)(A:DE X o fd)(C:v9 .In o=false:=by rfl):DE X (.Compare e [.In] [o] pos) (a8o a3j fk fd):=⟨λz s U H Q I⟨Z,r,T,Gz,G,F,R,q⟩=>b4L (a9h (by lia) E.run A.run) C z s U H Q I (bE R F q.x λk u G1 S p N i L=>bE N L (q.more p).x λx v G2 P j R2 w K=>by
  obtain⟨d,J,rfl⟩:=bL K;obtain⟨t,f,rfl⟩:=qH.mp J;unfold a3j at f;split at f;·rename_i D c g;cases(qA f);rw[gD g]at i;cases gB i;cases w with|dict h M y=>rename_i a b;refine⟨a,nV b c,rfl,.inl ⟨b,c,nD j.sub h,rfl,rfl⟩,?_⟩;rw[lT M y];exact q _ _ _ (p.trans j) (.bool _)
  ·cases f)⟩
theorem c2G(hu:X.A.units+64<cLine)(C:DE X e fk)(z:DE X o fd)(A:v9 .In o=false:=by rfl):DT X (.Compare e [.In] [o] pos) (bJ a3j fk fd):=⟨λy s U H Q I⟨Z,r,P,S,G,E,R,q⟩=>a9c (a9h (by lia) C.run z.run) A y s U H Q I (bE R E q.x λk u G1 N j L g J=>bE L J (q.more j).x λx v T M i R2 p F=>by
  obtain⟨t,d,rfl⟩:=bL F;unfold a3j at d;split at d;·rename_i D c f;cases(qA d);rw[gD f]at g;cases gB g;cases p with|dict h K w=>rename_i a b;refine⟨a,nV b c,rfl,.inl ⟨b,c,nD i.sub h,rfl,rfl⟩,?_⟩;rw[lT K w];exact⟨_,rfl,q _ _ (j.trans i)⟩
  ·cases d)⟩
theorem c0r(h:(bI P w).is k u=true):RelV (kV k) u:=by
 rw[a9u]at h;obtain⟨i,t,rfl,rfl⟩|⟨x,t,rfl,rfl⟩:=dA h;·exact⟨t,rfl⟩
 ·exact⟨t,rfl⟩
theorem a4R{P:Program}{w:World}:∀(l:List (Key×V))(vs:List (Key×Value))(us:T0m),KV l vs->us.length=vs.length->(∀(j:Nat)(v:Value),us[j]?=some v->∃k x,vs[j]?=some (k,x)/\(bI P w).is k v=true)->bH (l.map λp=>kV p.1) us
 |[],_,us,r,hl,_=>by cases r;cases us with|nil=>exact .nil|cons _ _=>simp at hl
 |p::l,_,us,r,hl,h=>by cases r with|@cons _ q _ a B t=>cases us with|nil=>simp at hl|cons u us=>
   refine .cons ?_ (a4R (P:=P) (w:=w) l a us t (by simpa using hl) λj v e=>?_);·obtain⟨k,x,e,g⟩:=h 0 u rfl;cases e;show RelV (kV p.1) u;rw[B.1];exact c0r g
   ·obtain⟨k,x,e,g⟩:=h (j+1) v (by simpa using e);exact⟨k,x,by simpa using e,g⟩
theorem a2G{K:qB}{G:Hp}:∀(l:List (Key×V)),RepAll K G (l.map λp=>kV p.1) (l.map λp=>cD p.1)|[]=>.nil|(.inl i,_)::l=>.cons (.int i) (a2G l)|(.inr x,_)::l=>.cons (.str x) (a2G l)
end L2.L3
namespace L2.SX
open PySem PyProof.Rows
section
variable{K:Type}[DecidableEq K]{knd:KeyKind prog w K}
end
section
variable{K:Type}[DecidableEq K]{knd:KeyKind prog w K}
end
end L2.SX
namespace L2.L3
open PySem PySem.Spec PyProof.Rows PySem.Calls
section
variable{e1 e2:Expr}{q1 q2:Pos}
end
end L2.L3
namespace L2.L3
open PySem PySem.Spec PyProof.Rows
def c5H(d:q8):Bool:=(oG d).isSome
noncomputable def pW(Db:List (q8×q8)):List (q8×q8)->Bool|[]=>true|p::r=>match za p.1 Db with|none=>false|some u=>p.2.eqv u&&pW Db r
theorem a5a a:∀b,PySem.W.KeqRows a b (pW a b)|[]=>.nil|(k,v)::r=>by unfold pW;cases h:za k a with|none=>exact .miss h|some u=>exact .hit h (a5a a r)
theorem a0t a b:Spec.same (cD a) (cD b)=decide (a=b):=by cases a<;>cases b<;>simp[cD,Spec.same]<;>(rw[jz];rfl)
section
variable{cap:T0e}
end
section
variable{o:HO}
theorem Inv.as(I:Inv X pz U H s)(e:H a=some o)(B:∀Y,o≠.tup Y)(w:∀ob u,X.H₀ a≠some (.frz ob u))(v:∀p,o≠.tbl p)(t:∀x,o≠.own x)(g:cU X.prog X.w (upd H a o') s.heap a o'):Inv X pz U (upd H a o') s:=by
 have ne:∀b,H b=none->b≠a:=λb d z=>by rw[z,e]at d;cases d
 have f:∀b,H b=none->upd H a o' b=none:=λb d=>by rwa[aE (ne b d)]
 refine⟨I.ok,I.os,I.bare,⟨I.base.keep,I.base.slot,λb ob q n j=>f b (I.base.free b ob q n j),I.base.there,λb Y q=>?_,λb ob u q=>?_,λb i q=>?_⟩,I.loc,I.cell,f _ I.free,λx c q=>f _ (I.freeC x c q),λp k=>?_,λb u q=>?_,I.len⟩;·have z:=I.base.tups b Y q;rwa[aE (λy=>by rw[y,e]at z;exact B _ (qA z))]
 ·rw[aE (λy=>w ob u (by rwa[<-y]))];exact I.base.frzs b ob u q
 ·obtain⟨m,z⟩:=I.base.tbls b i q;exact⟨m,by rwa[aE (λy=>by rw[y,e]at z;exact v _ (qA z))]⟩
 ·obtain⟨A,n,r⟩:=I.pin p k;exact⟨A,f _ n,r⟩
 ·by_cases d:b=a;·subst d;rw[aJ]at q;cases q;exact g
  ·rw[aE d]at q;refine(I.hok b u q).stay (λ_ _ _ z=>z) (λc z=>?_) λc Y z=>?_;·rwa[aE (λy=>by rw[y,e]at z;exact t _ (qA z))]
   ·rwa[aE (λy=>by rw[y,e]at z;exact B _ (qA z))]
end
theorem c4c{vs:List (Key×Value)}(r:KV kvs vs){p:Key×V}(h:kvs[i]?=some p):∃u,vs[i]?=some (p.1,u)/\RelV p.2 u:=by induction r generalizing i with|nil=>simp at h|@cons x y _ _ B t a=>cases i with|zero=>simp at h;subst h;exact⟨y.2,by simp[B.1],B.2⟩|succ i=>simpa using a (by simpa using h)
section
variable{cap:T0e}
theorem Tab.as{P:Addr}{o:HO}(e:H a=some o)(j:∀p,o≠.tbl p)(b:∀n,o≠cdO a n)(h:Tab P q H):Tab P q (upd H a o'):=by obtain⟨i,c,r,k⟩:=h;refine⟨i,by rwa[aE (λz=>by rw[z,e]at c;exact j _ (qA c))],r,λp t g=>?_⟩;obtain⟨d,s,f⟩:=k p t g;exact⟨d,s,by rwa[aE (λz=>by subst z;rw[e]at f;exact b _ (qA f))]⟩
theorem c2u(I:Inv X pz U H s)(hs:aT G H)(h:Rd G a (.dK kvs)):∃ob o,G a=some o/\(∀p,o≠.tbl p)/\(∀n,o≠cdO a n)/\Inv X pz U (upd H a (.frz ob (.dK kvs))) s/\∀ s' H',Inv X pz U H' s'->H' a=some (.frz ob (.dK kvs))->Inv X pz U (upd H' a o) s':=by
 obtain j|⟨ob,i⟩:=h
 ·have d:=hs _ _ j;obtain⟨z,K,k,r,F⟩:=b6t I.hok d;obtain⟨ob,L,N,w,M⟩:=id F;have g:∀ob u,X.H₀ a≠some (.frz ob u):=λt u y=>by have:=I.base.frzs a t u y;rw[d]at this;cases this
  refine⟨ob,.dK kvs,j,by nofun,by nofun,Inv.as (o':=.frz ob (.dK kvs)) I d (by nofun) g (by nofun) (by nofun) ⟨w,z,K,k,r,F⟩,λs' H' C c=>?_⟩;obtain⟨_,J,v,q,f,A⟩:=(show s'.heap.get? a=some ob/\kvs.length<=j5/\(a==wg)=false/\∃k,KV kvs k/\s'.heap.DictOf (bI X.prog X.w) a k from C.hok a _ c);exact Inv.as (o':=.dK kvs) C c (by nofun) g (by nofun) (by nofun) ⟨J,v,q,f,A⟩
 ·have D:∀(H':Hp),H' a=some (.frz ob (.dK kvs))->upd H' a (.frz ob (.dK kvs))=H':=λH' e=>by
   funext b;by_cases E:b=a;·rw[E,aJ,e]
   ·rw[aE E]
  refine⟨ob,.frz ob (.dK kvs),i,by nofun,by nofun,by rwa[D H (hs _ _ i)],λs' H' C c=>by rwa[D H' c]⟩
end
section
variable{N:Hp}
end
theorem a8O{r d:Addr}{n:Nat}{P:Nat->Value->Prop}{OK:Heap->Prop}{ss:T0q}(K:PySem.W.KdlSrc prog w T r d n P OK)(hh:A.handled=none)(hok:OK s.heap)(h64:n<64)(hP:∀acc,ItemsOf P acc n->u3 acc.toList ss)(h:∀(B:Heap) tk h2 ep out(ss':T0q),(U9 s.heap B)->(U9 B h2)->h2.get? B.objs.size=some (v7 "list" out ep)->u3 out.toList ss'->ss'.Perm ss->sortedS ss'=true->Q (.ref B.objs.size) {s with heap:=h2,toks:=tk}):wpAny (model prog w) A (call (.builtin "sorted") [.ref r]) Q E s:=by
 refine vT kind_sorted plain_sorted entry_sorted (args_sorted1 _) ?_;refine j0 (m:=checkCount "sorted" 1 1 _) (j3 (j0 (PySem.W.kdu_collect K hh hok (by rw[wu];exact Q4 ‹_› rfl) λB tk acc kp hi=>?_)));have hS:=hP acc hi;have hl:acc.toList.length<64:=by rwa[qJ,hi.1]
 have hoL:(B.push (v7 "list" acc.toList.toArray 0)).get? B.objs.size=some (v7 "list" acc.toList.toArray 0):=qP _ rfl;refine j0 (u6 ?_ (by rw[wu];exact Q4 ‹_› rfl));refine j0 (k7 (v8 slot_list_sort ⟨_,hoL,rfl⟩ entry_list_sort (list_sort_treeK strKind_oneLt hoL hS.keysOf (λv1z v2z rest e=>keyKind_strs (by rwa[<-e])) hl λst' a1 a2=>⟨_,rfl,?_⟩) (args_list_sort _)));obtain⟨ss',b1,b2,b3⟩:=sorted_out_str hS a1 a2;generalize(arrOf st').map (·.2)=out at b1;obtain⟨e1,ho1⟩:∃e1,((B.push (v7 "list" acc.toList.toArray 0)).update B.objs.size (kD λ_=>#[])).get? B.objs.size=some (v7 "list" #[] e1):=⟨_,yn hoL (λ_=>#[])⟩;have ho6:=qC (v7 "list" #[] 0) (qC (v7 "tuple" acc.toList.toArray 0) ho1);obtain⟨e2,ho2⟩:∃e2,(ub (B.push (v7 "list" acc.toList.toArray 0)) B.objs.size acc.toList out).get? B.objs.size=some (v7 "list" out e2):=⟨_,yn ho6 (λ_=>out)⟩;refine j3 ⟨_,rfl,h B tk _ e2 out ss' kp (λb o q=>?_) ho2 b1 b2 b3⟩;have hb:=qW (qN q);unfold ub;rw[ki _ _ _ _ hb];refine qC _ (qC _ ?_);rw[ki _ _ _ _ hb];exact qC _ q
theorem yV(M:X.calm=true):lK X (.builtin "sorted") (λY H Q=>∃(a:Addr)(kvs:List (Key×V))(ns:T0q),Y=[V.ref a]/\Rd H a (.dK kvs)/\kvs.map (·.1)=ns.map zB/\ns.length<64/\∀l,H l=none->Q (.ref l) (upd H l (.lst ((gW ns).map V.str)))):=by
 rintro pz s U H Y us Q I r⟨a,kvs,ns,e,N,A,R,q⟩;subst e;obtain⟨u,rfl,E⟩:=vals1 r;cases E;obtain⟨z,F,k,b,S⟩:=a5c I.hok N;obtain⟨ep,g⟩:=S.dictAt;have G:kvs.length=ns.length:=by have:=congrArg vL A;rwa[qD,qD]at this
 refine a8O (ss:=ns) (PySem.W.kdl_dict (knd:=bI X.prog X.w) (kvs:=k) (ep:=ep) F) (I.ok.hd M) g (by rwa[<-b.length,G]) (λi y=>?_) λB o h2 f c D J d K b1 b2 T=>?_
 ·have t:=a4R (P:=X.prog) (w:=X.w) kvs k i.toList b (by rw[qJ];exact y.1) (λj v e=>y.2 j v (by rwa[<-qk]));have:(kvs.map λp=>kV p.1)=ns.map V.str:=by have:=congrArg (List.map kV) A;rwa[qc,qc]at this
  rw[this]at t;exact a2p t
 ·have e:=a7d b2 T;subst e;have C:=I.kept (t':=o) J;have L:=C.hok.fresh (qQ _);refine⟨.ref B.objs.size,_,C.laid (t':=o) d (qQ _) ?_,rfl,q _ L⟩;refine⟨?_,c.toList,f,a0j b1,?_⟩;·rw[qD,(bX ns).length_eq];exact jP (oN (by exact Q4 ‹_› rfl))
  ·rw[K]
noncomputable def c2i:q8×q8->Option Str:=λp=>match p.1 with|.str x=>some x|_=>none
def a6N:List (q8×q8)->Option (List Str)|[]=>some []|p::r=>match c2i p,a6N r with|some x,some Y=>some (x::Y)|_,_=>none
def a1p(O:T0l):Option q8:=match O with|[.dict D]=>(match a6N D with|some ns=>if ns.length<64 then some (.list ((gW ns).map .str))else none|none=>none)|_=>none
theorem a6M:∀{D:List (q8×q8)}{ns:T0q},a6N D=some ns->D.map (·.1)=ns.map .str
 |[],ns,h=>by cases h;rfl|(k,v)::r,ns,h=>by
  unfold a6N at h;split at h
  ·rename_i x Y a b;cases h;rw[qI,qI,a6M b];congr 1;unfold c2i at a;dsimp only at a;split at a;·cases a;rfl
   ·cases a
  ·cases h
theorem a0L:∀{kvs:List (Key×V)}{ns:T0q},(kvs.map λp=>cD p.1)=ns.map .str->kvs.map (·.1)=ns.map zB|[],[],_=>rfl|[],_::_,h=>by cases h|_::_,[],h=>by cases h|(k,v)::r,x::ns,h=>by rw[qI,qI]at h;injection h with B h2;rw[qI,qI,a0L h2];congr 1;cases k with|inl i=>cases B|inr y=>injection B with B;subst B;rfl
theorem b3Y(j:X.calm=true) O d(h:a1p O=some d):CallD X (.builtin "sorted") O d:=by
 unfold a1p at h;split at h
 ·rename_i D;split at h
  ·rename_i g e;split at h;·rename_i c;cases(qA h);exact⟨_,yV j,λo G H Q s r q=>by cases r with|cons r f=>cases f;cases r with|dict i k f=>rename_i a b;refine⟨a,b,g,rfl,nD s i,a0L (k.symm.trans (a6M e)),c,λl c=>q _ _ _ (.put s c) (.list (.of aJ) (lN _))⟩⟩
   ·cases h
  ·cases h
 ·cases h
section
variable{fo:EF}
end
theorem b1r{y:EF}(hu:X.A.units+64<cLine)(K:DE X e fk)(F:DE X o y)(J:v9 .NotIn o=false:=by rfl):DT X (.Compare e [.NotIn] [o] pos) (bJ rK fk y):=⟨λE s U H Q I⟨Z,r,H0,Gz,G,L,R,q⟩=>a9c (a4F (by lia) K.run F.run) J E s U H Q I (bE R L q.x λk u G1 H1 w S j N=>bE S N (q.more w).x λx v G2 H2 p R2 A M=>by
  obtain⟨t,z,rfl⟩:=bL M;obtain⟨T,b,g⟩:=qH.mp z;clear z;unfold a3j at b;split at b;·rename_i D d f;have i:=qA b;subst i;subst g;rw[gD f]at j;cases gB j;cases A with|dict h P C=>rename_i a c;refine⟨a,nV c d,rfl,.inl ⟨c,d,nD p.sub h,rfl,rfl⟩,?_⟩;rw[lT P C];exact⟨_,rfl,q _ _ (w.trans p)⟩
  ·cases b)⟩
end L2.L3
namespace L2.L3
open PySem PySem.Spec PySem.Calls PyProof.Rows
noncomputable def gH(Z:List Ent):Bool:=Z.all λe=>match e with|.ro _ _=>false|_=>true
variable{b:BS}
theorem b8w(h:gH Z=true):Z[i]?≠some (.ro oa b):=λz=>by have:=qp.mp h _ (kA z);cases this
theorem BOk.nd{K:qB}(h:BOk K G H a b fp):fp.Nodup:=by obtain⟨p,d,o,k,j,Y,i,rfl,n,B,e,c,g,f,_⟩:=h;simp only[jy,qM,kF,not_or,not_false_eq_true,List.nodup_nil,and_true];exact⟨⟨bS B e (by nofun),bS B c (by nofun),bS B g (by nofun),bS B f (by nofun)⟩,⟨bS e c (by nofun),bS e g (by nofun),bS e f (by nofun)⟩,⟨bS c g (by nofun),bS c f (by nofun)⟩,n⟩
theorem Tab.tr{P:Addr}(t:Tab P q H)(k:∀x o,H x=some o->¬uW o->H' x=some o):Tab P q H':=by obtain⟨b,B,f,d⟩:=t;refine⟨b,k _ _ B (λz=>z),f,λa j e=>?_⟩;obtain⟨c,i,g⟩:=d a j e;exact⟨c,i,k _ _ g (λz=>z)⟩
section
variable{K:qB}{β:Sto}{fp':T0o}
theorem RepS.back(R:RepS K H1 Gz G H U Z)(hn:gH Z=true)(k1:∀x∈fp,∃o,H x=some o/\uW o)(k2:∀x∈fp,H1 x≠none)(k3:∀x∈fp',(∃o,H' x=some o/\uW o)/\less H fp x=none/\G' x=none)(g:Grow G (plus (less H fp) H' fp') G' H'):RepS K (plus (less H1 fp) H' fp') Gz G' H' U Z:=by
 have s:∀x o,x∉fp->H x=some o->plus (less H fp) H' fp' x=some o:=λx o nx e=>by rw[bG (λz=>by have:=(k3 x z).2.1;rw[cA nx,e]at this;cases this),cA nx,e]
 have keep:∀x o,x∉fp->H x=some o->(∀L,o≠.tbl L)->H' x=some o:=λx o nx e nt=>g.hh.keep x o (s x o nx e) nt;have nk:∀x o,H x=some o->¬uW o->x∉fp:=λx o e n z=>by obtain⟨S,A,k⟩:=k1 x z;rw[e]at A;cases A;exact n k
 have T:∀x o,x∉fp->H x=some o->x∉fp':=λx o nx e z=>by have:=(k3 x z).2.1;rw[cA nx,e]at this;cases this
 have u:∀P q,Tab P q H->Tab P q H':=λP q t=>g.hh.tab P q (t.tr λx o e n=>s x o (nk x o e n) e);have own:∀x o,H1 x=none->H x=some o->x∉fp/\plus (less H1 fp) H' fp' x=none:=λx o D e=>by have nx:x∉fp:=λz=>k2 x z D;exact⟨nx,by rw[bG (T x o nx e),cA nx,D]⟩
 have I:∀x o,x∉fp->H x=some o->G x=none->G' x=none:=λx o nx e n=>g.new x n (by rw[s x o nx e];simp);refine⟨⟨R.grow.gg.trans g.gg,⟨λx o e nt=>?_,λx L e=>?_,λP q t=>?_⟩,g.sub,λx e n=>?_,λz=>g.nt (R.grow.nt z)⟩,R.len,λi o e B M=>?_,R.inj.other λj a' dss B M vs e=>?_,⟨λx hx c P e=>u _ _ (R.tab.1 x hx c P e),g.nt R.tab.2⟩⟩
 ·by_cases p:x∈fp';·rwa[cN p]at e
  ·rw[bG p]at e;by_cases h:x∈fp;·rw[fC h]at e;cases e
   ·rw[cA h]at e;exact keep x o h (R.grow.hh.keep x o e nt) nt
 ·by_cases p:x∈fp';·rw[cN p]at e;exact⟨L,e⟩
  ·rw[bG p]at e;by_cases h:x∈fp;·rw[fC h]at e;cases e
   ·rw[cA h]at e;obtain⟨p1,D⟩:=R.grow.hh.tbl x L e;exact g.hh.tbl x p1 (s x _ h D)
 ·refine u P q (R.grow.hh.tab P q (t.tr λx o e n=>?_));by_cases p:x∈fp';·rw[cN p]at e;obtain⟨S,A,k⟩:=(k3 x p).1;rw[e]at A;cases A;exact absurd k n
  ·rw[bG p]at e;by_cases h:x∈fp;·rw[fC h]at e;cases e
   ·rwa[cA h]at e
 ·by_cases p:x∈fp';·exact(k3 x p).2.2
  ·rw[bG p]at n;by_cases h:x∈fp;·rw[fC h]at n;exact absurd rfl n
   ·rw[cA h]at n;cases q:H1 x with|none=>exact absurd q n|some o=>obtain⟨S,A⟩:=R.grow.hh.ne q;exact I x S h A (R.grow.new x e n)
 ·have E:=R.ent i o e B M;cases e with|no=>trivial|val d=>obtain⟨v,z,Q⟩:=E;exact⟨v,z,Q.mono g.gg⟩|lst es=>obtain⟨x,Y,z,f,w,J,Q⟩:=E;obtain⟨nx,F⟩:=own x _ J f;exact⟨x,Y,z,keep x _ nx f (by nofun),I x _ nx f w,F,Q.mono g.gg⟩|exc c=>obtain⟨x,C,z,f,w⟩:=E;exact⟨x,C,z,f,keep x _ (nk x _ w (λz=>z)) w (by nofun)⟩|nst dss=>obtain⟨x,bs,z,f,w,J,g4,g5,r⟩:=E;obtain⟨nx,F⟩:=own x _ J f;refine⟨x,bs,z,keep x _ nx f (by nofun),I x _ nx f w,F,g4,g5,Paired.mapP r ?_⟩;rintro y O⟨Y,N,x2,x3,x4⟩;obtain⟨ny,n2⟩:=own y _ x3 N;exact⟨Y,keep y _ ny N (by nofun),I y _ ny N x2,n2,x4.mono g.gg⟩|dct kvs=>obtain⟨x,vs,z,f,w,J,r⟩:=E;obtain⟨nx,F⟩:=own x _ J f;exact⟨x,vs,z,keep x _ nx f (by nofun),I x _ nx f w,F,r.mono g.gg⟩|adr a=>exact E|ro oa b=>exact absurd M (b8w hn)
 ·obtain⟨x,bs,D,X,_,e3,_⟩:=R.ent j _ _ B M;cases D;rw[keep _ _ (own _ _ e3 X).1 X (by nofun)]at e;cases e;exact X
theorem a4t:∀{β:Sto}{fps:List (List Addr)},Paired (λ(p:Addr×BS)fp=>BOk K G H p.1 p.2 fp) β fps->eT β a=some b->∃d c g f fp,fps=g++fp::f/\Paired (λ(p:Addr×BS)fp=>BOk K G H p.1 p.2 fp) d g/\BOk K G H a b fp/\Paired (λ(p:Addr×BS)fp=>BOk K G H p.1 p.2 fp) c f/\∀b',lA β a b'=d++(a,b')::c
 |_,_,.nil,e=>nomatch e|p::β,_,.cons (l₂:=fs) r t,e=>by
  unfold eT at e;split at e;·rename_i h;cases(qA e);exact⟨[],β,[],fs,_,rfl,.nil,h▸r,t,λb'=>by unfold lA;rw[if_pos h];rfl⟩
  ·rename_i h;obtain⟨d,c,g,f,fp,q,k,i,j,o⟩:=a4t t e;exact⟨p::d,c,_::g,f,fp,by rw[q];rfl,.cons r k,i,j,λb'=>by unfold lA;rw[if_neg h,o];rfl⟩
theorem a2O{b a:Type}{F:b->a->Prop}:∀{l d:List b}{m c:List a},Paired F l m->Paired F d c->Paired F (l++d) (m++c)|_,_,_,_,.nil,h=>h|_,_,_,_,.cons r t,h=>.cons r (a2O t h)
theorem bF.chg(R:bF K H0 Gz G H U Z β)(hn:gH Z=true)(hg:eT β a=some b):∃fp,BOk K G H a b fp/\(∀x∈fp,G x=none)/\∀ G' H' b' fp',BOk K G' H' a b' fp'->(∀x∈fp',less H fp x=none/\G' x=none)->Grow G (plus (less H fp) H' fp') G' H'->bF K H0 Gz G' H' U Z (lA β a b'):=by
 obtain⟨fps,S,R⟩:=R;obtain⟨X,T,s,j,fp,rfl,p1,hb,p2,es⟩:=a4t S.each hg;have mem:∀x,x∈(s++fp::j).flatten↔x∈s.flatten\/x∈fp\/x∈j.flatten:=λx=>by rw[zl,jI,qX,qX]
 refine⟨fp,hb,λx c=>(S.out x ((mem x).mpr (.inr (.inl c)))).2,λG' H' b' fp' v D g=>?_⟩;have nd:=S.nd;rw[zl,jI,jL,jL]at nd;obtain⟨F,⟨ndp,E,M⟩,Q⟩:=nd;have o1:∀x∈s.flatten,x∉fp:=λx c z=>Q x c x (jQ _ z) rfl;have o2:∀x∈j.flatten,x∉fp:=λx c z=>M x z x c rfl;have k:=S.kind;have d:∀x,x∈s.flatten\/x∈j.flatten->x∉fp/\x∉fp'/\H' x=H x/\(∃o,H x=some o/\uW o)/\G' x=none/\H0 x=none:=λx c=>by
  have L:=(mem x).mpr (c.elim .inl λz=>.inr (.inr z));have nx:=c.elim (o1 x) (o2 x);obtain⟨o,e,P⟩:=k x L;have u:x∉fp':=λz=>by have:=(D x z).1;rw[cA nx,e]at this;cases this
  have m:plus (less H fp) H' fp' x=some o:=by rw[bG u,cA nx,e]
  exact⟨nx,u,by rw[e,g.hh.keep x o m P.nt],⟨o,e,P⟩,g.new x (S.out x L).2 (by rw[m];simp),(S.out x L).1⟩
 have R':=RepS.back R hn (λx c=>k x ((mem x).mpr (.inr (.inl c)))) (λx c=>by rw[cN ((mem x).mpr (.inr (.inl c)))];obtain⟨o,e,_⟩:=k x ((mem x).mpr (.inr (.inl c)));rw[e];simp) (λx c=>⟨v.kind x c,(D x c).1,(D x c).2⟩) g;have i:∀x,x∈(s++fp'::j).flatten↔x∈s.flatten\/x∈fp'\/x∈j.flatten:=λx=>by rw[zl,jI,qX,qX]
 have eq:plus (less (plus H0 H (s++fp::j).flatten) fp) H' fp'=plus H0 H' (s++fp'::j).flatten:=by
  funext x;by_cases B:x∈fp';·rw[cN B,cN ((i x).mpr (.inr (.inl B)))]
  ·by_cases C:x∈s.flatten\/x∈j.flatten;·obtain⟨nx,u,e,_⟩:=d x C;rw[bG B,cA nx,cN ((mem x).mpr (C.elim .inl λz=>.inr (.inr z))),cN ((i x).mpr (C.elim .inl λz=>.inr (.inr z))),e]
   ·have I:x∉(s++fp'::j).flatten:=λz=>((i x).mp z).elim (λz=>C (.inl z)) λz=>z.elim B λz=>C (.inr z);rw[bG B,bG I];by_cases A:x∈fp;·rw[fC A,(S.out x ((mem x).mpr (.inr (.inl A)))).1]
    ·rw[cA A,bG (λz=>((mem x).mp z).elim (λz=>C (.inl z)) λz=>z.elim A λz=>C (.inr z))]
 refine⟨s++fp'::j,⟨?_,?_,λx c=>?_⟩,by rwa[<-eq]⟩;·rw[es];have N:∀f:List (List Addr),(∀x∈f.flatten,x∈s.flatten\/x∈j.flatten)->∀{t:Sto},Paired (λ(p:Addr×BS)fp=>BOk K G H p.1 p.2 fp) t f->Paired (λ(p:Addr×BS)fp=>BOk K G' H' p.1 p.2 fp) t f:=λf hf t pp=>uD pp λp q hq r=>r.keep (λx o c e _=>by rwa[(d x (hf x (wT.mpr ⟨q,hq,c⟩))).2.2.1]) g.gg;exact a2O (N s (λx c=>.inl c) p1) (.cons v (N j (λx c=>.inr c) p2))
 ·rw[zl,jI,jL,jL];refine⟨F,⟨v.nd,E,λx c y J z=>?_⟩,λx c y J z=>?_⟩;·subst z;exact(d x (.inr J)).2.1 c
  ·subst z;obtain z|z:=qX.mp J;·exact(d x (.inl c)).2.1 z
   ·exact Q x c x (qb _ z) rfl
 ·rcases(i x).mp c with z|z|z;·exact⟨(d x (.inl z)).2.2.2.2.2,(d x (.inl z)).2.2.2.2.1⟩
  ·refine⟨?_,(D x z).2⟩;by_cases A:x∈fp;·exact(S.out x ((mem x).mpr (.inr (.inl A)))).1
   ·have c:=(D x z).1;rw[cA A]at c;have I:x∉(s++fp::j).flatten:=λw=>by obtain⟨o,e,_⟩:=k x w;rw[c]at e;cases e
    have:=R.grow.hh.free c;rwa[bG I]at this
  ·exact⟨(d x (.inr z)).2.2.2.2.2,(d x (.inr z)).2.2.2.2.1⟩
theorem a2c(s:aT G H')(k:∀x o,x∉fp->H x=some o->H' x=some o):Grow G (plus (less H fp) H' fp') G H':=⟨.refl _,.of λx o e=>by
  by_cases h:x∈fp';·rwa[cN h]at e
  ·rw[bG h]at e;by_cases a:x∈fp;·rw[fC a]at e;cases e
   ·rw[cA a]at e;exact k x o a e,s,λ_ z _=>z,id⟩
end
structure BCls(K:qB):Prop where cl:Cls K (iC K)n1:oI K (iC K) "sheets"n2:oI K (iC K) "done"n3:oI K (iC K) "undone"
theorem RepS.ro{K:qB}{r s G H:Hp}{U:St}{Z:List Ent}{i:Nat}{j:T0k}{b:BS}(R:RepS K r s G H U Z)(h:Z[i]?=some (.ro j b)):∃a dx d l1 l2 vs Y ys,U[i]?=some (some (.ref a))/\H a=some (.ins (iC K) dx (bFs d l1 l2))/\H d=some (.dK vs)/\H l1=some (.lst Y)/\H l2=some (.lst ys)/\eA K G vs b.sh/\RepAll K G Y b.dn/\RepAll K G ys b.un:=by obtain⟨o,e,a,t,rfl,_,⟨dx,d,l1,l2,vs,Y,ys,_,_,B,_,q,p,k,g,f,c⟩,_⟩:=R.at h;exact⟨a,dx,d,l1,l2,vs,Y,ys,e,B,q,p,k,g,f,c⟩
def bD(b:BS):List (q8×q8):=b.sh.map λp=>(cD p.1,p.2)
def inF(i:Nat)(fk:EF):EF:=λZ=>match Z[i]? with|some (.ro _ b)=>bnd (fk Z) λk=>(match oG k with|some k=>some (.ok (.bool (dQ k (bD b)).isSome))|none=>none)|_=>none
def c1P(i:Nat)(fk:EF):TF:=λZ=>match Z[i]? with|some (.ro _ b)=>bnd (fk Z) λk=>(match oG k with|some k=>some (.ok (!(dQ k (bD b)).isSome))|none=>none)|_=>none
def ixF(i:Nat)(fk:EF):EF:=λZ=>match Z[i]? with|some (.ro _ b)=>bnd (fk Z) λk=>(match oG k with|some k=>lft (dQ k (bD b))|none=>none)|_=>none
def c2s(i:Nat)(fk:EF):EF:=λZ=>match Z[i]? with|some (.ro _ b)=>bnd (fk Z) λk=>lft (c4m (bD b) k .none)|_=>none
def c0W(i:Nat):EF:=λZ=>match Z[i]? with|some (.ro _ b)=>lft (a1p [.dict (bD b)])|_=>none
noncomputable def BS.ls(u:Bool)(b:BS):List q8:=if u then b.un else b.dn
noncomputable def fNm(u:Bool):Str:=if u then"undone"else"done"
def emF(u:Bool)(i:Nat):TF:=λZ=>match Z[i]? with|some (.ro _ b)=>some (.ok (b.ls u).isEmpty)|_=>none
def b8I(u:Bool)(i:Nat):EF:=λZ=>match Z[i]? with|some (.ro _ b)=>some (.ok (.int ((b.ls u).length:Nat)))|_=>none
variable{l1 l2:Addr}
section
variable{x:Str}
theorem c2P i(y:BCls X.K)(hu:X.A.units+64<cLine)(C:DE X e fk)(f:U0 X i x:=by exact U1)(E:U8 X (.Name x p) "sheets":=by rfl)(A:v9 .In (.Attribute (.Name x p) "sheets" p2)=false:=by rfl):DE X (.Compare e [.In] [.Attribute (.Name x p) "sheets" p2] pos) (inF i fk):=⟨λz s U H Q I⟨Z,r,H0,Gz,G,g,R,q⟩=>b4L (a9h (by lia) C.run (pO (cM f.1 f.2 f.3 f.4) E)) A z s U H Q I (by
 unfold inF at g;split at g
 ·rename_i T b D;refine bE R g q.x λk u G1 H1 J M v o=>?_;obtain⟨a,L,d,l1,l2,t,Y,N,K,B,F,h3,h4,w,S,P⟩:=M.ro D;split at o;·rename_i c j;cases(qA o);rw[gD j]at v;cases gB v;refine⟨.ref a,K,a,_,L,_,.ref d,rfl,B,y.cl,y.n1,rfl,d,nV t c,rfl,.inl ⟨t,c,.inl F,rfl,rfl⟩,?_⟩;rw[lT w.keys w.vals];exact q _ _ _ J (.bool _)
  ·cases o
 ·cases g)⟩
theorem b9j i(y:BCls X.K)(hu:X.A.units+64<cLine)(C:DE X e fk)(f:U0 X i x:=by exact U1)(E:U8 X (.Name x p) "sheets":=by rfl)(A:v9 .NotIn (.Attribute (.Name x p) "sheets" p2)=false:=by rfl):DT X (.Compare e [.NotIn] [.Attribute (.Name x p) "sheets" p2] pos) (c1P i fk):=⟨λz s U H Q I⟨Z,r,H0,Gz,G,g,R,q⟩=>a9c (a4F (by lia) C.run (pO (cM f.1 f.2 f.3 f.4) E)) A z s U H Q I (by
 unfold c1P at g;split at g
 ·rename_i T b D;refine bE R g q.x λk u G1 H1 J M v o=>?_;obtain⟨a,L,d,l1,l2,t,Y,N,K,B,F,h3,h4,w,S,P⟩:=M.ro D;split at o;·rename_i c j;cases(qA o);rw[gD j]at v;cases gB v;refine⟨.ref a,K,a,_,L,_,.ref d,rfl,B,y.cl,y.n1,rfl,d,nV t c,rfl,.inl ⟨t,c,.inl F,rfl,rfl⟩,_,rfl,?_⟩;rw[lT w.keys w.vals];exact q _ _ J
  ·cases o
 ·cases g)⟩
theorem c2N i(A:BCls X.K)(F:DE X kx fk)(e:U0 X i x:=by exact U1)(K:U8 X (.Name x p) "sheets":=by rfl)(hs:a2i kx:=by exactλ_ _=>rfl):DE X (.Subscript (.Attribute (.Name x p) "sheets" p2) kx pos) (ixF i fk):=⟨λE s U H Q I⟨Z,r,H0,Gz,G,f,R,q⟩=>b4I b1d (pO (cM e.1 e.2 e.3 e.4) K) F.run hs E s U H Q I (by
 unfold ixF at f;split at f
 ·rename_i oa b J;obtain⟨a,S,d,l1,l2,C,Y,T,P,B,L,h3,h4,D,r2,r3⟩:=R.ro J;refine⟨.ref a,P,a,_,S,_,.ref d,rfl,B,A.cl,A.n1,rfl,bE R f q.x λk u G1 H1 t R1 z y=>?_⟩;split at y;·rename_i j o;obtain⟨v,N,rfl⟩:=bL y;rw[gD o]at z;cases gB z;have c:=D.mono t.gg;obtain⟨w,M,g⟩:=oV c.keys c.vals N;exact⟨d,C,j,w,rfl,rfl,.inl (t.hh.keep d _ L (by nofun)),M,q w _ _ t g⟩
  ·cases y
 ·cases f)⟩
theorem b9q i(C:BCls X.K)(hu:X.A.units+64<cLine)(F:DE X e fk)(f:U0 X i x:=by exact U1)(K:U8 X (.Name x p) "sheets":=by rfl)(m:M1 X (.Attribute (.Name x p) "sheets" p2) "get" ap e cp:=by exact⟨rfl,rfl,rfl,rfl⟩):DE X (.Call (.Attribute (.Attribute (.Name x p) "sheets" p2) "get" ap) [e] [] cp) (c2s i fk):=⟨λE s U H Q I⟨Z,r,H0,Gz,G,j,R,q⟩=>b4K (by lia) (pO (cM f.1 f.2 f.3 f.4) K) F.run m E s U H Q I (by
 unfold c2s at j;split at j
 ·rename_i oa b J;obtain⟨a,N,d,l1,l2,y,Y,P,L,B,A,h3,h4,D,T,S⟩:=R.ro J;refine⟨.ref a,L,a,_,N,_,.ref d,rfl,B,C.cl,C.n1,rfl,d,rfl,.inl ⟨y,.inl A⟩,bE R j q.x λk u G1 H1 w R1 z M=>?_⟩;obtain⟨v,g,rfl⟩:=bL M;unfold c4m at g;split at g;·rename_i o t;cases(qA g);rw[gD t]at z;cases gB z;have c:=D.mono w.gg;exact⟨_,.inl ⟨y,o,.inl (w.hh.keep d _ A (by nofun)),rfl,rfl⟩,q _ _ _ w (b5w c.keys c.vals .none)⟩
  ·cases g
 ·cases j)⟩
theorem b9o i(C:X.calm=true)(o:BCls X.K)(y:X.mg "sorted"=none)(e:U0 X i x:=by exact U1)(D:U8 X (.Name x p) "sheets":=by rfl)(A:Gl X "sorted":=by rfl)(k:j4 [.Attribute (.Name x p) "sheets" p2] X.env=(false,eval (.Attribute (.Name x p) "sheets" p2) X.env)::j4 [] X.env:=by rfl)(g:U6 X pos []:=by rfl):DE X (.Call (.Name "sorted" p3) [.Attribute (.Name x p) "sheets" p2] [] pos) (c0W i):=⟨λv s U H Q I⟨Z,r,H0,Gz,G,f,R,q⟩=>oQ (yV C) A y yt (dC (pO (cM e.1 e.2 e.3 e.4) D) fE k) (by decide) (by decide) k g v s U H Q I (by
 unfold c0W at f;split at f
 ·rename_i P b z;obtain⟨a,K,d,T,S,t,Y,L,J,B,E,h3,h4,u,N,M⟩:=R.ro z;obtain⟨dd,c,rfl⟩:=bL f;unfold a1p at c;dsimp only at c;split at c
  ·rename_i w F;split at c;·rename_i j;cases(qA c);refine⟨.ref a,J,a,_,K,_,.ref d,rfl,B,o.cl,o.n1,rfl,d,t,w,rfl,.inl E,a0L (u.keys.symm.trans (a6M F)),j,λl j=>q _ _ _ (.put R.sub j) (.list (.of aJ) (lN _))⟩
   ·cases c
  ·cases c
 ·cases f)⟩
theorem a8u u d b a:(bFs d b a).lookup (fNm u)=some (.ref (if u then a else b)):=by cases u<;>rfl
theorem BCls.nl{K:qB}(a:BCls K) u:oI K (iC K) (fNm u):=by cases u;exact a.n2;exact a.n3
theorem b5t{K:qB}(u:Bool)(e:H l1=some (.lst Y))(d:H l2=some (.lst ys))(c:RepAll K G Y b.dn)(a:RepAll K G ys b.un):∃zs,H (if u then l2 else l1)=some (.lst zs)/\RepAll K G zs (b.ls u):=by
 cases u;·exact⟨Y,e,c⟩
 ·exact⟨ys,d,a⟩
theorem b1B u i(j:BCls X.K)(C:X.mg "len"=none)(c:U0 X i x:=by exact U1)(F:v1 (.Name x p) (fNm u) X.env (eval (.Name x p) X.env)=eval (.Name x p) X.env:=by rfl)(E:Gl X "len":=by rfl)(g:j4 [.Attribute (.Name x p) (fNm u) p2] X.env=(false,eval (.Attribute (.Name x p) (fNm u) p2) X.env)::j4 [] X.env:=by rfl)(f:U6 X pos []:=by rfl):DE X (.Call (.Name "len" p3) [.Attribute (.Name x p) (fNm u) p2] [] pos) (b8I u i):=⟨λw s U H Q I⟨Z,r,H0,Gz,G,e,R,q⟩=>oQ pY E C yx (dC (pO (cM c.1 c.2 c.3 c.4) F) fE g) (by decide) (by decide) g f w s U H Q I (by
 unfold b8I at e;split at e;·rename_i T b D;cases(qA e);obtain⟨a,M,d,z,y,P,Y,N,L,B,h2,K,J,S,v,t⟩:=R.ro D;obtain⟨k,A,o⟩:=b5t u K J v t;refine⟨.ref a,L,a,_,M,_,_,rfl,B,j.cl,j.nl u,a8u u d z y,_,k,rfl,.inl (.of A),?_⟩;rw[o.length];exact q _ G H (.refl R.sub) (.int _)
 ·cases e)⟩
end
noncomputable def BS.setLs(u:Bool)(b:BS)(l:T0l):BS:=if u then{b with un:=l}else{b with dn:=l}
noncomputable def xcS(m:Mm q8)(Z:List Ent)(β:Sto)(k:q8->Option (So×Sto)):Option (So×Sto):=match m with|some (.ok d)=>k d|some (.ex c)=>some (.xc c Z,β)|none=>none
theorem c0E{k:q8->Option (So×Sto)}{r:So×Sto}(h:xcS m Z β k=some r):(∃d,m=some (.ok d)/\k d=some r)\/∃c,m=some (.ex c)/\r=(.xc c Z,β):=by match m,h with|some (.ok d),h=>exact .inl ⟨d,rfl,h⟩|some (.ex c),h=>exact .inr ⟨c,rfl,(qA h).symm⟩|none,h=>cases h
def b0t(u:Bool)(i:Nat)(fa:EF):OSF:=λZ β=>match Z[i]? with|some (.adr a)=>(match eT β a with|some b=>xcS (fa (vw β Z)) Z β λd=>if dI (b.ls u).length&&gH Z then some (.nx Z,lA β a (b.setLs u (b.ls u++[d])))else none|none=>none)|_=>none
def b6J(i:Nat):OSF:=λZ β=>match Z[i]? with|some (.adr a)=>(match eT β a with|some b=>if gH Z then some (.nx Z,lA β a {b with un:=[]})else none|none=>none)|_=>none
def a7r(i:Nat)(fk fv:EF):OSF:=λZ β=>match Z[i]? with|some (.adr a)=>(match eT β a with|some b=>xcS (fv (vw β Z)) Z β λd=>xcS (fk (vw β Z)) Z β λk=>(match oG k with|some k=>if dI b.sh.length&&gH Z then some (.nx Z,lA β a {b with sh:=rH b.sh k d})else none|none=>none)|none=>none)|_=>none
def a7u(i:Nat)(fk:EF):OSF:=λZ β=>match Z[i]? with|some (.adr a)=>(match eT β a with|some b=>xcS (fk (vw β Z)) Z β λk=>(match oG k with|some k=>if(dQ k (bD b)).isSome&&gH Z then some (.nx Z,lA β a {b with sh:=xM b.sh k})else none|none=>none)|none=>none)|_=>none
def c0e(u:Bool)(i j:Nat):OSF:=λZ β=>match Z[i]? with|some (.adr a)=>(match eT β a with|some b=>(match(b.ls u)[(b.ls u).length-1]? with|some d=>if gH Z then some (.nx (Z.set j (.val d)),lA β a (b.setLs u (b.ls u).dropLast))else none|none=>none)|none=>none)|_=>none
section
variable{K:qB}{β:Sto}
theorem bF.adr{i:Nat}(R:bF K H0 Gz G H U Z β)(h:Z[i]?=some (.adr a)):U[i]?=some (some (.ref a)):=by obtain⟨b,S,R⟩:=R;obtain⟨o,e,z⟩:=R.at h;rw[e];exact congrArg some z
theorem bF.ob(R:bF K H0 Gz G H U Z β)(g:eT β a=some b):∃dx d l1 l2 vs Y ys,H a=some (.ins (iC K) dx (bFs d l1 l2))/\H d=some (.dK vs)/\H l1=some (.lst Y)/\H l2=some (.lst ys)/\eA K G vs b.sh/\RepAll K G Y b.dn/\RepAll K G ys b.un:=by obtain⟨o,S,R⟩:=R;obtain⟨p,_,dx,d,l1,l2,vs,Y,ys,_,_,B,_,k,j,i,f,e,c⟩:=a5B S.each g;exact⟨dx,d,l1,l2,vs,Y,ys,B,k,j,i,f,e,c⟩
theorem bF.ls(u:Bool)(R:bF K H0 Gz G H U Z β)(i:eT β a=some b):∃dx d l1 l2 zs,H a=some (.ins (iC K) dx (bFs d l1 l2))/\H (if u then l2 else l1)=some (.lst zs)/\RepAll K G zs (b.ls u):=by obtain⟨dx,d,l1,l2,p,Y,o,B,r,k,j,q,f,e⟩:=R.ob i;obtain⟨zs,g,c⟩:=b5t u k j f e;exact⟨dx,d,l1,l2,zs,B,g,c⟩
theorem bF.wrLs(u:Bool)(R:bF K H0 Gz G H U Z β)(F:gH Z=true)(I:eT β a=some b):∃dx d l1 l2 zs,H a=some (.ins (iC K) dx (bFs d l1 l2))/\H (if u then l2 else l1)=some (.lst zs)/\RepAll K G zs (b.ls u)/\∀c l,RepAll K G c l->bF K H0 Gz G (upd H (if u then l2 else l1) (.lst c)) U Z (lA β a (b.setLs u l)):=by
 have sub:=R.sub;obtain⟨L,J,A,k⟩:=R.chg F I;obtain⟨dx,d,l1,l2,p,Y,C,rfl,n,B,j,i,g,f,t,s,r⟩:=J;obtain⟨zs,E,D⟩:=b5t u g f s r;refine⟨dx,d,l1,l2,zs,B,E,D,λc l q=>?_⟩;have y:(if u then l2 else l1)∈[a,dx,d,l1,l2]:=by cases u<;>simp
 refine k G _ _ [a,dx,d,l1,l2] ?_ (λx w=>⟨fC w,A x w⟩) (a2c (λx o e=>?_) λx o nx e=>?_)
 ·have o:∀x,x≠(if u then l2 else l1)->∀v,H x=some v->upd H (if u then l2 else l1) (.lst c) x=some v:=λx nx v e=>by rwa[aE nx]
  cases u with|false=>exact⟨dx,d,l1,l2,p,c,C,rfl,n,o a (bS B g (by nofun)) _ B,o dx (bS j g (by nofun)) _ j,o d (bS i g (by nofun)) _ i,aJ,o l2 (jH n) _ f,t,q,r⟩|true=>exact⟨dx,d,l1,l2,p,Y,c,rfl,n,o a (bS B f (by nofun)) _ B,o dx (bS j f (by nofun)) _ j,o d (bS i f (by nofun)) _ i,o l1 n _ g,aJ,t,s,q⟩
 ·rw[aE (λz=>by rw[z,A _ y]at e;cases e)];exact sub x o e
 ·rwa[aE (λz=>nx (by rw[z];exact y))]
theorem bF.wrSh(R:bF K H0 Gz G H U Z β)(C:gH Z=true)(D:eT β a=some b):∃dx d l1 l2 vs,H a=some (.ins (iC K) dx (bFs d l1 l2))/\H d=some (.dK vs)/\eA K G vs b.sh/\∀c f,eA K G c f->bF K H0 Gz G (upd H d (.dK c)) U Z (lA β a {b with sh:=f}):=by
 have sub:=R.sub;obtain⟨F,E,p,k⟩:=R.chg C D;obtain⟨dx,d,l1,l2,vs,Y,t,rfl,n,B,s,g,r,q,A,y,w⟩:=E;refine⟨dx,d,l1,l2,vs,B,g,A,λc f u=>?_⟩;have j:d∈[a,dx,d,l1,l2]:=by simp
 refine k G _ _ [a,dx,d,l1,l2] ?_ (λx i=>⟨fC i,p x i⟩) (a2c (λx o e=>?_) λx o nx e=>?_)
 ·have o:∀x,x≠d->∀v,H x=some v->upd H d (.dK c) x=some v:=λx nx v e=>by rwa[aE nx]
  exact⟨dx,d,l1,l2,c,Y,t,rfl,n,o a (bS B g (by nofun)) _ B,o dx (bS s g (by nofun)) _ s,aJ,o l1 (bS r g (by nofun)) _ r,o l2 (bS q g (by nofun)) _ q,u,y,w⟩
 ·rw[aE (λz=>by rw[z,p _ j]at e;cases e)];exact sub x o e
 ·rwa[aE (λz=>nx (by rw[z];exact j))]
theorem bF.wrUn(R:bF K H0 Gz G H U Z β)(y:gH Z=true)(A:eT β a=some b){l:Addr}(c:H l=none):∃dx d l1 l2,H a=some (.ins (iC K) dx (bFs d l1 l2))/\bF K H0 Gz G (upd (upd H l (.lst [])) a (.ins (iC K) dx (bFs d l1 l))) U Z (lA β a {b with un:=[]}):=by
 have sub:=R.sub;obtain⟨I,C,p,k⟩:=R.chg y A;obtain⟨dx,d,l1,l2,s,Y,D,rfl,n,B,r,q,g,F,u,t,E⟩:=C;refine⟨dx,d,l1,l2,B,?_⟩;have f:=aK B c;have j:a∈[a,dx,d,l1,l2]:=by simp
 have o:∀x,x≠a->∀v,H x=some v->upd (upd H l (.lst [])) a (.ins (iC K) dx (bFs d l1 l)) x=some v:=λx nx v e=>by rwa[aE nx,aE (aK e c)]
 refine k G _ _ [a,dx,d,l1,l] ?_ (λx i=>?_) (a2c (λx o e=>?_) λx o nx e=>?_);·exact⟨dx,d,l1,l,s,Y,[],rfl,aK g c,aJ,o dx (jH (bS B r (by nofun))) _ r,o d (jH (bS B q (by nofun))) _ q,o l1 (jH (bS B g (by nofun))) _ g,by rw[aE (jH f),aJ],u,t,.nil⟩
 ·by_cases z:x=l
  ·subst z;refine⟨?_,sub.free c⟩;by_cases w:x∈[a,dx,d,l1,l2];·exact fC w
   ·rwa[cA w]
  ·have:x∈[a,dx,d,l1,l2]:=by simp only[qM,kF,or_false]at i⊢;obtain rfl|rfl|rfl|rfl|rfl:=i<;>simp_all
   exact⟨fC this,p x this⟩
 ·rw[aE (λz=>by rw[z,p _ j]at e;cases e),aE (aK (sub x o e) c)];exact sub x o e
 ·rwa[aE (λz=>nx (by rw[z];exact j)),aE (aK e c)]
end
section
variable{x:Str}
theorem vE{o:So}{k:q8->Option (So×Sto)}{T:VK}(S:StoOk X.K H0 G H β fps)(R:RepS X.K (plus H0 H fps.flatten) Gz G H U Z)(e:xcS (fa (vw β Z)) Z β k=some (o,β'))(q:rR X H0 Gz G D β' o)(h:∀x v G1 H1,Grow G H G1 H1->Rep X.K G1 v x->k x=some (o,β')->T v H1):rE X fa U H T:=by
 obtain⟨x,b,a⟩|⟨c,b,a⟩:=c0E e;·exact⟨_,_,_,Gz,G,b,RepS.view S R,λv G1 H1 j f=>h x v G1 H1 j f a⟩
 ·cases a;exact⟨_,_,_,Gz,G,b,RepS.view S R,λi d U s t e r p g x=>q i d U s t e r (.of S R.grow.gg p.unview g) g x⟩
theorem a6o{e d d' c b:Addr}(h:H a=some (.ins C dx (bFs d l1 l2)))(h':H a=some (.ins C e (bFs d' c b))):dx=e/\d=d'/\l1=c/\l2=b:=by rw[h]at h';injection h' with h';injection h' with _ e1 e2;injection e2 with e2 e3;injection e3 with e3 e4;injection e4 with e4 _;injection e2 with _ e2;injection e3 with _ e3;injection e4 with _ e4;injection e2 with e2;injection e3 with e3;injection e4 with e4;exact⟨e1,e2,e3,e4⟩
theorem b8i u i(M:BCls X.K)(h:DE X e fa)(w:U0 X i x:=by exact U1)(hb:v1 (.Name x p) (fNm u) X.env (eval (.Name x p) X.env)=eval (.Name x p) X.env:=by rfl)(g:v1 (.Attribute (.Name x p) (fNm u) p2) "append" X.env (eval (.Attribute (.Name x p) (fNm u) p2) X.env)=eval (.Attribute (.Name x p) (fNm u) p2) X.env:=by rfl)(t:U4 X cp (e::[]):=by rfl)(f:(ap.endLine==cp.line)=true:=by rfl)(r:U5 X e []:=by rfl)(c:U6 X cp []:=by rfl)(C:wb (.Call (.Attribute (.Attribute (.Name x p) (fNm u) p2) "append" ap) [e] [] cp) none pos.line X.env=pure false:=by rfl):OS X (.Expr (.Call (.Attribute (.Attribute (.Name x p) (fNm u) p2) "append" ap) [e] [] cp) pos) (b0t u i fa):=⟨λpz s U H D I⟨Z,P,o,N,H0,Gz,G,j,R,q⟩=>uC (b0N vJ PySem.F.slot_list_append PySem.F.type_list_append a0E (pO (cM w.1 w.2 w.3 w.4) hb) (dC h.run fE r) g t f r c) C pz s U H D I (by
  unfold b0t at j;split at j
  ·rename_i a hi;have ea:=R.adr hi;split at j
   ·rename_i b K;obtain⟨dx,d0,l1,l2,Q,B,hz,rz⟩:=R.ls u K;obtain⟨fps,S,R⟩:=R;refine⟨.ref a,ea,a,_,dx,_,_,rfl,B,M.cl,M.nl u,a8u u d0 l1 l2,.inl ⟨rfl,Q,.of hz⟩,vE S R j q λd v L H1 y T J=>?_⟩;split at J;·rename_i E;rw[qE]at E;cases(qA J);have R1:bF X.K H0 Gz L H1 U Z P:=.of S R.grow.gg (R.more y) y.gg;obtain⟨dx',d0',l1',l2',z,F,A,k,wr⟩:=R1.wrLs u E.2 K;obtain⟨rfl,rfl,rfl,rfl⟩:=a6o (y.hh.keep a _ B (by nofun)) F;exact⟨_,z,v,rfl,rfl,A,by rw[k.length];exact b0B E.1,q L _ U y.gg (wr _ _ (k.append (.cons T .nil)))⟩
    ·cases J
   ·cases j
  ·cases j)⟩
theorem b7N d a b l:mD "undone" (.ref l) (bFs d a b)=bFs d a l:=by unfold bFs;simp only[mD];rw[if_neg (by decide),if_neg (by decide),if_pos trivial]
theorem b8h i(f:BCls X.K)(d:U0 X i x:=by exact U1)(hs:wb (.List [] p3) (some (.Attribute (.Name x p) "undone" p2)) pos.line X.env=pure false:=by rfl):OS X (.Assign [.Attribute (.Name x p) "undone" p2] (.List [] p3) pos) (b6J i):=⟨λj s U H D I⟨Z,A,o,g,C,E,G,c,R,q⟩=>a5M (cM d.1 d.2 d.3 d.4) (a2L fE) hs j s U H D I (by
  unfold b6J at c;split at c
  ·rename_i a t;have w:=R.adr t;split at c
   ·rename_i b u;split at c;·rename_i v;cases(qA c);refine⟨qx _,λl e=>?_⟩;obtain⟨y,z,r,k,B,wr⟩:=R.wrUn v u e;exact⟨.ref a,w,a,_,y,bFs z r k,rfl,by rwa[aE (aK B e)],f.cl,f.n3,by show 3<1000;decide,q G _ U (.refl _) (by rwa[b7N])⟩
    ·cases c
   ·cases c
  ·cases c)⟩
theorem b8g i(B0:BCls X.K)(hu:X.A.units+64<cLine)(A:DE X e fv)(hk:DE X kx fk)(t:U0 X i x:=by exact U1)(hb:U8 X (.Name x p) "sheets":=by rfl)(hs:wb e (some (.Subscript (.Attribute (.Name x p) "sheets" p2) kx p3)) pos.line X.env=pure false:=by rfl):OS X (.Assign [.Subscript (.Attribute (.Name x p) "sheets" p2) kx p3] e pos) (a7r i fk fv):=⟨λpz s U H D I⟨Z,K,o,β',T,Gz,G,c,R,q⟩=>b0I (by lia) (pO (cM t.1 t.2 t.3 t.4) hb) hk.run A.run hs pz s U H D I (by
  unfold a7r at c;split at c
  ·rename_i a hi;have ea:=R.adr hi;split at c
   ·rename_i b M;obtain⟨fps,S,R⟩:=R;refine vE S R c q λd v G1 H1 w rv e1=>?_;have f:bF X.K T Gz G1 H1 U Z K:=.of S R.grow.gg (R.more w) w.gg;obtain⟨dx,P,l1,l2,vs,Y,ys,B,h3,h4,h5,r1,r2,r3⟩:=f.ob M;obtain⟨N,Q,f⟩:=f;refine⟨.ref a,ea,a,_,dx,_,.ref P,rfl,B,B0.cl,B0.n1,rfl,vE Q f e1 (q.mono w.gg) λk u G2 H2 j L r=>?_⟩;split at r
    ·rename_i z C;split at r;·rename_i E;rw[qE]at E;cases(qA r);rw[gD C]at L;cases gB L;have R2:bF X.K T Gz G2 H2 U Z K:=.of Q f.grow.gg (f.more j) j.gg;obtain⟨dx',d0',l1',l2',y,J,F,g,wr⟩:=R2.wrSh E.2 M;obtain⟨rfl,rfl,rfl,rfl⟩:=a6o (j.hh.keep a _ B (by nofun)) J;exact⟨P,_,rfl,.inl ⟨y,z,F,rfl,by rw[g.len];exact b0B E.1,rfl⟩,q G2 _ U (w.gg.trans j.gg) (wr _ _ (g.put (rv.mono j.gg)))⟩
     ·cases r
    ·cases r
   ·cases c
  ·cases c)⟩
theorem b4P i(K:BCls X.K)(hk:DE X kx fk)(j:U0 X i x:=by exact U1)(hb:U8 X (.Name x p) "sheets":=by rfl)(m:M1 X (.Attribute (.Name x p) "sheets" p2) "pop" ap kx cp:=by exact⟨rfl,rfl,rfl,rfl⟩)(t:wb (.Call (.Attribute (.Attribute (.Name x p) "sheets" p2) "pop" ap) [kx] [] cp) none pos.line X.env=pure false:=by rfl):OS X (.Expr (.Call (.Attribute (.Attribute (.Name x p) "sheets" p2) "pop" ap) [kx] [] cp) pos) (a7u i fk):=⟨λP s U H D I⟨Z,M,o,L,H0,Gz,G,d,R,q⟩=>uC (b4J (pO (cM j.1 j.2 j.3 j.4) hb) hk.run m) t P s U H D I (by
  unfold a7u at d;split at d
  ·rename_i a hi;have ea:=R.adr hi;split at d
   ·rename_i b E;obtain⟨dx,F,l1,l2,N,Y,ys,B,h3,h4,h5,r1,r2,r3⟩:=R.ob E;obtain⟨fps,S,R⟩:=R;refine⟨.ref a,ea,a,_,dx,_,.ref F,rfl,B,K.cl,K.n1,rfl,F,rfl,.inl ⟨N,.inl h3⟩,vE S R d q λk u J H2 r C g=>?_⟩;split at g
    ·rename_i f w;split at g
     ·rename_i y;rw[qE]at y;cases(qA g);rw[gD w]at C;cases gB C;have R2:bF X.K H0 Gz J H2 U Z M:=.of S R.grow.gg (R.more r) r.gg;obtain⟨dx',d0',T,Q,e,A,z,c,wr⟩:=R2.wrSh y.2 E;obtain⟨rfl,rfl,rfl,rfl⟩:=a6o (r.hh.keep a _ B (by nofun)) A;have hs:(nV e f).isSome=true:=by rw[lT c.keys c.vals];exact y.1
      obtain⟨v,ev⟩:=Option.isSome_iff_exists.mp hs;exact⟨e,f,v,z,rfl,ev,q J _ U r.gg (wr _ _ c.drop)⟩
     ·cases g
    ·cases g
   ·cases d
  ·cases d)⟩
end
noncomputable def fT(m:Nat)(es:List Ent):List Ent:=es++zE (m-es.length) .no
theorem a5N:∀{l:List α}{m:List β}{i:Nat}{b:β},Paired F l m->m[i]?=some b->∃a,l[i]?=some a/\F a b|_,_,_,_,.nil,e=>by simp at e|_,_,0,_,.cons r _,e=>by simp at e;subst e;exact⟨_,rfl,r⟩|_,_,i+1,b,.cons _ t,e=>by obtain⟨u,B,c⟩:=a5N (i:=i) (b:=b) t (by simpa using e);exact⟨u,by simpa using B,c⟩
theorem b0J:∀{l:List α}{m:List β},Paired F l m->l.length=m.length|_,_,.nil=>rfl|_,_,.cons _ t=>by simp[b0J t]
variable{vs:List V}
theorem a0o{K:qB}{es:List Ent}(s:aT G H/\iX K G H)(r:Paired (λv e=>a3F K H G H (some v) e/\a3f e=false) vs es):RepS K H G G H (start N vs) (fT N.length es):=by
 have f:=b0J r;refine⟨.refl s.1,by simp[start,fT,f],λi o e B a=>?_,Inj.free (λi e a=>?_),s.2⟩
 ·unfold fT at a;unfold start at B;by_cases c:i<es.length;·rw[qh c]at a;rw[qh (by simp;lia),qO]at B;obtain⟨v,d,b⟩:=a5N r a;rw[d]at B;cases B;exact b.1
  ·rw[jB (by omega),jt]at a;split at a;·cases a;trivial
   ·cases a
 ·unfold fT at a;by_cases c:i<es.length;·rw[qh c]at a;obtain⟨v,d,b⟩:=a5N r a;exact b.2
  ·rw[jB (by omega),jt]at a;split at a;·cases a;rfl
   ·cases a
theorem nF{K:qB}{G H:Hp}:∀{vs:List V}{O:T0l},RepAll K G vs O->Paired (λv e=>a3F K H G H (some v) e/\a3f e=false) vs (O.map .val)|_,_,.nil=>.nil|_,_,.cons r t=>.cons ⟨⟨_,rfl,r⟩,rfl⟩ (nF t)
def a2F(m n:Nat)(f:SF)(b:BS)(O:T0l):Mm q8:=if O.length=n then(match f (fT m (.ro none b::O.map .val))with|some (.rt d)=>some (.ok d)|some (.nx _)=>some (.ok .none)|some (.xc c _)=>some (.ex c)|_=>none)else none
noncomputable def spR(K:qB)(F:BS->List q8->Mm q8):Sp:=λvs H Q E=>∃G a b fp ws O r,vs=.ref a::ws/\(aT G H/\iX K G H)/\BOk K G H a b fp/\RepAll K G ws O/\F b O=some r/\c4F K G H Q E r
noncomputable def oR(a:Addr):Option (So×Sto)->Option (Re q8×BS)|some (.rt d,[p])=>if p.1=a then some (.ok d,p.2)else none|some (.nx _,[p])=>if p.1=a then some (.ok .none,p.2)else none|some (.xc c _,[p])=>if p.1=a then some (.ex c,p.2)else none|_=>none
open Classical in noncomputable def sJ(m n:Nat)(f:OSF)(b:BS)(O:T0l):Option (Re q8×BS):=if O.length=n then(if h:∃p,∀a,oR a (f (fT m (.adr a::O.map .val)) [(a,b)])=some p then some h.choose else none)else none
variable{f:OSF}
theorem eS{m n:Nat}{p:Re q8×BS}(d:O.length=n)(h:∀a,oR a (f (fT m (.adr a::O.map .val)) [(a,b)])=some p):sJ m n f b O=some p:=by have c:∃p,∀a,oR a (f (fT m (.adr a::O.map .val)) [(a,b)])=some p:=⟨p,h⟩;unfold sJ;rw[if_pos d,dif_pos c];have:=(c.choose_spec 0).symm.trans (h 0);rw[qA this]
theorem a1W{p:Re q8×BS}(h:sJ m n f b O=some p):O.length=n/\∀a,oR a (f (fT m (.adr a::O.map .val)) [(a,b)])=some p:=by
 unfold sJ at h;split at h
 ·rename_i c;split at h;·rename_i d;cases(qA h);exact⟨c,d.choose_spec⟩
  ·cases h
 ·cases h
def c4E(K:qB)(G H0:Hp)(a:Addr)(b':BS)(Q:VK)(E:XK):Re q8->Prop|.ok d=>∀v G' H',aT G G'->nT K H0 G G' H' [(a,b')]->Rep K G' v d->Q v H'|.ex c=>∀C G' H',eW K c=some C->aT G G'->nT K H0 G G' H' [(a,b')]->E (.ref C) none H'
def spO(K:qB)(F:BS->List q8->Option (Re q8×BS)):Sp:=λvs H Q E=>∃G a b fp ws O r b',vs=.ref a::ws/\(aT G H/\iX K G H)/\BOk K G H a b fp/\(∀x∈fp,G x=none)/\RepAll K G ws O/\F b O=some (r,b')/\c4E K G (less H fp) a b' Q E r
theorem a0I:plus (less H F) H F=H:=by
 funext x;by_cases h:x∈F;·rw[cN h]
 ·rw[bG h,cA h]
variable{E:XK}
section
variable{K:qB}{x:Str}
theorem a2Z{X:Cx}{outer:List Env}{fa:Addr}{i:Value}{c:Str}(I:Inv (fcX P w K mg base N qual scope fa cdv A outer s H E) pz U H' s')(j:b1K (fcX P w K mg base N qual scope fa cdv A outer s H E) c i H' s')(q:∀C,eW K c=some C->E (.ref C) none H'):(fcX P w K mg base N qual scope fa cdv A outer s H E).xe i s':=by
 obtain⟨a,C,t,r,k⟩:=j;subst t;refine a2Y (X:=fcX P w K mg base N qual scope fa cdv A outer s H E) (fr:=λb=>s.heap.get? b=none) I.ok.frames rfl rfl I (k.mono λb f=>?_) (λb f=>?_) λv y un e d p=>?_
 ·obtain z|z:=f.1;·cases z
  ·exact z
 ·cases z:s.heap.get? b with|none=>rfl|some o=>obtain⟨u,g⟩:=I.base.there b o z (by intro w;cases w);rw[f]at g;cases g
 ·exact⟨a,C,H',rfl,q C r,I.os,I.bare,a2k I rfl un e,d,p⟩
theorem a2d{f:SF}{fa:Addr} m n(Fu:Fun K x qual st fa fd)(S:FnScope N ps (aD st))(hm:N.length=m)(hn:ps.length=n+1)(o:∀ cdv A i s H E,Room k (A.deeper (w4 qual (aD st) s.heap.objs.size fa cdv))->DB (fcX P w K mg base N qual (aD st) fa cdv A i s H E) (bK st) f):FnOk P w K mg base (CX1 P w) (k+1) fa fd ps (spR K (a2F m n f)):=by
 obtain⟨oc,od,kV,doc,pm,an,cdv,ct,osl,rfl,lk,J⟩:=Fu.ex;refine a7U lk J S ?_ ?_
 ·rintro vs H Q E⟨G,a,b,fp,ws,O,r,M,s,L,p,j,_⟩;unfold a2F at j;split at j;·rename_i hl;rw[M,qZ,p.length,hl,hn]
  ·cases j
 ·rintro A i s H vs Q E F⟨G,a,b,fp,ws,O,r,M,sm,L,p,j,q⟩;subst M;have R:RepS K H G G H (start N (.ref a::ws)) (fT N.length (.ro none b::O.map .val)):=a0o sm (.cons ⟨⟨a,fp,rfl,(λ_ z=>nomatch z),L,λx hx z=>by obtain⟨u,T,_⟩:=L.there x hx;rw[z]at T;cases T⟩,rfl⟩ (nF p));unfold a2F at j;split at j
  ·rw[<-hm]at j;split at j;·rename_i d e;cases(qA j);exact⟨_,(o cdv A i s H E F).run,_,_,H,G,G,e,R,λv y t _ g p=>q v y t g p⟩
   ·rename_i D e;cases(qA j);exact⟨_,(o cdv A i s H E F).run,_,_,H,G,G,e,R,λy t σ' _ R'=>q .non y t R'.grow .none⟩
   ·rename_i c D e;cases(qA j);exact⟨_,(o cdv A i s H E F).run,_,_,H,G,G,e,R,λpz s' U t y e' I R _ xx=>a2Z (X:=fcX P w K mg base N qual (aD st) fa cdv A i s H E) I xx λC hC=>q C y t hC R.grow⟩
   ·cases j
  ·cases j
theorem nK{fa:Addr} m n(Fu:Fun K x qual st fa fd)(S:FnScope N ps (aD st))(hm:N.length=m)(hn:ps.length=n+1)(o:∀ cdv A i s H E,Room k (A.deeper (w4 qual (aD st) s.heap.objs.size fa cdv))->OB (fcX P w K mg base N qual (aD st) fa cdv A i s H E) (bK st) f):FnOk P w K mg base (CX1 P w) (k+1) fa fd ps (spO K (sJ m n f)):=by
 obtain⟨oc,od,kV,doc,pm,an,cdv,ct,osl,rfl,lk,T⟩:=Fu.ex;refine a7U lk T S ?_ ?_;·rintro vs H Q E⟨G,a,b,t,J,O,r,b',ev,s,hb,hG,u,j,_⟩;rw[ev,qZ,u.length,(a1W j).1,hn]
 ·rintro A i s H vs Q E M⟨G,a,b,t,J,O,r,b',ev,sm,hb,hG,u,j,q⟩;subst ev;have R0:RepS K H G G H (start N (.ref a::J)) (fT N.length (.adr a::O.map .val)):=a0o sm (.cons ⟨rfl,rfl⟩ (nF u));have R:bF K (less H t) G G H (start N (.ref a::J)) (fT N.length (.adr a::O.map .val)) [(a,b)]:=⟨[t],⟨.cons hb .nil,by rw[jI,kY,jd];exact hb.nd,λx L=>by rw[jI,kY,jd]at L;exact⟨fC L,hG x L⟩⟩,by rwa[jI,kY,jd,a0I]⟩;have j:=(a1W j).2 a;rw[<-hm]at j;unfold oR at j;split at j
  ·rename_i d p e;split at j;·rename_i y;cases(qA j);refine⟨_,(o cdv A i s H E M).run,_,_,_,_,less H t,G,G,e,R,λv D z s g u=>q v D z s ?_ u⟩;rwa[<-y]
   ·cases j
  ·rename_i F p e;split at j;·rename_i y;cases(qA j);refine⟨_,(o cdv A i s H E M).run,_,_,_,_,less H t,G,G,e,R,λD z σ' s R'=>q .non D z s ?_ .none⟩;rw[<-y];exact R'.grow
   ·cases j
  ·rename_i c F p e;split at j;·rename_i y;cases(qA j);refine⟨_,(o cdv A i s H E M).run,_,_,_,_,less H t,G,G,e,R,λpz s' U z D e' I R g xx=>a2Z (X:=fcX P w K mg base N qual (aD st) fa cdv A i s H E) I xx λC hC=>q C D z hC g ?_⟩;rw[<-y];exact R.grow
   ·cases j
  ·cases j
end
structure MDef(K:qB)(m:Str)(st:Stmt):Prop where ex:∃f fd,Fun K m ("Binder."++m) st f fd/\Meth K (iC K) m f
structure MethX(P:Program)(w:World)(K:qB)(mg:T0d)(base:Heap)(m:Str)(k:Nat)(ps:T0q)(sp:Sp):Prop where ex:∃f fd,Meth K (iC K) m f/\Binds K fd ps []/\FnOk P w K mg base (CX1 P w) k f fd ps sp
structure FunX(P:Program)(w:World)(K:qB)(mg:T0d)(base:Heap)(x:Str)(k:Nat)(ps:T0q)(sp:Sp):Prop where ex:∃f fd,mg x=some (.ref f)/\jY K (.ref f)=true/\Binds K fd ps []/\FnOk P w K mg base (CX1 P w) k f fd ps sp
variable{Q:VK}
section
variable{x m:Str}
theorem a1U{f:Addr}(F:FnOk X.prog X.w X.K X.mg X.base (CX1 X.prog X.w) k f fd ps sp)(p:Room k X.A)(i:Binds X.K fd ps [])(I:Inv X pz U H s)(r:bH vs us)(h:sp vs H Q E)(hx:∀a C H' s',E (.ref C) none H'->Inv X pz U H' s'->ExcAt (rQ X) H' a C s'.heap->X.xe (.ref a) s'):wpAny (model X.prog X.w) X.A (call (.ref f) us) (EP X pz U Q) X.xe s:=by
 have q:us.length=ps.length:=by rw[<-r.length];exact F.len _ _ _ _ h
 refine yg (wc (F.run X.A X.stack s H ⟨us,[]⟩ us vs Q E p I.env0 (by simpa using i s us I.kIn (by simpa using q)) r h) λe s' c=>?_);cases e with|error D=>obtain⟨w,A,y,rfl,t,o,d,un,g,j⟩:=c;exact hx w A y s' t (I.call' (ch:=[]) o un g d (λb z=>nomatch z)) (j.mono λb i=>pT I i)|ok v=>cases v with|ret u=>exact I.after c|next=>exact qz c|brk=>exact qz c|cont=>exact qz c
theorem a7G{pl:Sem Bool}{t:TA}(B0:BCls X.K)(M:MethX X.prog X.w X.K X.mg X.base m k ps sp)(hr:Room k X.A)(he:PE X o ta)(ha:PA X (e::es) t)(I:Inv X pz U H s)(hx:∀a C H' s',E (.ref C) none H'->Inv X pz U H' s'->ExcAt (rQ X) H' a C s'.heap->X.xe (.ref a) s')(h:ta U H λx H1=>∃a dx d l1 l2,x=.ref a/\H1 a=some (.ins (iC X.K) dx (bFs d l1 l2))/\(bFs d l1 l2).lookup m=none/\t U H1 λvs H2=>sp (.ref a::vs) H2 Q E)(hst:U5 X e es)(hpl:U6 X pos es)(ht:eval (.Call (.Attribute o m ap) (e::es) [] pos) X.env=(do
   let ov<-eval o X.env
   QP ap.atName let(f,first)<-holding [ov] (ut ov m pl)callWith pos f first (j8 pos (j4 (e::es) X.env)) (yc pos (wm [] X.env)))):wpAny (model X.prog X.w) X.A (eval (.Call (.Attribute o m ap) (e::es) [] pos) X.env) (EP X pz U Q) X.xe s:=by obtain⟨f,fd,hm,hb,F⟩:=M.ex;refine PySem.W.methodCall_KW (pl:=pl) (thn (he pz s U H _ I h) ?_) ht;rintro u s1⟨x,H1,I1,rx,a,dx,d,l1,l2,ex,ea,l,q⟩;subst ex;obtain rfl:u=qr a:=rx;refine a3l I1 ea B0.cl hm l ?_;exact kI (first:=[.ref a]) (h₀:=X.base) I.ok.mod.kin hm.kp (thn (ha pos pz s1 U H1 _ I1 q) (by rintro us s2⟨vs,H2,I2,r,q2⟩;exact⟨I2.kIn,a1U (us:=.ref a::us) (vs:=.ref a::vs) F hr hb I2 (.cons rfl r) q2 hx⟩)) hst hpl
theorem b2F{pl:Sem Bool}(B0:BCls X.K)(M:MethX X.prog X.w X.K X.mg X.base m k ps sp)(hr:Room k X.A)(he:PE X o ta)(I:Inv X pz U H s)(hx:∀a C H' s',E (.ref C) none H'->Inv X pz U H' s'->ExcAt (rQ X) H' a C s'.heap->X.xe (.ref a) s')(h:ta U H λx H1=>∃a dx d l1 l2,x=.ref a/\H1 a=some (.ins (iC X.K) dx (bFs d l1 l2))/\(bFs d l1 l2).lookup m=none/\sp [.ref a] H1 Q E)(ht:eval (.Call (.Attribute o m ap) [] [] pos) X.env=(do
   let ov<-eval o X.env
   QP ap.atName let(f,first)<-holding [ov] (ut ov m pl)callWith pos f first (j8 pos (j4 [] X.env)) (yc pos (wm [] X.env)))):wpAny (model X.prog X.w) X.A (eval (.Call (.Attribute o m ap) [] [] pos) X.env) (EP X pz U Q) X.xe s:=by obtain⟨f,fd,hm,hb,F⟩:=M.ex;refine PySem.W.methodCall_KW (pl:=pl) (thn (he pz s U H _ I h) ?_) ht;rintro u s1⟨x,H1,I1,rx,a,dx,d,l1,l2,ex,ea,l,q⟩;subst ex;obtain rfl:u=qr a:=rx;exact a3l I1 ea B0.cl hm l (PySem.W.callWith_K0 (first:=[.ref a]) I1.kIn hm.kp (a1U (us:=[.ref a]) (vs:=[.ref a]) F hr hb I1 (.cons rfl .nil) q hx))
end
def fQ(F:BS->List q8->Mm q8)(i:Nat)(fa:AF):EF:=λZ=>match Z[i]? with|some (.ro _ b)=>bnd (fa Z) (F b)|_=>none
variable{y:Str}
section
variable{x m:Str}{FR:BS->List q8->Mm q8}{FO:BS->List q8->Option (Re q8×BS)}{fa:AF}
theorem RepS.roB{K:qB}(R:RepS K H0 Gz G H U Z)(h:Z[i]?=some (.ro oa b)):∃a fp,U[i]?=some (some (.ref a))/\BOk K G H a b fp:=by obtain⟨o,e,a,fp,rfl,_,r,_⟩:=R.at h;exact⟨a,fp,e,r⟩
theorem a8N{K:qB}(g:Grow G H G1 H1)(i:iX K G1 H1)(j:BOk K G H a b fp)(e:RepAll K G1 vs O)(k:FR b O=some r)(q:∀d,r=.ok d->∀v G' H',Grow G H G' H'->Rep K G' v d->Q v H'):spR K FR (.ref a::vs) H1 Q (λs _ H'=>∃G' C c,s=.ref C/\r=.ex c/\eW K c=some C/\Grow G H G' H'):=by refine⟨G1,a,b,fp,vs,O,r,rfl,⟨g.sub,i⟩,j.keep (λx o _ z n=>g.hh.keep x o z n) g.gg,e,k,?_⟩;cases r with|ok d=>exactλv G' H' f e=>q d rfl v G' H' (g.trans f) e|ex c=>exactλC G' H' p f=>⟨G',C,c,rfl,rfl,p,g.trans f⟩
theorem mQ i{pl:Sem Bool}(B0:BCls X.K)(M:MethX X.prog X.w X.K X.mg X.base m k ps (spR X.K FR))(S:Room k X.A)(ha:DA X (e::es) fa)(t:U0 X i x:=by exact U1)(T:∀d l1 l2,(bFs d l1 l2).lookup m=none:=by intros;rfl)(y:U5 X e es:=by rfl)(z:U6 X pos es:=by rfl)(P:eval (.Call (.Attribute (.Name x p) m ap) (e::es) [] pos) X.env=(do
   let ov<-eval (.Name x p) X.env
   QP ap.atName let(f,first)<-holding [ov] (ut ov m pl)callWith pos f first (j8 pos (j4 (e::es) X.env)) (yc pos (wm [] X.env))):=by rfl):DE X (.Call (.Attribute (.Name x p) m ap) (e::es) [] pos) (fQ FR i fa):=⟨by
 rintro N s U H Q I⟨Z,r,H0,Gz,G,u,R,q⟩;unfold fQ at u;split at u;·rename_i oa b hi;obtain⟨a,fp,ea,F⟩:=R.roB hi;obtain⟨dx,d,l1,l2,K,Y,ys,_,_,B,_⟩:=id F;refine a7G (E:=λcv _ j=>∃o C c,cv=.ref C/\r=.ex c/\eW X.K c=some C/\Grow G H o j) B0 M S (cM t.1 t.2 t.3 t.4) ha.run I (?_) ⟨.ref a,ea,a,dx,d,l1,l2,rfl,B,T d l1 l2,bA R u q.x λO K G1 H1 g1 R1 w D=>a8N g1 R1.tab F w D λd A v o j g' w=>by subst A;exact q v o j g' w⟩ y z P;rintro a2 C j L⟨o,C',c,D,A,hC,g⟩I' J;cases D;subst A;exact q N L U j o _ I' (R.more g) g.gg ⟨a2,C,rfl,hC,.inl J⟩
 ·cases u⟩
theorem a0Y i{pl:Sem Bool}(B0:BCls X.K)(M:MethX X.prog X.w X.K X.mg X.base m k ps (spR X.K FR))(J:Room k X.A)(o:U0 X i x:=by exact U1)(K:∀d l1 l2,(bFs d l1 l2).lookup m=none:=by intros;rfl)(F:eval (.Call (.Attribute (.Name x p) m ap) [] [] pos) X.env=(do
   let ov<-eval (.Name x p) X.env
   QP ap.atName let(f,first)<-holding [ov] (ut ov m pl)callWith pos f first (j8 pos (j4 [] X.env)) (yc pos (wm [] X.env))):=by rfl):DE X (.Call (.Attribute (.Name x p) m ap) [] [] pos) (fQ FR i aH):=⟨by
 rintro D s U H Q I⟨Z,r,H0,Gz,G,t,R,q⟩;unfold fQ at t;split at t;·rename_i oa b L;obtain⟨a,fp,S,w⟩:=R.roB L;obtain⟨dx,d,l1,l2,vs,Y,ys,_,_,B,_⟩:=id w;refine b2F (E:=λcv _ e=>∃j C c,cv=.ref C/\r=.ex c/\eW X.K c=some C/\Grow G H j e) B0 M J (cM o.1 o.2 o.3 o.4) I (?_) ⟨.ref a,S,a,dx,d,l1,l2,rfl,B,K d l1 l2,a8N (.refl R.sub) R.tab w .nil t λd u v j e P A=>by subst u;exact q v j e P A⟩ F;rintro a2 C e z⟨j,C',c,T,u,N,g⟩I' y;cases T;subst u;exact q D z U e j _ I' (R.more g) g.gg ⟨a2,C,rfl,N,.inl y⟩
 ·cases t⟩
theorem b6E i(C:FunX X.prog X.w X.K X.mg X.base y k ps (spR X.K FR))(hr:Room k X.A)(ha:DA X es fa)(w:U0 X i x:=by exact U1)(hg:Gl X y:=by rfl)(E:U2 y:=by decide)(L:j4 (.Name x p::es) X.env=(false,eval (.Name x p) X.env)::j4 es X.env:=by rfl)(D:U6 X pos es:=by rfl):DE X (.Call (.Name y ap) (.Name x p::es) [] pos) (fQ FR i fa):=⟨by
 rintro K s U H Q I⟨Z,r,H0,Gz,G,z,R,q⟩;unfold fQ at z;split at z
 ·rename_i oa b hi;obtain⟨a,fp,ea,hb⟩:=R.roB hi;obtain⟨f,fd,hm,T,bd,Fk⟩:=C.ex;refine j9 (iN I hg hm ?_ E);have hA:=dC (cM (X:=X) (pos:=p) w.1 w.2 w.3 w.4) ha.run L pos K s U H (λu J=>∃A,u=.ref a::A/\spR X.K FR (.ref a::A) J Q (λcv _ o=>∃t C c,cv=.ref C/\r=.ex c/\eW X.K c=some C/\Grow G H t o)) I
   ⟨.ref a,ea,bA R z q.x λO u G1 J g1 R1 e j=>⟨u,rfl,a8N g1 R1.tab hb e j λd F v t o g' e=>by subst F;exact q v t o g' e⟩⟩;refine kI (h₀:=X.base) I.ok.mod.kin T (thn hA ?_) L D;rintro us s1⟨u,J,M,e,A,j,P⟩;refine⟨M.kIn,?_⟩;subst j;refine a1U Fk hr bd M e P ?_;rintro a2 C o S⟨t,C',c,j,F,hC,g⟩I' N;cases j;subst F;exact q K S U o t _ I' (R.more g) g.gg ⟨a2,C,rfl,hC,.inl N⟩
 ·cases z⟩
def eI(F:BS->List q8->Option (Re q8×BS))(i:Nat)(fa:AF):OEF:=λZ β=>match Z[i]? with|some (.adr a)=>(match eT β a with|some b=>(match fa (vw β Z)with|some (.ok O)=>if gH Z then(F b O).map λp=>(p.1,lA β a p.2)else none|some (.ex c)=>some (.ex c,β)|none=>none)|none=>none)|_=>none
theorem b0w{K:qB}{e:Sto}(R:bF K H0 Gz G H U Z e)(i:gH Z=true)(j:eT e a=some b):∃fp,BOk K G H a b fp/\(∀x∈fp,G x=none)/\∀G' H' b',nT K (less H fp) G G' H' [(a,b')]->bF K H0 Gz G' H' U Z (lA e a b'):=by obtain⟨fp,o,p,k⟩:=R.chg i j;refine⟨fp,o,p,?_⟩;rintro G' H' b'⟨f,q,g⟩;obtain⟨d,_,c⟩:=q;cases d with|cons r t=>cases t;rw[jI,kY,jd]at g c;exact k G' H' b' _ r c g
theorem c0X{K:qB}{e:Sto}{i:Hp}(j:aT i G)(R:bF K H0 Gz G H U Z e)(o:gH Z=true)(p:eT e a=some b)(f:RepAll K G vs O)(w:FO b O=some (r,b'))(q:∀d,r=.ok d->∀v G' H',aT G G'->bF K H0 Gz G' H' U Z (lA e a b')->Rep K G' v d->Q v H'):spO K FO (.ref a::vs) H Q (λA _ H'=>∃G' C c,A=.ref C/\r=.ex c/\eW K c=some C/\aT i G'/\bF K H0 Gz G' H' U Z (lA e a b')):=by obtain⟨z,t,u,k⟩:=b0w R o p;refine⟨G,a,b,z,vs,O,r,b',rfl,⟨R.sub,R.tab⟩,t,u,f,w,?_⟩;cases r with|ok d=>exactλv G' H' s g f=>q d rfl v G' H' s (k G' H' b' g) f|ex c=>exactλC G' H' y s g=>⟨G',C,c,rfl,rfl,y,j.trans s,k G' H' b' g⟩
theorem a2V{f:Sto}{i:Nat}{T:List V->Hp->Prop}(R:bF X.K H0 Gz G H U Z f)(E:eT f a=some b)(j:(match fa (vw f Z)with|some (.ok O)=>if gH Z then(FO b O).map λp=>(p.1,lA f a p.2)else none|some (.ex c)=>some (.ex c,f)|none=>none)=some (r,β'))(q:a3G X H0 Gz G Z β' U Q r)(h:∀vs H1 G1,aT G G1->bF X.K H0 Gz G1 H1 U Z f->spO X.K FO (.ref a::vs) H1 Q (λJ _ H'=>∃G' C c,J=.ref C/\r=.ex c/\eW X.K c=some C/\aT G G'/\bF X.K H0 Gz G' H' U Z β')->T vs H1):rA X fa U H T:=by
 obtain⟨F,S,R⟩:=R;split at j
 ·rename_i O t;split at j;·rename_i D;obtain⟨⟨L,M⟩,I,z⟩:=qH.mp j;cases z;refine⟨_,_,_,Gz,G,t,RepS.view S R,λvs G1 H1 k o=>?_⟩;have w:bF X.K H0 Gz G1 H1 U Z f:=.of S R.grow.gg (R.more k) k.gg;exact h vs H1 G1 k.gg w (c0X k.gg w D E o I λd e v G' H' s u o=>by subst e;exact q v G' H' (k.gg.trans s) u o)
  ·cases j
 ·rename_i c t;cases(qA j);exact⟨_,_,_,Gz,G,t,RepS.view S R,λA y U H' G' e K u g x=>q A y U H' G' e K (.of S R.grow.gg u.unview g) g x⟩
 ·cases j
theorem fN i{pl:Sem Bool}(B0:BCls X.K)(M:MethX X.prog X.w X.K X.mg X.base m k ps (spO X.K FO))(L:Room k X.A)(S:DA X (e::es) fa)(o:U0 X i x:=by exact U1)(N:∀d l1 l2,(bFs d l1 l2).lookup m=none:=by intros;rfl)(v:U5 X e es:=by rfl)(w:U6 X pos es:=by rfl)(K:eval (.Call (.Attribute (.Name x p) m ap) (e::es) [] pos) X.env=(do
   let ov<-eval (.Name x p) X.env
   QP ap.atName let(f,first)<-holding [ov] (ut ov m pl)callWith pos f first (j8 pos (j4 (e::es) X.env)) (yc pos (wm [] X.env))):=by rfl):OE X (.Call (.Attribute (.Name x p) m ap) (e::es) [] pos) (eI FO i fa):=⟨by
 rintro J s U H Q I⟨Z,β,r,u,H0,Gz,G,j,R,q⟩;unfold eI at j;split at j
 ·rename_i a P;split at j;·rename_i b z;have ea:=R.adr P;obtain⟨dx,d,l1,l2,_,_,_,B,_⟩:=R.ob z;refine a7G (E:=λcv _ y=>∃t C c,cv=.ref C/\r=.ex c/\eW X.K c=some C/\aT G t/\bF X.K H0 Gz t y U Z u) B0 M L (cM o.1 o.2 o.3 o.4) S.run I (?_) ⟨.ref a,ea,a,dx,d,l1,l2,rfl,B,N d l1 l2,a2V (i:=i) R z j q λvs H1 G1 _ _ D=>D⟩ v w K;rintro a2 C y F⟨t,C',c,e1,e2,T,g,R'⟩I' A;cases e1;subst e2;exact q J F U y t _ I' R' g ⟨a2,C,rfl,T,.inl A⟩
  ·cases j
 ·cases j⟩
theorem b4V i(C:FunX X.prog X.w X.K X.mg X.base y k ps (spO X.K FO))(T:Room k X.A)(ha:DA X es fa)(j:U0 X i x:=by exact U1)(hg:Gl X y:=by rfl)(A:U2 y:=by decide)(K:j4 (.Name x p::es) X.env=(false,eval (.Name x p) X.env)::j4 es X.env:=by rfl)(w:U6 X pos es:=by rfl):OE X (.Call (.Name y ap) (.Name x p::es) [] pos) (eI FO i fa):=⟨by
 rintro J s U H Q I⟨Z,β,r,t,H0,Gz,G,d,R,q⟩;unfold eI at d;split at d
 ·rename_i a hi;split at d
  ·rename_i b z;have ea:=R.adr hi;obtain⟨f,fd,hm,S,bd,Fk⟩:=C.ex;refine j9 (iN I hg hm ?_ A);have hA:=dC (cM (X:=X) (pos:=p) j.1 j.2 j.3 j.4) ha.run K pos J s U H (λe E=>∃u,e=.ref a::u/\spO X.K FO (.ref a::u) E Q (λcv _ F=>∃o C c,cv=.ref C/\r=.ex c/\eW X.K c=some C/\aT G o/\bF X.K H0 Gz o F U Z t)) I
    ⟨.ref a,ea,a2V (i:=i) R z d q λe E G1 _ _ v=>⟨e,rfl,v⟩⟩;refine kI (h₀:=X.base) I.ok.mod.kin S (thn hA ?_) K w;rintro us s1⟨e,E,L,P,u,D,v⟩;refine⟨L.kIn,?_⟩;subst D;refine a1U Fk T bd L P v ?_;rintro a2 C F N⟨o,C',c,D,e2,hC,g,R'⟩I' M;cases D;subst e2;exact q J N U F o _ I' R' g ⟨a2,C,rfl,hC,.inl M⟩
  ·cases d
 ·cases d⟩
end
structure RelOk(K:qB)(Rel:Hp->Hp->Prop):Prop where
 sub:∀{G H:_},Rel G H->aT G H/\iX K G H
 step:∀{G H G' H':_},Rel G H->Grow G H G' H'->Rel G' H'
noncomputable def QvR(K:qB)(Rel:Hp->Hp->Prop)(r:Re q8):VK:=λv H'=>∃G' d,r=.ok d/\Rel G' H'/\Rep K G' v d
def QxR(K:qB)(Rel:Hp->Hp->Prop)(r:Re q8):XK:=λcv _ H'=>∃G' C c,cv=.ref C/\r=.ex c/\eW K c=some C/\Rel G' H'
variable{Rel:Hp->Hp->Prop}{p5 p6 p7 p8 hpos:Pos}
theorem a8G(S:RelOk X.K Rel){fl D:Addr}{dn n R:Str}{F:Str->Mm q8}(I:Inv X [] U H s)(hN:X.N.Nodup)(hst:X.stack=X.env::X.outer)(hf:X.env.frame=some X.env.locals)(hD:eW X.K R=some D)(hXD:XCls X.K D)(hcs:∀c∈L,∃C,eW X.K c=some C/\XCls X.K C/\ky X.K (.ref C) (.ref D)=some true)(K0:ClsOk X.prog X.w X.K X.mg X.base y k F)(hr:∀e,RoomN k (X.A.mark e))(j:uP L F r=some d)(hi:X.N[0]?=some dn)(Q:X.N[1]?=some n)(hσ:U[0]?=some (some (.ref fl)))(hfn:∀s',Inv X [] U H s'->PySem.W.FnAt fl s'.heap)(run:∀s',Inv X [] U H s'->wn (model X.prog X.w) X.A (.call (.ref fl) ⟨[],[]⟩) (CR (CX1 X.prog X.w) X.stack X.prog X.w H s' (QvR X.K Rel r) (QxR X.K Rel r)) s')(hk0:X.env.scope.names.lookup dn=some .local)(P:X.env.scope.names.lookup n=some .local)(hg:Gl X R)(hgy:Gl X y)(K:U2 dn)(M:U3 dn)(hdb:U2 R)(hnd:U2 n)(E:U3 n)(hdy:U2 y)(he:j4 [.Name n p6] X.env=(false,eval (.Name n p6) X.env)::j4 [] X.env)(hpl:U6 X p7 []):wpAny (model X.prog X.w) X.A (exec (.Try [.Return (some (.Call (.Name dn p1) [] [] p2)) p3] [.ExceptHandler (some (.Name R np)) (some n) [.Return (some (.Call (.Name y p5) [.Name n p6] [] p7)) p8] hpos] [] [] pos) X.env)
   (SP X [] {nx:=λ_ _=>False,rt:=λv H'=>∃G',Rel G' H'/\Rep X.K G' v d}) X.xe s:=by
 refine wpAny_Try_except ?_;refine we (u4 (v3 (b3h (X:=X) I hi hσ (.inl hk0) K M hfn run) (λu f⟨v,H',w,rv,q⟩=>?_) λe f⟨a,C,H',e1,⟨G',C',c,e2,e3,hC,g⟩,w,xa⟩=>?_));·obtain⟨G',d',rfl,g,rp⟩:=q;cases j;exact⟨v,U,H',w,rv,G',g,rp⟩
 ·subst e1;cases e2;subst e3;unfold uP at j;dsimp only at j;split at j
  ·rename_i hc;split at j
   ·rename_i dd hF;cases j;obtain⟨C'',N,hXC,A⟩:=hcs c (by simpa using hc);rw[hC]at N;cases N;have T:nU X (λb=>rQ X b/\∀p∈([]:T0b),p.1≠b) H' a C f.heap:=.inl (xa.mono λb hb=>⟨hb,λp hp=>nomatch hp⟩);have nw:∀b,f.heap.get? b=none->rQ X b/\∀p∈([]:T0b),p.1≠b:=λb hb=>⟨pT w hb,λp hp=>nomatch hp⟩;refine a2R (X:=X) w.ok.frames hst hf w T nw λB ch1 c1 x1=>?_;have I2:=Inv.chg w c1;refine a9P (X:=X) (s:={f with heap:=B}) c1.hok x1 λh2 ch2 c2 x2=>?_;have I3:=Inv.chg (s:={f with heap:=B}) I2 c2;obtain⟨_,_,oe,vs,xo,_⟩:=(show ExcAt _ H' a C h2 from .inr x2).ob;have hm:=kU I.mod.kin I.mod.glob (a6v hD);refine wpAny_handleBy_cons (codeAny_handlers_test (iN (X:=Cx.suite X a) (a4W I3 a) hg hm (b3C hXC hXD I3.kIn xo A ?_) hdb)) (by intro z;cases z);refine codeAny_handlers_suite_as ?_;refine a9P (X:=X) (s:={f with heap:=h2}) c2.hok x2 λh3 ch3 c3 x3=>?_;have I4:=Inv.chg (s:={f with heap:=h2}) I3 c3;obtain⟨fa,na,t,vs3,o,hv3⟩:=(show ExcAt _ H' a C h3 from .inr x3).ob;have I5:Inv X [] U (upd H' a (xcO a C)) {f with heap:=h3}:=Inv.track I4 fa na ⟨t,vs3,o.at_,hv3⟩ ⟨⟨t,o⟩,⟨t,o.at_⟩,by rintro g1 g2⟨o1,y⟩k;exact⟨o1,k _ y.at_,y.cls⟩⟩;have J:1<U.length:=by rw[I5.len];exact(qR.mp Q).1
    refine sB (i:=1) (v:=.ref a) I5 hN Q (.inl P) rfl (λs4 I6=>?_) (.inr P);have g6:Rel G' (upd H' a (xcO a C)):=S.step g (Grow.side (S.sub g).1 na);have sm6:=S.sub g6;have run:=b6I (X:=Cx.suite X a) (p:=p5) (p2:=p6) (pos:=p7) (e:=none) (G:=G') K0 (hr _) (a4W I6 a) Q (by rw[ke J]) (.inl P) hnd E sm6 hC aJ hF hgy hdy he hpl;refine we (u4 (v3 run (?_) λ_ _ z=>qz z));rintro u s5⟨v,H5,I7,rv,G5,g5,rp⟩;have I8:=a7P I7 I.ok;exact name_goes I8 hN Q P λs6 I9=>⟨v,_,H5,I9,rv,G5,S.step g6 g5,rp⟩
   ·cases j
  ·cases j
section
variable{K:qB}{x:Str}{F:Str->Mm q8}
structure DeedOkR(P:Program)(w:World)(K:qB)(mg:T0d)(base:Heap)(k:Nat)(s:Shared)(H:Hp)(Rel:Hp->Hp->Prop)(r:Re q8)(fl:Addr):Prop where
 fn:∀(s':Shared) fs,Un fs [] H H s.heap s'.heap->PySem.W.FnAt fl s'.heap
 run:∀ A outer s' fs,Room k A->Env0 P w K mg base A outer s' H->Un fs [] H H s.heap s'.heap->wn (model P w) A (.call (.ref fl) ⟨[],[]⟩) (CR (CX1 P w) outer P w H s' (QvR K Rel r) (QxR K Rel r)) s'
structure ToldOkR(P:Program)(w:World)(K:qB)(mg:T0d)(base:Heap)(x:Str)(L:T0q)(F:Str->Mm q8):Prop where ex:∃f,mg x=some (.ref f)/\jY K (.ref f)=true/\∀ k A outer s H Rel r d fl,Room (k+2) A->Env0 P w K mg base A outer s H->RelOk K Rel->DeedOkR P w K mg base k s H Rel r fl->uP L F r=some d->wn (model P w) A (.call (.ref f) ⟨[.ref fl],[]⟩) (CR CX0 outer P w H s (λv H'=>∃G',Rel G' H'/\Rep K G' v d) E0) s
theorem b1S(D:Def K mg x st)(S:FnScope [dn,n] [dn] (aD st))(hD:eW K "SheetError"=some Dc)(hXD:XCls K Dc)(hcs:∀c∈L,∃C,eW K c=some C/\XCls K C/\ky K (.ref C) (.ref Dc)=some true)(K0:ClsOk P w K mg base y 1 F)(hB:bK st=[.Try [.Return (some (.Call (.Name dn p1) [] [] p2)) p3] [.ExceptHandler (some (.Name "SheetError" np)) (some n) [.Return (some (.Call (.Name y p5) [.Name n p6] [] p7)) p8] hpos] [] [] pos])(hb:∀ kV doc pm(an:T0k) cdv ct(us:T0m),us.length=[dn].length->uk (jg x x (fD st) (bK st) (aD st) .none kV doc pm an cdv ct) ⟨us,[]⟩=pure ([dn].zip us))(hk0:(aD st).names.lookup dn=some .local)(hk:(aD st).names.lookup n=some .local)(hg:(aD st).names.lookup ("SheetError":Str)=some .globalImplicit)(hgy:(aD st).names.lookup y=some .globalImplicit)(t:U2 dn)(E:U3 dn)(hnd:U2 n)(p:U3 n)(hdy:U2 y):ToldOkR P w K mg base x L F:=by
 obtain⟨N,fd,Fu,hmg⟩:=D.ex;refine⟨N,hmg,Fu.kp,λk A a s H Rel r d fl T G RO Dd ht=>?_⟩;have bd:=Fu.binds hb;obtain⟨oc,od,kV,doc,pm,an,cdv,ct,osl,rfl,lk,hcd⟩:=Fu.ex;have KX:=G.mod.kin.keeps λb o e=>(G.bs b o e).1;have R:=G.mod.nolimit.keeps λb o e=>(G.bs b o e).1;have g:∀z∈[dn].zip [qr fl],(aD st).names.lookup z.1=some .local\/((aD st).names.lookup z.1=some .cell/\((k8 (s.heap.objs.size+1) (aD st).names []).lookup z.1).isSome=true):=by
  rintro ⟨n,v⟩hy;obtain q|q:=S.par n (zg hy).1;·exact .inl q
  ·exact .inr ⟨q,zP _ _ _ (.inl q)⟩
 refine y9 T.depth (KX _ _ lk) rfl S.co S.gen rfl (wC KX hcd) (bd s [.ref fl] KX rfl _ _ _ _ ?_);refine yi S.kind g λenv he s1 xx=>?_;subst he;refine⟨R.keeps xx.toInCall.keep,codeAny_func ?_⟩;have I:Inv (a1a CX0 P w K mg base [dn,n] x (aD st) N cdv A a s H E0) [] (start [dn,n] [.ref fl]) H s1:=a0Q S T.hd G rfl (.cons rfl .nil) xx;rw[hB];have j:Room (k+1) (A.deeper (w4 x (aD st) s.heap.objs.size N cdv)):=T.deeper _;have i:=a8G (X:=a1a CX0 P w K mg base [dn,n] x (aD st) N cdv A a s H E0) (p1:=p1) (p2:=p2) (p3:=p3) (np:=np) (p5:=p5) (p6:=p6) (p7:=p7) (p8:=p8) (hpos:=hpos) (pos:=pos) RO I S.nd rfl rfl hD hXD hcs K0 (λe=>Room.n (j.mono (by lia):Room 1 _) e) ht rfl rfl rfl (λM Q=>Dd.fn M _ Q.base)
  (λM Q=>Dd.run _ _ M _ (j.mono (by lia)) Q.env0 Q.base) hk0 hk hg hgy t E (by decide) hnd p hdy rfl rfl;refine we (v3 i (λf M q=>?_) λ_ _ z=>z);cases f with|next=>obtain⟨_,_,_,z⟩:=q;exact z.elim|brk=>obtain⟨_,_,_,z⟩:=q;exact z.elim|cont=>obtain⟨_,_,_,z⟩:=q;exact z.elim|ret u=>obtain⟨v,σ',H',J,rv,q⟩:=q;exact⟨v,H',J.os,J.bare,J.base,J.hok,rv,q⟩
end
variable{c:Addr}{body:Expr}{fe:OEF}
section
variable{K:qB}
theorem b3g{f:Addr}{cl:T0f}{outer:List Env}{t:Sto}{o:Obj}(hr:Room (k+1) A)(e0:Env0 P w K mg base A outer s H)(ho:s.heap.get? f=some o)(L:o.data=.func (PySem.W.kla_fn "<lambda>" qual params body scope cl pm (.ref c) ct))(hcd:s.heap.CodeRec (.ref c) qual)(hk:scope.kind=.function)(S:scope.isCoroutine=false)(Q:scope.isGenerator=false)(j:∀x∈scope.names,x.2≠.cell)(p:uk (PySem.W.kla_fn "<lambda>" qual params body scope cl pm (.ref c) ct) ⟨[],[]⟩=pure [])(g:OE (cxL P w K mg base N (a9F qual scope s.heap.objs.size f (.ref c) cl) A outer s H (QxR K Rel r)) body fe)(C:Caps cl scope N U H s.heap)(R:bF K H0 G G H U Z t)(hf:fe Z t=some (r,β'))(hR:∀G' H',aT G G'->nT K H0 G G' H' β'->Rel G' H'):wn (model P w) A (.call (.ref f) ⟨[],[]⟩) (CR (CX1 P w) outer P w H s (QvR K Rel r) (QxR K Rel r)) s:=by
 have y:=e0.mod.nolimit.keeps λb o e=>(e0.bs b o e).1;refine PySem.W.kla_callFunE hr.depth ho L S Q rfl hcd ?_;rw[p];refine j3 (wpAny_newFunctionEnv j (by simp) (λB M D=>?_) hk);have kp:∀b o,s.heap.get? b=some o->B.get? b=some o:=λb o e=>D.extBut b o (qW (qN e)) (qC _ e);refine⟨y.keeps kp,PySem.W.kla_codeExpr ?_⟩;have I:Inv (cxL P w K mg base N (a9F qual scope s.heap.objs.size f (.ref c) cl) A outer s H (QxR K Rel r)) [] U H {s with heap:=B,toks:=s.toks+([]:T0g).length}:=b8O hk j hr.hd e0 C ⟨_,M⟩ kp;refine v3 (g.run [] _ U H (QvR K Rel r) I ⟨Z,t,r,β',H0,G,G,hf,R,?_⟩) (λu' s' E=>?_) λe s' E=>E;·cases r with|ok d=>exactλv G' H' s R' u=>⟨G',d,rfl,hR G' H' s R'.grow,u⟩|ex c'=>
   rintro pz s' σ' H' G' e' i R' sg⟨a,C',e1,hE,xa⟩;subst e1;refine a2Y (X:=cxL P w K mg base N (a9F qual scope s.heap.objs.size f (.ref c) cl) A outer s H (QxR K Rel (.ex c'))) (fr:=λb=>s.heap.get? b=none) i.ok.frames rfl rfl i (xa.mono λb p=>?_) (λb p=>?_) λh' ch un T F x'=>?_
   ·obtain z|z:=p.1;·cases z
    ·exact z
   ·cases z:s.heap.get? b with|none=>rfl|some o=>obtain⟨o',z'⟩:=i.base.there b o z (by intro w;cases w);rw[p]at z';cases z'
   ·exact⟨a,C',H',rfl,⟨G',C',c',rfl,rfl,hE,hR G' H' sg R'.grow⟩,i.os,i.bare,a2k i rfl un T,F,x'⟩
 ·obtain⟨v',H',J,u,q⟩:=E;exact⟨v',H',J.os,J.bare,J.base,J.hok,u,q⟩
end
theorem bF.whole{K:qB}{f:Sto}(R:bF K H0 Gz G H U Z f)(i:gH Z=true) cap:∃F:List Addr,bF K (less H F) G G H (gA cap U) (cJ cap Z) f/\∀G' H' β',nT K (less H F) G G' H' β'->bF K H0 Gz G' H' U Z β':=by
 obtain⟨b,S,R⟩:=R;refine⟨b.flatten,⟨b,⟨S.each,S.nd,λx c=>⟨fC c,(S.out x c).2⟩⟩,by rw[a0I];exact R.cap cap⟩,?_⟩;rintro G' H' β'⟨a,d,g⟩;have k:=RepS.back (fp:=b.flatten) (fp':=a.flatten) R i S.kind (λx c=>by rw[cN c];obtain⟨o,e,_⟩:=S.kind x c;rw[e];simp) (λx c=>⟨d.kind x c,d.out x c⟩) g;refine⟨a,⟨d.each,d.nd,λx c=>⟨?_,(d.out x c).2⟩⟩,?_⟩
 ·by_cases h:x∈b.flatten;·exact(S.out x h).1
  ·have c:=(d.out x c).1;rw[cA h]at c;have:=R.grow.hh.free c;rwa[bG h]at this
 ·have j:plus (less (plus H0 H b.flatten) b.flatten) H' a.flatten=plus H0 H' a.flatten:=by
   funext x;by_cases B:x∈a.flatten;·rw[cN B,cN B]
   ·rw[bG B,bG B];by_cases h:x∈b.flatten;·rw[fC h,(S.out x h).1]
    ·rw[cA h,bG h]
  rwa[<-j]
def a1l(L:T0q)(F:Str->Mm q8)(cap:T0e)(fe:OEF):OEF:=λZ β=>if gH Z then(match fe (cJ cap Z) β with|some (r,β')=>(uP L F r).map λd=>(.ok d,β')|none=>none)else none
theorem a1Z{x:Str}{F:Str->Mm q8}{c T:Addr}{lp:Pos}{cap:T0e}(T0:ToldOkR X.prog X.w X.K X.mg X.base x L F)(hx:q∈fG)(ht:kH X.K q=some (c,T))(t:X.env.code=.ref c)(o:X.env.qual++"<lambda>"=lamQ q)(C:zX X.K c T=true)(M:BM X.mg X.base)(hr:Room (k+3) X.A)(B0:Blk X scope N' cap)(hnc:∀y∈scope.names,y.2≠.cell)(w:∀ f c cl(A:Around)(a:List Env) s H E,Room k (A.deeper (a9F (lamQ q) scope s.heap.objs.size f (.ref c) cl))->OE (cxL X.prog X.w X.K X.mg X.base N' (a9F (lamQ q) scope s.heap.objs.size f (.ref c) cl) A a s H E) body fe)(D:∀ pm ct c(cl:T0f),uk (PySem.W.kla_fn "<lambda>" (lamQ q) params body scope cl pm (.ref c) ct) ⟨[],[]⟩=pure []:=by intros;rfl)(hco:scope.isCoroutine=false:=by rfl)(hge:scope.isGenerator=false:=by rfl)(K:defaultsOf params X.env=([],[]):=by rfl)(he:j4 [.Lambda params body scope lp] X.env=(false,eval (.Lambda params body scope lp) X.env)::j4 [] X.env:=by rfl)(hpl:U6 X pos []:=by rfl)(hg:Gl X x:=by rfl)(hdb:U2 x:=by decide):OE X (.Call (.Name x p) [.Lambda params body scope lp] [] pos) (a1l L F cap fe):=⟨by
 rintro pz s U H Q I⟨Z,β,r0,j,H0,Gz,G,e,R,qq⟩;unfold a1l at e;split at e
 ·rename_i hn;split at e
  ·rename_i r β' er;obtain⟨d,ed,z⟩:=qH.mp e;cases z;obtain⟨f,hm,kp,run⟩:=T0.ex;refine j9 (iN I hg hm ?_ hdb);refine kI (h₀:=X.base) I.ok.mod.kin kp ?_ he hpl;rw[he];obtain⟨fps,S,R0⟩:=id R;refine zA (b5x hx ht t o C M K (lQ λp hp hk=>I.ok.has p.1 (.inl (B0.free p hp hk))) I R0 λN c' ct pm H2 s2 P g2 fo Hf sf hc'=>?_);refine zJ ⟨P.kIn,?_⟩;have R2:=R.more g2;obtain⟨F,Ri,back⟩:=R2.whole hn cap;have RL:RelOk X.K (λb i=>aT G b/\bF X.K H0 Gz b i U Z j):=⟨λh=>⟨h.2.sub,h.2.tab⟩,λh g=>⟨h.1.trans g.gg,h.2.more g⟩⟩;have dd:DeedOkR X.prog X.w X.K X.mg X.base (k+1) s2 H2 (λb i=>aT G b/\bF X.K H0 Gz b i U Z j) r N:=by
    refine⟨λs' fs un=>?_,λA a s' fs J e0 un=>?_⟩;·obtain⟨sl,z⟩:=un.any fo Hf (by simp);exact⟨_,_,_,_,z⟩
    ·obtain⟨sl,z⟩:=un.any fo Hf (by simp);exact b3g J e0 z rfl (e0.hok c' _ hc').1 B0.kind hco hge hnc (D pm ct c' _) (w _ _ _ _ _ _ _ _ (J.deeper _)) ((b9G B0 P).more un) Ri er λb i s g=>⟨s,back b i j g⟩
   refine yg (wc (run (k+1) X.A X.stack s2 H2 _ r d N hr P.env0 RL dd ed) λres s' o=>?_);cases res with|error e2=>exact o.elim|ok N=>cases N with|ret u=>obtain⟨v,i,I',rv,b,⟨sg,g'⟩,rp⟩:=P.after o;exact⟨v,i,I',rv,qq v b i sg g' rp⟩|next=>exact qz o|brk=>exact qz o|cont=>exact qz o
  ·cases e
 ·cases e⟩
end L2.L3
namespace L2.L3
open PySem PySem.Spec PyProof.Rows
theorem b6m i j{x y:Str}{a:Expr}{fa:AF}{pt:Pos}{k k2 f:_}(J:X.calm=true)(L:X.N.Nodup)(t:i≠j)(K:DA X [a,b] fa)(F:X.N[i]?=some x:=by rfl)(E:X.N[j]?=some y:=by rfl)(hx:X.env.scope.names.lookup x=some .local:=by rfl)(A:X.env.scope.names.lookup y=some .local:=by rfl)(C:uf [.Tuple [.Name x px,.Name y py] k pt] (.Tuple [a,b] k2 f) X.env=pure (some [x,y]):=by rfl)(hs:ug [.Tuple [.Name x px,.Name y py] k pt] (.Tuple [a,b] k2 f) pos.line X.env=pure false:=by rfl):DS X (.Assign [.Tuple [.Name x px,.Name y py] k pt] (.Tuple [a,b] k2 f) pos) (a1J (.tp [i,j]) (eB fa)):=⟨by
 rintro z s U H D I⟨Z,o,H0,Gz,G,e,R,q⟩;refine b4u J L F E t hx A K.run C hs z s U H D I ?_;have M:bns (fa Z) Z (λY=>bns (lft (a1t Y)) Z λd=>(tgD (.tp [i,j]) Z d).map So.nx)=some o:=by rw[<-e];unfold a1J eB;cases h:fa Z with|none=>rfl|some r=>cases r<;>rfl
 refine sA R M q λO S Q P T N g c w=>?_;unfold a1t at c;split at c
 ·have c:(if[i,j].length=O.length then some (iI Z [i,j] O)else none).map So.nx=some o:=c;split at c;·rename_i p;cases c;cases g with|nil=>cases p|cons v g=>cases g with|nil=>cases p|cons u g=>cases g with|nil=>exact⟨_,_,rfl,w Q P _ (.refl _) ((N.set v).set u)⟩|cons _ _=>simp at p
  ·cases c
 ·cases c⟩
end L2.L3
namespace L2.L3
open PySem PySem.Spec PySem.Calls PyProof.Rows
noncomputable def uO:BS:=⟨[],[],[]⟩
def spI(K:qB):Sp:=λvs H Q _=>∃x dx,vs=[.ref x]/\H x=some (.ins (iC K) dx [])/\∀d l1 l2 H6,H d=none->H l1=none->H l2=none->l1≠l2->H6 x=some (.ins (iC K) dx (bFs d l1 l2))->H6 d=some (.dK [])->H6 l1=some (.lst [])->H6 l2=some (.lst [])->(∀y o,y≠x->H y=some o->H6 y=some o)->Q .non H6
noncomputable def bF1(d:Addr):List (Str×V):=[("sheets",.ref d)]
noncomputable def bF2(d l1:Addr):List (Str×V):=[("sheets",.ref d),("done",.ref l1)]
theorem c1j d:mD "sheets" (.ref d) []=bF1 d:=rfl
theorem c1i d a:mD "done" (.ref a) (bF1 d)=bF2 d a:=by unfold bF1 bF2;simp only[mD];rw[if_neg (by decide)]
theorem c1h d b a:mD "undone" (.ref a) (bF2 d b)=bFs d b a:=by unfold bFs bF2;simp only[mD];rw[if_neg (by decide),if_neg (by decide)]
variable{fa:Addr}{a1 a2 a3 a4 b1 b2 b3 b4 c1 c2 c3 c4:Pos}
section
variable{K:qB}
theorem b5H(t:BCls K)(Fu:Fun K "__init__" "Binder.__init__" st fa fd)(S:FnScope ["self"] ["self"] (aD st))(T:(aD st).names.lookup ("self":Str)=some .local)(X:bK st=[.Assign [.Attribute (.Name "self" a1) "sheets" a2] (.Dict [] [] a3) a4,.Assign [.Attribute (.Name "self" b1) "done" b2] (.List [] b3) b4,.Assign [.Attribute (.Name "self" c1) "undone" c2] (.List [] c3) c4]):FnOk P w K mg base CX0 (k+1) fa fd ["self"] (spI K):=by
 refine Fu.ok S (λN H Q E⟨x,D,e,_⟩=>by rw[e];rfl) (?_);rintro J A f s H N Q E hr⟨x,D,e,R,q⟩;subst e;rw[X];have c:Vis (a1a CX0 P w K mg base ["self"] "Binder.__init__" (aD st) fa J A f s H E).nox.env.scope "self":=.inl T;refine⟨_,a7s (a5M (cM (i:=0) rfl c) a7x rfl) (a7s (a5M (cM (i:=0) rfl c) (a2L fE) rfl) (a5L (a5M (cM (i:=0) rfl c) (a2L fE) rfl))),?_⟩;intro d G;have a:=aK R G;refine⟨.ref x,rfl,x,_,D,[],rfl,by rwa[aE a],t.cl,t.n1,by decide,?_⟩;rw[c1j];refine⟨qx _,λv B=>⟨.ref x,rfl,x,_,D,bF1 d,rfl,?_,t.cl,t.n2,by show 1<1000;decide,?_⟩⟩;·rw[aE (aK aJ B)];exact aJ
 rw[c1i];have b:=aK aJ B;have j:d≠v:=λz=>by rw[<-z,aE (jH a),aJ]at B;cases B
 refine⟨qx _,λC r=>⟨.ref x,rfl,x,_,D,bF2 d v,rfl,?_,t.cl,t.n3,by show 2<1000;decide,?_⟩⟩;·rw[aE (aK aJ r)];exact aJ
 rw[c1h];have g:=aK aJ r;have p:v≠C:=λz=>by rw[<-z,aE (jH b),aJ]at r;cases r
 have u:d≠C:=λz=>by rw[<-z,aE (jH a),aE j,aE (jH a),aJ]at r;cases r
 have M:H v=none:=by rwa[aE (jH b),aE (jH j)]at B
 have L:H C=none:=by rwa[aE (jH g),aE (jH p),aE (jH g),aE (jH u)]at r
 refine q d v C _ G M L p aJ ?_ ?_ ?_ λy o F I=>?_;·rw[aE (jH a),aE u,aE (jH a),aE j,aE (jH a),aJ]
 ·rw[aE (jH b),aE p,aE (jH b),aJ]
 ·rw[aE (jH g),aJ]
 ·rwa[aE F,aE (aK I L),aE F,aE (aK I M),aE F,aE (aK I G)]
end
structure BMk(P:Program)(w:World)(K:qB)(mg:T0d)(base:Heap)(k:Nat):Prop where ex:∃f fd,mg "Binder"=some (.ref (iC K))/\Mk K (iC K) f/\Binds K fd ["self"] []/\FnOk P w K mg base CX0 k f fd ["self"] (spI K)
section
variable{K:qB}{β:Sto}
theorem RepS.setA(R:RepS K H0 Gz G H U Z):RepS K H0 Gz G H (U.set i (some (.ref a))) (Z.set i (.adr a)):=by
 refine⟨R.grow,by simp[R.len],λj o e B b=>?_,R.inj.sub λj e B b=>?_,R.tab⟩
 ·obtain⟨rfl,rfl,_⟩|⟨n,B⟩:=aM B
  ·obtain⟨_,rfl,_⟩|⟨n,_⟩:=aM b;·rfl
   ·exact absurd rfl n
  ·obtain⟨z,_⟩|⟨_,b⟩:=aM b;·exact absurd z n
   ·exact R.ent j o e B b
 ·obtain⟨_,rfl,_⟩|⟨n,B⟩:=aM B;·cases b
  ·exact⟨B,qt (jH n)⟩
theorem b2g(R:bF K H0 Gz G H U Z β)(h:H x=none):eT β x=none:=by cases q:eT β x with|none=>rfl|some b=>obtain⟨_,_,_,_,_,_,_,B,_⟩:=R.ob q;rw[h]at B;cases B
theorem bF.made(R:bF K H0 Gz G H U Z β)(s:gH Z=true)(i:BOk K G H6 x uO fp)(fr:∀y∈fp,H y=none)(d:∀y o,H y=some o->H6 y=some o):bF K H0 Gz G H6 U Z ((x,uO)::β):=by
 obtain⟨b,S,R⟩:=R;have k:aT G H6:=λy o e=>d y o (R.sub y o e);have g:Grow G (plus (less H []) H6 fp) G H6:=a2c k λy o _ e=>d y o e;have v:=RepS.back (fp:=[]) (fp':=fp) R s (λy a=>nomatch a) (λy a=>nomatch a) (λy a=>⟨i.kind y a,by rw[cA (by simp)];exact fr y a,R.sub.free (fr y a)⟩) g;have j:∀y∈b.flatten,y∉fp:=λy a z=>by obtain⟨o,e,_⟩:=S.kind y a;rw[fr y z]at e;cases e
 refine⟨fp::b,⟨.cons i (uD S.each λp f u r=>r.keep (λy o _ e _=>d y o e) (.refl _)),?_,λy a=>?_⟩,?_⟩;·rw[jI,jL];exact⟨i.nd,S.nd,λy a z q e=>by subst e;exact j y q a⟩
 ·rw[jI,qX]at a;obtain a|a:=a;·refine⟨?_,R.sub.free (fr y a)⟩;have n:y∉b.flatten:=λz=>j y z a;have:=R.grow.hh.free (fr y a);rwa[bG n]at this
  ·exact S.out y a
 ·have t:plus (less (plus H0 H b.flatten) []) H6 fp=plus H0 H6 (fp::b).flatten:=by
   funext y;rw[jI];by_cases B:y∈fp;·rw[cN B,cN (jQ _ B)]
   ·rw[bG B,cA (by simp)];by_cases c:y∈b.flatten;·rw[cN c,cN (qb _ c)];obtain⟨o,e,_⟩:=S.kind y c;rw[e,d y o e]
    ·rw[bG c,bG (λz=>(qX.mp z).elim B c)]
  rwa[<-t]
theorem Grow.less(g:Grow Gz H0 G' H')(h:aT H0' H0):Grow Gz H0' G' H':=⟨g.gg,⟨λb o e n=>g.hh.keep b o (h b o e) n,λb c e=>g.hh.tbl b c (h b _ e),λP q t=>g.hh.tab P q (t.same h)⟩,g.sub,λa e n=>g.new a e (λz=>n (h.free z)),g.nt⟩
theorem nT.forget(g:nT K H0 Gz G H β):nT K H0 Gz G H []:=by obtain⟨b,S,g⟩:=g;refine⟨[],⟨.nil,.nil,λx a=>nomatch a⟩,g.less λx o e=>?_⟩;rw[bG (by simp)]at e;rwa[bG (λz=>by rw[(S.out x z).1]at e;cases e)]
end
open Classical in noncomputable def mkO(i:Nat)(js:T0t)(fA:AF)(g:OSF):OSF:=λZ β=>if gH Z then(if h:∃d,∀a,eT β a=none->∃O β',fA (vw ((a,uO)::β) Z)=some (.ok O)/\js.length=O.length/\g (iI (Z.set i (.adr a)) js O) ((a,uO)::β)=some (.rt d,β')then some (.rt h.choose,[])else none)else none
theorem b2T b:∃a,eT b a=none:=by
 have:∀b:Sto,∃n,∀a,n<=a->eT b a=none:=λb=>by induction b with|nil=>exact⟨0,λa _=>rfl⟩|cons p b d=>obtain⟨n,h⟩:=d;refine⟨max n (p.1+1),λa c=>?_⟩;have B:=qg (Nat.le_max_left _ _) c;have e:=qg (Nat.le_max_right _ _) c;unfold eT;rw[if_neg (qW e),h a B]
 obtain⟨n,h⟩:=this b;exact⟨n,h n (qQ _)⟩
variable{fA:AF}{g:OSF}
theorem c1V(o:gH Z=true)(h:∀a,eT β a=none->∃O β',fA (vw ((a,uO)::β) Z)=some (.ok O)/\js.length=O.length/\g (iI (Z.set i (.adr a)) js O) ((a,uO)::β)=some (.rt d,β')):mkO i js fA g Z β=some (.rt d,[]):=by have f:∃d,∀a,eT β a=none->∃O β',fA (vw ((a,uO)::β) Z)=some (.ok O)/\js.length=O.length/\g (iI (Z.set i (.adr a)) js O) ((a,uO)::β)=some (.rt d,β'):=⟨d,h⟩;unfold mkO;rw[if_pos o,dif_pos f];obtain⟨a,j⟩:=b2T β;obtain⟨O,k,q,_,p⟩:=h a j;obtain⟨r,e,c,_,b⟩:=f.choose_spec a j;rw[q]at c;cases c;rw[p]at b;cases b;rfl
variable{T:List V->Hp->Prop}
section
variable{bs ts:T0n}{rest:List Stmt}{pt pt2:Pos}{x y:Str}
theorem b2G{q:Sto}(R:bF X.K H0 Gz G H U Z q)(u:gH Z=true)(h:∀x c,H x=none->bF X.K H0 Gz G c U Z ((x,uO)::q)->rA X fA U c λvs I=>T (.ref x::vs) I):b3Q (b3P (iC X.K) (spI X.K) [] (λ_ _ _=>False) b7n) (rA X fA) U H T:=by
 intro x b i g f;refine⟨x,b,rfl,aJ,λd s r c v B A k F E D C t=>⟨rfl,?_⟩⟩;have j:∀y,upd (upd H b (.own x)) x (.ins (iC X.K) b []) y=none->H y=none/\y≠x/\y≠b:=λy a=>by
  have nx:y≠x:=λz=>by rw[z,aJ]at a;cases a
  have nd:y≠b:=λz=>by rw[aE nx,z,aJ]at a;cases a
  rw[aE nx,aE nd]at a;exact⟨a,nx,nd⟩
 have p:=t b _ f (by rw[aE f,aJ]);have keep:∀y o,H y=some o->c y=some o:=λy o e=>t y o (aK e i) (by rwa[aE (aK e i),aE (aK e g)]);have w:BOk X.K G c x uO [x,b,d,s,r]:=⟨b,d,s,r,[],[],[],rfl,k,F,p,E,D,C,⟨rfl,.nil⟩,.nil,.nil⟩;refine h x c i (R.made u w (λy a=>?_) keep);simp only[qM,kF,or_false]at a;obtain rfl|rfl|rfl|rfl|rfl:=a;·exact i
 ·exact g
 ·exact(j _ v).1
 ·exact(j _ B).1
 ·exact(j _ A).1
theorem b8D{d:Sto}{o:So}(R:bF X.K H0 Gz G H U Z d)(c:mkO i js fA g Z d=some (o,β'))(q:rR X H0 Gz G D β' o)(h:∀x vs O b e,aT G b->bF X.K H0 Gz b e U Z ((x,uO)::d)->RepAll X.K b vs O->js.length=O.length->(∀j r a,aT b j->bF X.K H0 Gz j r a (iI (Z.set i (.adr x)) js O) ((x,uO)::d)->rOS X g D a r)->T (.ref x::vs) e):b3Q (b3P (iC X.K) (spI X.K) [] (λ_ _ _=>False) b7n) (rA X fA) U H T:=by
 unfold mkO at c;split at c
 ·rename_i z;split at c;·rename_i A;cases(qA c);refine b2G R z λx Q y M=>?_;obtain⟨O,k,J,I,F⟩:=A.choose_spec x (b2g R y);obtain⟨E,S,p⟩:=M;refine⟨_,_,_,Gz,G,J,RepS.view S p,λvs b e f u=>?_⟩;have L:bF X.K H0 Gz b e U Z ((x,uO)::d):=.of S p.grow.gg (p.more f) f.gg;exact h x vs O b e f.gg L u I λj r a t K=>⟨_,_,_,k,H0,Gz,j,F,K,λv P N s C w=>q v P N (f.gg.trans (t.trans s)) C.forget w⟩
  ·cases c
 ·cases c
theorem bF.setA{K:qB}{c d G H:Hp}{U:St}{Z:List Ent}{b:Sto}{i:Nat}{a:Addr}(R:bF K c d G H U Z b):bF K c d G H (U.set i (some (.ref a))) (Z.set i (.adr a)) b:=by obtain⟨e,S,R⟩:=R;exact .of S R.grow.gg R.setA (.refl _)
theorem b1U{t:TS}(c:PS X st t)(b:OB X rest g)(I:Inv X pz U H s)(h:t {D with nx:=λσ' H'=>rOS X g D σ' H'} U H):wpAny (model X.prog X.w) X.A (execs (st::rest) X.env) (SP X pz D) X.xe s:=by refine we (thn (c pz s U H _ I h) λd a z=>?_);cases d with|next=>obtain⟨σ',H',e,z⟩:=z;exact b.run pz a σ' H' D e z|ret v=>exact z|brk=>exact z|cont=>exact z
theorem c1J i j{e k2:Nat}(P:X.calm=true)(S:X.N.Nodup)(M:BMk X.prog X.w X.K X.mg X.base k)(J:Room (k+1) X.A)(Q:DE X b fb)(c:OB X rest g)(t:i≠j:=by decide)(u:Gl X "Binder":=by rfl)(N:X.N[i]?=some x:=by rfl)(L:X.N[j]?=some y:=by rfl)(hx:X.env.scope.names.lookup x=some .local:=by rfl)(C:X.env.scope.names.lookup y=some .local:=by rfl)(r:j4 [.Call (.Name "Binder" p1) [] [] p2,b] X.env=(false,eval (.Call (.Name "Binder" p1) [] [] p2) X.env)::j4 [b] X.env:=by rfl)(p:j4 [b] X.env=(false,eval b X.env)::j4 [] X.env:=by rfl)(E:uf [.Tuple [.Name x px,.Name y py] e pt] (.Tuple [.Call (.Name "Binder" p1) [] [] p2,b] k2 pt2) X.env=pure (some [x,y]):=by rfl)(hs:ug [.Tuple [.Name x px,.Name y py] e pt] (.Tuple [.Call (.Name "Binder" p1) [] [] p2,b] k2 pt2) pos.line X.env=pure false:=by rfl):OB X (.Assign [.Tuple [.Name x px,.Name y py] e pt] (.Tuple [.Call (.Name "Binder" p1) [] [] p2,b] k2 pt2) pos::rest) (mkO i [j] (aB fb aH) g):=⟨by rintro pz s U H D I⟨Z,β,o,w,H0,Gz,G,T,R,q⟩;obtain⟨f,fd,K,A,bd,F⟩:=M.ex;refine b1U (b4u P S N L t hx C (dC (b4H A F J u K bd .nil c0g) (aA Q aF p).run r) E hs) c I (b8D R T q λa vs O G7 H7 s7 R7 d v k=>?_);cases d with|nil=>cases v|cons z d=>cases d with|nil=>exact⟨_,_,rfl,k G7 H7 _ (.refl _) (R7.setA.set z)⟩|cons _ _=>simp at v⟩
end
def a7m(m n:Nat)(f:OSF)(O:T0l):Mm q8:=if O.length=n then(match f (pA m O) []with|some (.rt d,_)=>some (.ok d)|_=>none)else none
theorem nT.nil{K:qB}{a:Sto}(g:nT K H0 Gz G H a):Grow Gz H0 G H:=by obtain⟨b,S,g⟩:=g;exact g.less λx o e=>by rwa[bG (λz=>by rw[(S.out x z).1]at e;cases e)]
theorem bF.start{K:qB}(R:RepS K H G G H U Z):bF K H G G H U Z []:=by
 refine⟨[],⟨.nil,.nil,λx a=>nomatch a⟩,?_⟩;have:plus H H ([]:List (List Addr)).flatten=H:=by funext x;rw[bG (by simp)]
 rwa[this]
section
variable{K:qB}{x:Str}
theorem b8W{f:OSF} m n(F:Fun K x x st fa fd)(S:FnScope N ps (aD st))(y:N.length=m)(u:ps.length=n)(c:∀ cdv A a s H E,Room k (A.deeper (w4 x (aD st) s.heap.objs.size fa cdv))->OB (fcx P w K mg base N x (aD st) fa cdv A a s H E) (bK st) f):FnOk P w K mg base CX0 (k+1) fa fd ps (spD K λO d=>a7m m n f O=some (.ok d)):=by
 refine F.ok S (λj H Q E⟨G,O,d,s,r,b,_⟩=>?_) (λcdv A a s H j Q E t⟨G,O,d,o,r,b,q⟩=>?_)
 ·have b:a7m m n f O=some (.ok d):=b;unfold a7m at b;split at b;·rename_i z;rw[r.length,z,u]
  ·cases b
 ·have b:a7m m n f O=some (.ok d):=b;unfold a7m at b;split at b
  ·rw[<-y,<-a0p]at b;split at b;·rename_i I i e;cases(qA b);exact⟨_,(c cdv A a s H E t).run,lZ N O,[],_,_,H,G,G,e,.start (lR o r),λv D C _ g p=>q v D C g.nil p⟩
   ·cases b
  ·cases b
end
noncomputable def rP:Stmt->Nat->Stmt|.ClassDef _ _ _ b _ _ _ _ _ _ _,j=>b.getD j (.Pass ⟨0,0,0,0⟩)|s,_=>s
section
variable{K:qB}{x m:Str}{f:Addr}{kV:Value}
theorem b6a{c T:Addr} mm n(Fu:Fun K x x st fa fd)(S:FnScope N ps (aD st))(hm:N.length=mm)(hn:ps.length=n+1)(kb:K.In base)(nb:base.Ns j7 mg)(M:mg x=some (.ref fa))(ht:kH K x=some (c,T))(j:∀ A f s H E,Room k (A.deeper (w4 x (aD st) s.heap.objs.size fa (.ref c)))->OB (fcX P w K mg base N x (aD st) fa (.ref c) A f s H E) (bK st) fO):FnOk P w K mg base (CX1 P w) (k+1) fa fd ps (spO K (sJ mm n fO)):=by
 obtain⟨oc,od,kV,doc,pm,an,cdv,ct,osl,rfl,lk,hcd⟩:=Fu.ex;have hc:=PySem.W.law_code kb nb ht M (kb _ _ lk) rfl;subst hc;refine a7U lk hcd S ?_ ?_;·rintro vs H Q E⟨G,a,b,o,F,O,r,b',ev,s,hb,hG,t,i,_⟩;rw[ev,qZ,t.length,(a1W i).1,hn]
 ·rintro A f s H vs Q E L⟨G,a,b,o,F,O,r,b',ev,sm,hb,hG,t,i,q⟩;subst ev;have R0:RepS K H G G H (start N (.ref a::F)) (fT N.length (.adr a::O.map .val)):=a0o sm (.cons ⟨rfl,rfl⟩ (nF t));have R:bF K (less H o) G G H (start N (.ref a::F)) (fT N.length (.adr a::O.map .val)) [(a,b)]:=⟨[o],⟨.cons hb .nil,by rw[jI,kY,jd];exact hb.nd,λx J=>by rw[jI,kY,jd]at J;exact⟨fC J,hG x J⟩⟩,by rwa[jI,kY,jd,a0I]⟩;have i:=(a1W i).2 a;rw[<-hm]at i;unfold oR at i;split at i
  ·rename_i d p e;split at i;·rename_i u;cases(qA i);refine⟨_,(j A f s H E L).run,_,_,_,_,less H o,G,G,e,R,λv z y s g t=>q v z y s ?_ t⟩;rwa[<-u]
   ·cases i
  ·rename_i D p e;split at i;·rename_i u;cases(qA i);refine⟨_,(j A f s H E L).run,_,_,_,_,less H o,G,G,e,R,λz y σ' s R'=>q .non z y s ?_ .none⟩;rw[<-u];exact R'.grow
   ·cases i
  ·rename_i c' D p e;split at i;·rename_i u;cases(qA i);refine⟨_,(j A f s H E L).run,_,_,_,_,less H o,G,G,e,R,λpz s' U y z e' I R g xx=>a2Z (X:=fcX P w K mg base N x (aD st) fa (.ref c) A f s H E) I xx λC hC=>q C z y hC g ?_⟩;rw[<-u];exact R.grow
   ·cases i
  ·cases i
theorem a6K(a:jA K j7 "Binder"=some (some (.ref C))):iC K=C:=by unfold iC;rw[a]
theorem mdef_mk(b:jA K j7 "Binder"=some (some (.ref C)))(a:jF K (.ref C) m=some (some (.ref f)))(i:vV K (.ref f)=true)(l:K.lookup f=some ⟨oc,od,.func (jg m ("Binder."++m) (fD st) (bK st) (aD st) .none kV doc pm an cdv ct),sl⟩)(c:zD K cdv ("Binder."++m)=true)(k:jY K (.ref f)=true):MDef K m st:=⟨f,_,a6r l c k,by rw[a6K b];exact⟨a,i,k⟩⟩
theorem bcls_mk(j:jA K j7 "Binder"=some (some (.ref C)))(i:zW K C Str.empty=true)(g:vD K C=true)(f:wG K C=true)(d:jF K (.ref C) "__setattr__"=some (some (.builtin "object.__setattr__")))(c:jF K (.ref C) "sheets"=some none)(b:jF K (.ref C) "done"=some none)(a:jF K (.ref C) "undone"=some none):BCls K:=by
 have e:=a6K j;refine⟨?_,?_,?_,?_⟩<;>rw[e];·exact⟨i,g,f,d⟩
 ·exact c
 ·exact b
 ·exact a
structure BIn(K:qB)(st:Stmt):Prop where ex:∃f fd,jA K j7 "Binder"=some (some (.ref (iC K)))/\Mk K (iC K) f/\Fun K "__init__" "Binder.__init__" st f fd
theorem bin_mk(b:jA K j7 "Binder"=some (some (.ref C)))(k1:PySem.W.makesIn K C=true)(k2:jF K (.ref C) "__init__"=some (some (.ref f)))(k3:vV K (.ref f)=true)(a:jY K (.ref C)=true)(l:K.lookup f=some ⟨oc,od,.func (jg "__init__" "Binder.__init__" (fD st) (bK st) (aD st) .none kV doc pm an cdv ct),sl⟩)(c:zD K cdv "Binder.__init__"=true)(k:jY K (.ref f)=true):BIn K st:=by have e:=a6K b;exact⟨f,_,by rwa[e],by rw[e];exact⟨k1,k2,k3,a⟩,a6r l c k⟩
theorem b9N(X:K.In h)(G:h.Ns j7 mg)(i:BCls K)(I:BIn K st)(S:FnScope ["self"] ["self"] (aD st))(b:(aD st).names.lookup ("self":Str)=some .local)(d:bK st=[.Assign [.Attribute (.Name "self" a1) "sheets" a2] (.Dict [] [] a3) a4,.Assign [.Attribute (.Name "self" b1) "done" b2] (.List [] b3) b4,.Assign [.Attribute (.Name "self" c1) "undone" c2] (.List [] c3) c4])(c:∀ kV doc pm(an:T0k) cdv ct(us:T0m),us.length=["self"].length->uk (jg "__init__" "Binder.__init__" (fD st) (bK st) (aD st) .none kV doc pm an cdv ct) ⟨us,[]⟩=pure ((["self"]:T0q).zip us)):BMk P w K mg base 1:=by obtain⟨f,e,g,M,a⟩:=I.ex;exact⟨f,e,kU X G g,M,a.binds c,b5H (k:=0) i a S b d⟩
end
end L2.L3
namespace L2.ZT
open PySem PyProof.Rows
section
variable{z TI TO c d t u:Addr}{Y ys:Array Value}{a b:Value}
end
end L2.ZT
namespace L2.L3
open PySem PySem.Spec PyProof.Rows
section
variable{a b:Expr}
end
variable{y:q8}
theorem dL{g:q8->q8->Option q8}{x:q8}(b:fa Z=some (.ok x))(a:fb Z=some (.ok y))(h:g x y=some d):op2 g fa fb Z=some (.ok d):=by rw[b4U,b,dF,a,dF,h];rfl
theorem cH{g:q8->q8->Option Bool}{x:q8}{r:Bool}(b:fa Z=some (.ok x))(a:fb Z=some (.ok y))(h:g x y=some r):bJ g fa fb Z=some (.ok r):=by rw[c2Z,b,dF,a,dF,h];rfl
theorem aN{Y:T0l}(b:fa Z=some (.ok x))(a:aa Z=some (.ok Y)):aB fa aa Z=some (.ok (x::Y)):=by rw[cI,b,dF,a,dF]
variable{s:List Mt}
theorem b3Z{x:Mt}(nd:(s.map (·.1)).Nodup)(hx:x∈s):∃l r,s=l++x::r/\∀m∈l,m.1≠x.1:=by obtain⟨l,r,rfl⟩:=List.append_of_mem hx;refine⟨l,r,rfl,λm a=>?_⟩;rw[jC,qI,zK,List.pairwise_append]at nd;exact nd.2.2 m.1 (jm a) x.1 (by simp)
noncomputable def prt(s:List Mt)(m:Mt):List Mt:=s.filter λo=>!decide (o.1=m.1)&&decide (ov m o)
def gof(s:List Mt)(m:Mt):List Mt:=((c4k (c5F s)).find? λA=>decide (m∈A)).getD []
def grp(s:List Mt)(m:Mt):List Mt:=s.filter λa=>decide (a∈gof s m)
def wid(s:List Mt)(m:Mt):Int:=c1T (grp s m)
section
variable(hp:∀m∈s,m.2.1<m.2.2)
include hp
omit hp
abbrev cl(P:List Ly)(m:Mt):Int:=(c0x P m.1:Nat)
variable{P:List Ly}
def lst(s:List Mt)(P:List Ly)(m:Mt):Int:=c3Y ((wid s m::(prt s m).map (cl P)).filter λc=>decide (cl P m<c))
end
noncomputable def dn(m:Mt):Nat:=((m.2.2-1)/48+1-m.2.1/48).toNat
variable{m:Mt}
theorem a4y(h:jJ m.1=true):qY (dM m)=true:=b4b (n:=1) (λd a=>by
 have:d=.str m.1\/d=.int m.2.1\/d=.int m.2.2:=by simpa using a
 obtain rfl|rfl|rfl:=this<;>simp[jD,h]) (λd a=>by
 have:d=.str m.1\/d=.int m.2.1\/d=.int m.2.2:=by simpa using a
 obtain rfl|rfl|rfl:=this<;>simp[jS]) (by decide)
abbrev a2o:TF:=bJ eqD (op2 ixD (var 2) (cst (.int 0))) (var 1)
abbrev eN:SF:=ifS a2o (retS (var 2)) dG
def fY:SF:=(aY (a9m (b8U (.nm 2) (mW (var 0)) eN)) (gG "NoMeeting"))
def iR:List q8->Mm q8:=oP 3 2 fY
abbrev cG:TF:=lC (iS (bC fL (aB (var 0) (aB (var 1) aH))))
def rW:SF:=(ifS cG (gG "NoTime") dG)
def aS:List q8->Mm q8:=oP 2 2 rW
abbrev a4p:TF:=lC (iS (bC fK (aB (var 1) aH)))
def a3n:SF:=(aY (ifS a4p (gG "NoTime") dG) (retS (op2 cF (var 0) (var 1))))
def a0e:List q8->Mm q8:=oP 2 2 a3n
abbrev lJ:EF:=fR (.nm 0) [none,some 2] (mW (var 0)) (bJ neD (op2 ixD (var 0) (cst (.int 0))) (op2 ixD (var 1) (cst (.int 0)))) (var 0)
def dW:SF:=(aY (fU 2 (gP iR (aB (var 0) (aB (var 1) aH)))) (retS (cQ mV (aB lJ aH))))
def dY:List q8->Mm q8:=oP 3 2 dW
abbrev oM:TF:=bJ inX (var 1) (bC fJ (aB (var 0) aH))
abbrev iG:TF:=bJ geD (cQ sX (aB (var 0) aH)) (cst (.int 16))
def cK:SF:=(aY (ifS oM (gG "Taken") dG) (aY (a3q (gP aS (aB (var 2) (aB (var 3) aH)))) (aY (ifS iG (gG "TooMany") dG) (retS (cQ mV (aB (cQ a3M (aB (op2 cF (var 0) (eB (aB (eB (aB (var 1) (aB (var 2) (aB (var 3) aH)))) aH))) aH)) aH))))))
def gE:List q8->Mm q8:=oP 4 4 cK
theorem uB{m n:Nat}(a:O.length=n)(h:f (pA m O)=some (.rt d)):oP m n f O=some (.ok d):=by unfold oP;rw[if_pos a,h]
theorem b7F{m n:Nat}(a:O.length=n)(h:f (pA m O)=some (.nx Z)):oP m n f O=some (.ok .none):=by unfold oP;rw[if_pos a,h]
variable{c:Str}
theorem lM{m n:Nat}(a:O.length=n)(h:f (pA m O)=some (.xc c Z)):oP m n f O=some (.ex c):=by unfold oP;rw[if_pos a,h]
theorem b8s(h:f Z=some (.nx ρ')):a9m f Z=some (.nx ρ'):=by unfold a9m;rw[h]
theorem b8r(h:f Z=some (.rt d)):a9m f Z=some (.rt d):=by unfold a9m;rw[h]
theorem a1T{g:SF}(h:f Z=some (.xc c ρ')):aY f g Z=some (.xc c ρ'):=by unfold aY;rw[h]
theorem b9H F fa Z:gP F fa Z=bnd (fa Z) F:=rfl
theorem eL{F:List q8->Mm q8}{fa:AF}(a:fa Z=some (.ok O))(h:F O=some r):gP F fa Z=some r:=by rw[b9H,a,dF,h]
theorem a0F{x:Str}:∀ l(r:List Mt) y,(∀m∈l,m.1≠x)->∃a,iU (.nm 2) eN ((l++r).map dM) [.val S,.val (.str x),y]=iU (.nm 2) eN (r.map dM) [.val S,.val (.str x),a]|[],r,y,_=>⟨y,rfl⟩|m::l,r,y,hl=>by have n:=hl m (by simp);obtain⟨a,e⟩:=a0F (S:=S) l r (.val (dM m)) λm b=>hl m (qF _ b);refine⟨a,?_⟩;rw[<-e];exact b2I (ρ1:=[.val S,.val (.str x),.val (dM m)]) (ρ2:=[.val S,.val (.str x),.val (dM m)]) rfl (by simp[n])
theorem b9g(nd:(s.map (·.1)).Nodup){x:Mt}(hx:x∈s):iR [dS s,.str x.1]=some (.ok (dM x)):=by obtain⟨l,r,rfl,h⟩:=b3Z nd hx;refine uB rfl ?_;show fY [.val (dS (l++x::r)),.val (.str x.1),.no]=_;refine a5C (b8r ?_);rw[a9N,yC (d:=dS (l++x::r)) rfl rfl,a5j];obtain⟨a,e⟩:=a0F (S:=dS (l++x::r)) l (x::r) .no h;rw[e];show iU (.nm 2) eN (dM x::r.map dM) _=_;rw[iU,c3s];dsimp only[List.set];rw[show eN [.val (dS (l++x::r)),.val (.str x.1),.val (dM x)]=some (.rt (dM x))from by simp]
theorem b5a(h:∀m∈s,m.1≠x):iR [dS s,.str x]=some (.ex "NoMeeting"):=by obtain⟨a,e⟩:=a0F (S:=dS s) s [] .no h;rw[jd]at e;refine lM (Z:=[.val (dS s),.val (.str x),a]) rfl ?_;show fY [.val (dS s),.val (.str x),.no]=_;unfold fY;rw[aO (b8s (ρ':=[.val (dS s),.val (.str x),a]) (by rw[a9N,yC (d:=dS s) rfl rfl,a5j,e];rfl))];rfl
noncomputable def tmB(b e:Int):Bool:=decide (0<=b)&&(decide (b<e)&&decide (e<=480))
variable{b e:Int}
theorem a1P:tmB b e=true↔0<=b/\b<e/\e<=480:=by unfold tmB;simp
theorem a7Z b e:fL [.int b,.int e]=some (.ok (.bool (tmB b e))):=by
 have w:∀i:Int,fK [.int i]=some (.ok (.bool true)):=λi=>by kernel_rfl
 refine eE rfl ?_;show iW [.val (.int b),.val (.int e)]=_;unfold tmB;by_cases B:0<=b<;>by_cases c:b<e<;>by_cases a:e<=480<;>simp[iW,w,B,c,a]
theorem b6i(h:tmB b e=true):aS [.int b,.int e]=some (.ok .none):=by
 refine b7F (Z:=[.val (.int b),.val (.int e)]) rfl ?_;show ifS cG _ _ [.val (.int b),.val (.int e)]=_;have t:cG [.val (.int b),.val (.int e)]=some (.ok false):=by show bnd (bnd (bC fL (aB (var 0) (aB (var 1) aH)) [.val (.int b),.val (.int e)]) _) _=_;rw[bR (O:=[.int b,.int e]) rfl (a7Z b e),h];rfl
 rw[tH,t];rfl
theorem b0V(h:tmB b e=false):aS [.int b,.int e]=some (.ex "NoTime"):=by
 refine lM (Z:=[.val (.int b),.val (.int e)]) rfl ?_;show ifS cG _ _ [.val (.int b),.val (.int e)]=_;have t:cG [.val (.int b),.val (.int e)]=some (.ok true):=by show bnd (bnd (bC fL (aB (var 0) (aB (var 1) aH)) [.val (.int b),.val (.int e)]) _) _=_;rw[bR (O:=[.int b,.int e]) rfl (a7Z b e),h];rfl
 rw[tH,t];rfl
noncomputable def repl(x:Str)(b e:Int)(m:Mt):Mt:=if m.1=x then(m.1,b,e)else m
theorem a8c a b:a0e [.int a,.int b]=some (.ok (.int (a+b))):=by
 refine uB rfl ?_;show a3n [.val (.int a),.val (.int b)]=_;unfold a3n;have t:a4p [.val (.int a),.val (.int b)]=some (.ok false):=by show bnd (bnd (bC fK (aB (var 1) aH) [.val (.int a),.val (.int b)]) _) _=_;rw[bR (O:=[.int b]) rfl (b9b b)];rfl
 rw[aO (ρ':=[.val (.int a),.val (.int b)]) (by rw[tH,t];rfl)];rfl
theorem b7E{m n:Nat}(b:O.length=n)(h:f (pA m O)=retS fa Z)(a:fa Z=some r):oP m n f O=some r:=by unfold oP;rw[if_pos b,h,dJ,a];cases r<;>rfl
theorem a9W{x:Mt}(nd:(s.map (·.1)).Nodup)(hx:x∈s)(b:s.length<64):dY [dS s,.str x.1]=some (.ok (dS (s.filter λm=>!decide (m.1=x.1)))):=by refine uB rfl ?_;unfold dW;rw[aO (ρ':=[.val (dS s),.val (.str x.1),.val (dM x)]) (by rw[iH,eL (O:=[dS s,.str x.1]) rfl (b9g nd hx)];rfl)];have a:lJ [.val (dS s),.val (.str x.1),.val (dM x)]=some (.ok (.list ((s.filter λm=>!decide (m.1=x.1)).map dM))):=gN dM (λm=>[.val (dM m),.val (dM x)]) (λm=>!decide (m.1=x.1)) dM s (by rfl) (by exact Q4 ‹_› rfl) (λm _=>by rfl) (λm _=>by rfl) (λm _ _=>by simp);rw[dJ,eY (O:=[.list ((s.filter λm=>!decide (m.1=x.1)).map dM)]) (by rw[cI,a];rfl) (a1k _)];rfl
theorem a8Q(s:List Mt):∀d∈s.map dM,dU [false,true,true] d=true:=λd a=>by obtain⟨m,_,rfl⟩:=qK.mp a;rfl
end L2.L3
namespace HT
open PySem PySem.Spec PyProof.Rows
end HT
namespace L2
open PySem PySem.Spec PyProof.Rows
end L2
namespace L2.L3
open PySem PySem.Spec PyProof.Rows
section
variable{a:Expr}{fa:EF}{fl fh:OF}
end
abbrev a6U:OTF:=upT (isT false (.none) (var 2))
def a6t:OSF:=(ifO a6U (a7u 0 (var 1)) (a7r 0 (var 1) (var 2)))
def pZ:BS->List q8->Option (Re q8×BS):=sJ 3 2 a6t
def oE:OSF:=(eO (b0t false 0 (eB (aB (var 1) (aB (var 2) (aB (c2s 0 (var 2)) (aB (var 3) aH)))))) (eO (b6J 0) (eO (yN (eI pZ 0 (aB (var 2) (aB (var 3) aH)))) (upS (retS (var 3))))))
def aX:BS->List q8->Option (Re q8×BS):=sJ 4 3 oE
abbrev a6V:TF:=orT (lC (iS (bC cR (aB (var 1) aH)))) (lC (iS (bC gJ (aB (var 2) aH))))
def a6u:OSF:=(eO (upS (ifS a6V (gG "NoSheet") dG)) (eO (upS (fU 3 (inF 0 (var 1)))) (eO (yN (eI aX 0 (aB (cst (.str "lay")) (aB (var 1) (aB (var 2) aH))))) (upS (retS (var 3))))))
def a0d:BS->List q8->Option (Re q8×BS):=sJ 4 2 a6u
def a3Z:SF:=(aY (a3q (gP aS (aB (var 1) (aB (var 2) aH)))) (retS (eB (aB (var 0) (aB (var 1) (aB (var 2) aH))))))
def oJ:List q8->Mm q8:=oP 3 3 a3Z
abbrev nJ:EF:=b6F (.tp [0,1,2]) [none,none,none,some 1] (mW (var 0)) ttT (gP oJ (aB (var 0) (aB (gP a0e (aB (var 1) (aB (var 3) aH))) (aB (gP a0e (aB (var 2) (aB (var 3) aH))) aH))))
def a9Q:SF:=(retS (cQ mV (aB nJ aH)))
def mS:List q8->Mm q8:=oP 2 2 a9Q
abbrev nX:TF:=orT (lC (iS (bC cR (aB (var 1) aH)))) (c1P 0 (var 1))
def iB:SF:=(aY (ifS nX (gG "NoSheet") dG) (retS (ixF 0 (var 1))))
def aI:BS->List q8->Mm q8:=a2F 2 1 iB
def b2V:OSF:=(xE (eI aX 0 (aB (cst (.str "shift")) (aB (var 1) (aB (gP mS (aB (fQ aI 0 (aB (var 1) aH)) (aB (var 2) aH))) aH)))))
def lX:BS->List q8->Option (Re q8×BS):=sJ 3 2 b2V
abbrev b1W:TF:=emF false 0
def b6d:OSF:=(eO (upS (ifS b1W (gG "NoBack") dG)) (eO (c0e false 0 1) (eO (b0t true 0 (var 1)) (eO (yN (eI pZ 0 (aB (op2 ixD (var 1) (cst (.int 1))) (aB (op2 ixD (var 1) (cst (.int 2))) aH)))) (upS (retS (op2 ixD (var 1) (cst (.int 0)))))))))
def c4D:BS->List q8->Option (Re q8×BS):=sJ 2 0 b6d
abbrev a8K:TF:=thT (orT (bJ neD (dfE c2T (var 1) (cst (.bool true))) (cst (.int 1))) (lC (iS (c2n cE 0))))
def b2Z:SF:=(aY (b5e 1 (aB (a3W cE 0 "NoBack") (aB (a3W cE 0 "NoMeeting") (aB (a3W cE 0 "NoSheet") aH)))) (aY (c2y 1 (pR (aB (a3W cE 0 "NoText") aH))) (a0U 1 (aY (a5Y 1 (var 1) (pR (aB (a3W cE 0 "NoTime") (aB (a3W cE 0 "NoZone") (aB (a3W cE 0 "Taken") aH))))) (a0U 1 (aY (a5Y 1 (var 1) (pR (aB (a3W cE 0 "TooMany") aH))) (aY (ifS a8K (retS (cst (.str "wrong"))) dG) (aY (fU 2 (pR (aB (cst (.str "no back")) (aB (cst (.str "no meeting")) (aB (cst (.str "no sheet")) (aB (cst (.str "no text")) (aB (cst (.str "no time")) (aB (cst (.str "no zone")) (aB (cst (.str "taken")) (aB (cst (.str "too many")) aH)))))))))) (a0U 1 (retS (op2 ixD (var 2) (dfE c2q (var 1) (cst (.bool true))))))))))))))
def dR:Str->Mm q8:=c1d 3 b2Z
def a0V:SF:=(retS (c0W 0))
def gQ:BS->List q8->Mm q8:=a2F 1 0 a0V
def b2X:SF:=(retS (eB (aB (b8I false 0) (aB (b8I true 0) aH))))
def oX:BS->List q8->Mm q8:=a2F 1 0 b2X
abbrev a8J:TF:=emF true 0
def b2Y:OSF:=(eO (upS (ifS a8J (gG "NoBack") dG)) (eO (c0e true 0 1) (eO (b0t false 0 (var 1)) (eO (yN (eI pZ 0 (aB (op2 ixD (var 1) (cst (.int 1))) (aB (op2 ixD (var 1) (cst (.int 3))) aH)))) (upS (retS (op2 ixD (var 1) (cst (.int 0)))))))))
def c3m:BS->List q8->Option (Re q8×BS):=sJ 2 0 b2Y
def b6c:OSF:=(xE (eI aX 0 (aB (cst (.str "drop")) (aB (var 1) (aB (gP dY (aB (fQ aI 0 (aB (var 1) aH)) (aB (var 2) aH))) aH)))))
def oY:BS->List q8->Option (Re q8×BS):=sJ 3 2 b6c
def b8Z:OSF:=(xE (eI aX 0 (aB (cst (.str "add")) (aB (var 1) (aB (gP gE (aB (fQ aI 0 (aB (var 1) aH)) (aB (var 2) (aB (var 3) (aB (var 4) aH))))) aH)))))
def uJ:BS->List q8->Option (Re q8×BS):=sJ 5 4 b8Z
def tI:OSF:=(eO (upS (fU 2 (fQ aI 0 (aB (var 1) aH)))) (eO (yN (eI aX 0 (aB (cst (.str "take")) (aB (var 1) (aB (cst .none) aH))))) (upS (retS (var 2)))))
def oW:BS->List q8->Option (Re q8×BS):=sJ 3 1 tI
abbrev mK:EF:=fR (.nm 0) [none,some 1] (mW (bC fJ (aB (var 0) aH))) (bJ a5X (var 0) (bC fJ (aB (var 1) aH))) (var 0)
def a3Y:SF:=(retS mK)
def iQ:List q8->Mm q8:=mC 2 2 a3Y
abbrev rM:EF:=fR (.nm 0) [none,some 1] (mW (var 0)) (b0u (bJ a5X (var 0) (var 1)) (bJ inX (op2 ixD (var 0) (cst (.int 0))) (bC fJ (aB (var 1) aH)))) (op2 ixD (var 0) (cst (.int 0)))
def mM:SF:=(aY (fU 2 rM) (retS (eB (aB (bC iQ (aB (var 0) (aB (var 1) aH))) (aB (bC iQ (aB (var 1) (aB (var 0) aH))) (aB (var 2) aH))))))
def iE:List q8->Mm q8:=mC 3 2 mM
abbrev a2n:TF:=iS (op2 ixD (bC iE (aB (var 0) (aB (var 1) aH))) (cst (.int 2)))
abbrev a3e:EF:=fR (.nm 0) [none,some 0] (mW (var 1)) (bJ a5X (var 0) (var 1)) (var 0)
abbrev wY:TF:=bJ gtD (cQ sX (aB (var 2) aH)) (cst (.int 16))
def lU:SF:=(aY (ifS a2n (gG "Taken") dG) (aY (fU 2 (op2 cF (var 0) (cQ mV (aB a3e aH)))) (aY (ifS wY (gG "TooMany") dG) (retS (cQ mV (aB (cQ a3M (aB (var 2) aH)) aH))))))
def uI:List q8->Mm q8:=oP 3 2 lU
def b2W:OSF:=(xE (eI aX 0 (aB (cst (.str "merge")) (aB (var 1) (aB (gP uI (aB (fQ aI 0 (aB (var 1) aH)) (aB (fQ aI 0 (aB (var 2) aH)) aH))) aH)))))
def iK:BS->List q8->Option (Re q8×BS):=sJ 3 2 b2W
variable{b:BS}{c:Str}{ft:OTF}{fa:OEF}{k:q8}{key:Key}
section
variable{ρv:List Ent}{β:Sto}{f g:OSF}
theorem a0i:gS ((a,b)::β) (.adr a)=.ro (some a) b:=by unfold gS eT;dsimp only;rw[if_pos rfl]
theorem vwS(h:vw [(a,b)] Z=Z):vw [(a,b)] (.adr a::Z)=.ro (some a) b::Z:=by show gS _ _::vw _ Z=_;rw[a0i,h]
theorem bZ:eT ((a,b)::β) a=some b:=by exact if_pos rfl
theorem cO:lA ((a,b)::β) a b'=(a,b')::β:=by exact if_pos rfl
theorem fB(h:f Z β=some (.nx ρ',β')):eO f g Z β=g ρ' β':=by unfold eO;rw[h]
theorem b7A(h:f Z β=some (.xc c ρ',β')):eO f g Z β=some (.xc c ρ',β'):=by unfold eO;rw[h]
theorem b7B(h:f Z β=some (.rt d,β')):eO f g Z β=some (.rt d,β'):=by unfold eO;rw[h]
theorem oZ{f:SF}{o:So}(a:vw β Z=ρv)(h:f ρv=some o):upS f Z β=some (b3L o,β):=by unfold upS;rw[a,h];rfl
theorem eQ{f:TF}{r:Re Bool}(a:vw β Z=ρv)(h:f ρv=some r):upT f Z β=some (r,β):=by unfold upT;rw[a,h];rfl
theorem c0s(h:ft Z β=some (.ok true,β')):ifO ft f g Z β=f Z β':=by unfold ifO;rw[h];rfl
theorem c0t(h:ft Z β=some (.ok false,β')):ifO ft f g Z β=g Z β':=by unfold ifO;rw[h];rfl
theorem b7y(h:fa Z β=some (.ok d,β')):b4c i fa Z β=some (.nx (Z.set i (.val d)),β'):=by unfold b4c;rw[h];rfl
theorem a3r(h:fa Z β=some (.ok d,β')):yN fa Z β=some (.nx Z,β'):=by unfold yN;rw[h];rfl
theorem pN(h:fa Z β=some (.ok d,β')):xE fa Z β=some (.rt d,β'):=by unfold xE;rw[h];rfl
theorem b0E(h:fa Z β=some (.ex c,β')):xE fa Z β=some (.xc c Z,β'):=by unfold xE;rw[h];rfl
theorem fF{fa:AF}(d:Z[i]?=some (.adr a))(e:eT β a=some b)(f:fa (vw β Z)=some (.ok O))(g:F b O=some (r,b'))(c:gH Z=true:=by rfl):eI F i fa Z β=some (r,lA β a b'):=by unfold eI;rw[d];dsimp only;rw[e];rw[f];dsimp only;rw[if_pos c,g];rfl
theorem a7H{fa:AF}(d:Z[i]?=some (.adr a))(e:eT β a=some b)(f:fa (vw β Z)=some (.ex c)):eI F i fa Z β=some (.ex c,β):=by unfold eI;rw[d];dsimp only;rw[e];rw[f]
theorem oK{cap:T0e}{fe:OEF}(h:fe (cJ cap Z) β=some (r,β'))(a:uP L F r=some d)(b:gH Z=true:=by rfl):a1l L F cap fe Z β=some (.ok d,β'):=by unfold a1l;rw[if_pos b,h];dsimp only;rw[a];rfl
theorem b9T{u:Bool}{fa:EF}(f:Z[i]?=some (.adr a))(g:eT β a=some b)(j:fa (vw β Z)=some (.ok d))(c:dI (b.ls u).length=true)(e:gH Z=true:=by rfl):b0t u i fa Z β=some (.nx Z,lA β a (b.setLs u (b.ls u++[d]))):=by unfold b0t;rw[f];dsimp only;rw[g];rw[j];show(if _ then _ else _)=_;rw[if_pos (by rw[c,e];rfl)]
theorem b9F(d:Z[i]?=some (.adr a))(e:eT β a=some b)(c:gH Z=true:=by rfl):b6J i Z β=some (.nx Z,lA β a {b with un:=[]}):=by unfold b6J;rw[d];dsimp only;rw[e];dsimp only;rw[if_pos c]
theorem b7O(j:Z[i]?=some (.adr a))(o:eT β a=some b)(e:fv (vw β Z)=some (.ok d))(g:fk (vw β Z)=some (.ok k))(p:oG k=some key)(c:dI b.sh.length=true)(f:gH Z=true:=by rfl):a7r i fk fv Z β=some (.nx Z,lA β a {b with sh:=rH b.sh key d}):=by unfold a7r;rw[j];dsimp only;rw[o];rw[e];rw[g];show(match oG k with|some k=>_|none=>_)=_;rw[p];dsimp only;rw[if_pos (by rw[c,f];rfl)]
theorem b4y(f:Z[i]?=some (.adr a))(g:eT β a=some b)(e:fk (vw β Z)=some (.ok k))(j:oG k=some key)(c:(dQ key (bD b)).isSome=true)(d:gH Z=true:=by rfl):a7u i fk Z β=some (.nx Z,lA β a {b with sh:=xM b.sh key}):=by unfold a7u;rw[f];dsimp only;rw[g];rw[e];show(match oG k with|some k=>_|none=>_)=_;rw[j];dsimp only;rw[if_pos (by rw[c,d];rfl)]
theorem a1V{m n:Nat}{f:SF}(a:O.length=n)(h:f (fT m (.ro none b::O.map .val))=some (.rt d)):a2F m n f b O=some (.ok d):=by unfold a2F;rw[if_pos a,h]
theorem b7G{m n:Nat}{f:SF}(a:O.length=n)(h:f (fT m (.ro none b::O.map .val))=some (.xc c Z)):a2F m n f b O=some (.ex c):=by unfold a2F;rw[if_pos a,h]
end
def bSh(b:BS)(x:Str):Option q8:=dQ (.inr x) (bD b)
def b4n(sh:List (Key×q8))(x:Str)(s:q8):List (Key×q8):=match s with|.none=>xM sh (.inr x)|s=>rH sh (.inr x) s
def behind(b:BS)(w:Str)(x:Str)(s:q8):BS:=⟨b4n b.sh x s,b.dn++[.tuple [.str w,.str x,(bSh b x).getD .none,s]],[]⟩
def tN(b:BS)(x:Str)(s:q8):Bool:=dI b.sh.length&&(match s with|.none=>(bSh b x).isSome|_=>true)
theorem c4r{s:q8}(h:tN b x s=true):pZ b [.str x,s]=some (.ok .none,{b with sh:=b4n b.sh x s}):=by
 unfold tN at h;rw[qE]at h;refine eS rfl λa=>?_;show oR a (a6t [.adr a,.val (.str x),.val s] [(a,b)])=_;have c:vw [(a,b)] [.adr a,.val (.str x),.val s]=[.ro (some a) b,.val (.str x),.val s]:=vwS rfl;unfold a6t;by_cases f:s=.none;·subst f;rw[c0s (eQ c (r:=.ok true) rfl),b4y (key:=.inr x) rfl bZ (by rw[c];rfl) rfl h.2,cO];show(if a=a then _ else _)=_;rw[if_pos rfl];rfl
 ·have e:b4n b.sh x s=rH b.sh (.inr x) s:=by cases s<;>first|rfl|exact absurd rfl f
  have t:a6U [.adr a,.val (.str x),.val s] [(a,b)]=some (.ok false,[(a,b)]):=eQ c (by cases s<;>first|rfl|exact absurd rfl f);rw[c0t t,b7O (key:=.inr x) (d:=s) rfl bZ (by rw[c];rfl) (by rw[c];rfl) rfl h.1,cO,e];show(if a=a then _ else _)=_;rw[if_pos rfl]
theorem a2P:oR a (some (.rt d,[(a,b)]))=some (.ok d,b):=if_pos rfl
theorem a9i:oR a (some (.xc c Z,[(a,b)]))=some (.ex c,b):=if_pos rfl
variable{w:Str}
theorem a6w{s:q8}(h:tN b x s=true)(e:dI b.dn.length=true):aX b [.str w,.str x,s]=some (.ok s,behind b w x s):=by refine eS rfl λa=>?_;show oR a (oE [.adr a,.val (.str w),.val (.str x),.val s] [(a,b)])=_;have c:∀b:BS,vw [(a,b)] [.adr a,.val (.str w),.val (.str x),.val s]=[.ro (some a) b,.val (.str w),.val (.str x),.val s]:=λb=>vwS rfl;unfold oE;rw[fB (b9T (u:=false) (d:=.tuple [.str w,.str x,(bSh b x).getD .none,s]) rfl bZ (by rw[c];rfl) e),cO];rw[fB (b9F rfl bZ),cO];show oR a (eO (yN (eI pZ 0 (aB (var 2) (aB (var 3) aH)))) (upS (retS (var 3))) [.adr a,.val (.str w),.val (.str x),.val s] [(a,⟨b.sh,b.dn++[.tuple [.str w,.str x,(bSh b x).getD .none,s]],[]⟩)])=_;have f:=c4r (b:=⟨b.sh,b.dn++[.tuple [.str w,.str x,(bSh b x).getD .none,s]],[]⟩) (x:=x) (s:=s) h;rw[fB (a3r (fF (a:=a) (O:=[.str x,s]) rfl bZ (by rw[c];rfl) f)),cO];rw[oZ (c _) (o:=.rt s) rfl];exact a2P
theorem a9X{s:q8}(c:cR [.str x]=some (.ok (.bool true)))(h:bSh b x=some s):aI b [.str x]=some (.ok s):=by
 refine a1V rfl ?_;show iB [.ro none b,.val (.str x)]=_;unfold iB;have a:dQ (.inr x) (bD b)=some s:=h;have t:nX [.ro none b,.val (.str x)]=some (.ok false):=by show orT _ _ _=_;unfold orT;rw[show lC (iS (bC cR (aB (var 1) aH))) [.ro none b,.val (.str x)]=some (.ok false)by unfold lC iS;rw[bR (O:=[.str x]) rfl c];rfl];show(some (Re.ok (!(dQ (.inr x) (bD b)).isSome)):Mm Bool)=_;rw[a];rfl
 rw[aO (ρ':=[.ro none b,.val (.str x)]) (by rw[tH,t];rfl),dJ];show bns (lft (dQ (.inr x) (bD b))) _ _=_;rw[a];rfl
theorem a7C(h:cR [n]=some (.ok (.bool false))\/∃x,n=.str x/\cR [.str x]=some (.ok (.bool true))/\bSh b x=none):aI b [n]=some (.ex "NoSheet"):=by
 refine b7G (Z:=[.ro none b,.val n]) rfl ?_;show iB [.ro none b,.val n]=_;have t:nX [.ro none b,.val n]=some (.ok true):=by
  show orT _ _ _=_;unfold orT;obtain h|⟨x,rfl,B,a⟩:=h;·rw[show lC (iS (bC cR (aB (var 1) aH))) [.ro none b,.val n]=some (.ok true)by unfold lC iS;rw[bR (O:=[n]) rfl h];rfl];rfl
  ·rw[show lC (iS (bC cR (aB (var 1) aH))) [.ro none b,.val (.str x)]=some (.ok false)by unfold lC iS;rw[bR (O:=[.str x]) rfl B];rfl];have a:dQ (.inr x) (bD b)=none:=a;show(some (Re.ok (!(dQ (.inr x) (bD b)).isSome)):Mm Bool)=_;rw[a];rfl
 exact a1T (by rw[tH,t];rfl)
def did(b:BS)(w x:Str)(r:Re q8):Re q8×BS:=match r with|.ok v=>(.ok v,behind b w x v)|.ex c=>(.ex c,b)
def a1H(b:BS)(x:Str)(r:Re q8):Bool:=dI b.dn.length&&(match r with|.ok v=>tN b x v|.ex _=>true)
variable{es:List Ent}
theorem yR(g:vw [(a,b)] es=es)(i:gH es=true)(f:fe (.ro (some a) b::.val (.str x)::es)=some r)(e:a1H b x r=true):oR a (xE (eI aX 0 (aB (cst (.str w)) (aB (var 1) (aB fe aH)))) (.adr a::.val (.str x)::es) [(a,b)])=some (did b w x r):=by unfold a1H at e;rw[qE]at e;have d:vw [(a,b)] (.adr a::.val (.str x)::es)=.ro (some a) b::.val (.str x)::es:=vwS (by show Ent.val (.str x)::vw _ es=_;rw[g]);cases r with|ok v=>rw[pN (fF (a:=a) (O:=[.str w,.str x,v]) rfl bZ (by rw[d,cI,b1D,dF,cI];show bnd (bnd (aB fe aH _) _) _=_;rw[cI,f];rfl) (a6w e.2 e.1) (show gH (.adr a::.val (.str x)::es)=true from i)),cO];exact a2P|ex c=>rw[b0E (a7H (a:=a) (c:=c) rfl bZ (by rw[d,cI,b1D,dF,cI];show bnd (bnd (aB fe aH _) _) _=_;rw[cI,f];rfl))];exact a9i
theorem yQ(e:vw [(a,b)] es=es)(f:fe (.ro (some a) b::.val n::es)=some (.ex c)):oR a (xE (eI aX 0 (aB (cst (.str w)) (aB (var 1) (aB fe aH)))) (.adr a::.val n::es) [(a,b)])=some (.ex c,b):=by have d:vw [(a,b)] (.adr a::.val n::es)=.ro (some a) b::.val n::es:=vwS (by show Ent.val n::vw _ es=_;rw[e]);rw[b0E (a7H (a:=a) (c:=c) rfl bZ (by rw[d,cI,b1D,dF,cI];show bnd (bnd (aB fe aH _) _) _=_;rw[cI,f];rfl))];exact a9i
section
variable{x y:Str}{n l t u s o:q8}
theorem c4w(hs:aI b [.str x]=some (.ok s))(d:gE [s,l,t,u]=some r)(c:a1H b x r=true):uJ b [.str x,l,t,u]=some (did b "add" x r):=eS rfl λa=>yR (es:=[.val l,.val t,.val u]) rfl rfl (eL (O:=[s,l,t,u]) (by rw[cI];show bnd (aI b [.str x]) _=_;rw[hs];rfl) d) c
theorem c1M(hs:aI b [n]=some (.ex c)):uJ b [n,l,t,u]=some (.ex c,b):=eS rfl λa=>yQ (es:=[.val l,.val t,.val u]) rfl (by show bnd (bnd (aI b [n]) _) _=_;rw[hs];rfl)
theorem c2C(hs:aI b [.str x]=some (.ok s))(d:dY [s,l]=some r)(c:a1H b x r=true):oY b [.str x,l]=some (did b "drop" x r):=eS rfl λa=>yR (es:=[.val l]) rfl rfl (eL (O:=[s,l]) (by rw[cI];show bnd (aI b [.str x]) _=_;rw[hs];rfl) d) c
theorem b8v(hs:aI b [n]=some (.ex c)):oY b [n,l]=some (.ex c,b):=eS rfl λa=>yQ (es:=[.val l]) rfl (by show bnd (bnd (aI b [n]) _) _=_;rw[hs];rfl)
theorem b9d(hs:aI b [.str x]=some (.ok s))(d:mS [s,l]=some r)(c:a1H b x r=true):lX b [.str x,l]=some (did b "shift" x r):=eS rfl λa=>yR (es:=[.val l]) rfl rfl (eL (O:=[s,l]) (by rw[cI];show bnd (aI b [.str x]) _=_;rw[hs];rfl) d) c
theorem b4Y(hs:aI b [n]=some (.ex c)):lX b [n,l]=some (.ex c,b):=eS rfl λa=>yQ (es:=[.val l]) rfl (by show bnd (bnd (aI b [n]) _) _=_;rw[hs];rfl)
theorem b9f(hs:aI b [.str x]=some (.ok s))(c:aI b [l]=some (.ok o))(e:uI [s,o]=some r)(d:a1H b x r=true):iK b [.str x,l]=some (did b "merge" x r):=eS rfl λa=>yR (es:=[.val l]) rfl rfl (eL (O:=[s,o]) (by rw[cI];show bnd (aI b [.str x]) _=_;rw[hs,dF];rw[cI];show bnd (bnd (aI b [l]) _) _=_;rw[c];rfl) e) d
theorem b4Z(hs:aI b [n]=some (.ex c)):iK b [n,l]=some (.ex c,b):=eS rfl λa=>yQ (es:=[.val l]) rfl (by show bnd (bnd (aI b [n]) _) _=_;rw[hs];rfl)
theorem b2w(hs:aI b [n]=some (.ok s))(d:aI b [l]=some (.ex c)):iK b [n,l]=some (.ex c,b):=eS rfl λa=>yQ (es:=[.val l]) rfl (by show bnd (bnd (aI b [n]) _) _=_;rw[hs,dF];show bnd (bnd (bnd (aI b [l]) _) _) _=_;rw[d];rfl)
theorem c4s(g:cR [.str x]=some (.ok (.bool true)))(hs:gJ [s]=some (.ok (.bool true)))(i:tN b x s=true)(f:dI b.dn.length=true):a0d b [.str x,s]=some (.ok (.bool (bSh b x).isSome),behind b "lay" x s):=by
 refine eS rfl λa=>?_;show oR a (a6u [.adr a,.val (.str x),.val s,.no] [(a,b)])=_;unfold a6u;have e:vw [(a,b)] [.adr a,.val (.str x),.val s,.no]=[.ro (some a) b,.val (.str x),.val s,.no]:=vwS rfl;have t:a6V [.ro (some a) b,.val (.str x),.val s,.no]=some (.ok false):=by show orT _ _ _=_;unfold orT;rw[show lC (iS (bC cR (aB (var 1) aH))) [.ro (some a) b,.val (.str x),.val s,.no]=some (.ok false)by unfold lC iS;rw[bR (O:=[.str x]) rfl g];rfl];unfold lC iS;rw[bR (O:=[s]) rfl hs];rfl
 rw[fB (oZ e (o:=.nx [.ro (some a) b,.val (.str x),.val s,.no]) (by rw[tH,t];rfl))];show oR a (eO _ _ [.adr a,.val (.str x),.val s,.no] _)=_;rw[fB (oZ e (o:=.nx [.ro (some a) b,.val (.str x),.val s,.val (.bool (bSh b x).isSome)]) rfl)];show oR a (eO _ _ [.adr a,.val (.str x),.val s,.val (.bool (bSh b x).isSome)] _)=_;have c:∀d:BS,vw [(a,d)] [.adr a,.val (.str x),.val s,.val (.bool (bSh b x).isSome)]=[.ro (some a) d,.val (.str x),.val s,.val (.bool (bSh b x).isSome)]:=λd=>vwS rfl;rw[fB (a3r (fF (a:=a) (O:=[.str "lay",.str x,s]) rfl bZ (by rw[c];rfl) (a6w i f))),cO,oZ (c _) (o:=.rt (.bool (bSh b x).isSome)) rfl];exact a2P
theorem c2B(hs:aI b [.str x]=some (.ok s))(g:tN b x .none=true)(e:dI b.dn.length=true):oW b [.str x]=some (.ok s,behind b "take" x .none):=by refine eS rfl λa=>?_;show oR a (tI [.adr a,.val (.str x),.no] [(a,b)])=_;unfold tI;have f:vw [(a,b)] [.adr a,.val (.str x),.no]=[.ro (some a) b,.val (.str x),.no]:=vwS rfl;rw[fB (oZ f (o:=.nx [.ro (some a) b,.val (.str x),.val s]) (by rw[iH];show bns (aI b [.str x]) _ _=_;rw[hs];rfl))];show oR a (eO _ _ [.adr a,.val (.str x),.val s] _)=_;have c:∀d:BS,vw [(a,d)] [.adr a,.val (.str x),.val s]=[.ro (some a) d,.val (.str x),.val s]:=λd=>vwS rfl;rw[fB (a3r (fF (a:=a) (O:=[.str "take",.str x,.none]) rfl bZ (by rw[c];rfl) (a6w g e))),cO,oZ (c _) (o:=.rt s) rfl];exact a2P
theorem b8u(hs:aI b [n]=some (.ex c)):oW b [n]=some (.ex c,b):=by refine eS rfl λa=>?_;show oR a (tI [.adr a,.val n,.no] [(a,b)])=_;unfold tI;have d:vw [(a,b)] [.adr a,.val n,.no]=[.ro (some a) b,.val n,.no]:=vwS rfl;rw[b7A (oZ d (o:=.xc c [.ro (some a) b,.val n,.no]) (by rw[iH];show bns (aI b [n]) _ _=_;rw[hs];rfl))];exact a9i
theorem a9Y(h:a6N (bD b)=some ns)(a:ns.length<64):gQ b []=some (.ok (.list ((gW ns).map .str))):=by refine a1V rfl ?_;unfold a0V;rw[dJ];show bns (lft (a1p [.dict (bD b)])) _ _=_;unfold a1p;dsimp only;rw[h];dsimp only;rw[if_pos a];rfl
theorem b9h:oX b []=some (.ok (.tuple [.int (b.dn.length:Nat),.int (b.un.length:Nat)])):=a1V rfl rfl
end
structure Gs(s:List Mt):Prop where
 nr:NR s
 ok:∀m∈s,jJ m.1=true
 tm:∀m∈s,tmB m.2.1 m.2.2=true
 few:s.length<=16
variable{s:List Mt}
theorem SheetOk.gs(S:SheetOk s):Gs s:=⟨⟨S.nodup,S.pw⟩,S.name_ok,λm a=>a1P.mpr (by have:=S.times m a;lia),by have:=S.few;exact Q2 ‹_› rfl⟩
abbrev Ou:=Str ⊕ List Mt
def reO:Ou->Re q8|.inl c=>.ex c|.inr s=>.ok (dS s)
def a0c(s:List Mt)(l:Str)(t u:Int):Ou:=if l∈s.map (·.1)then .inl "Taken"else if tmB t u=true then(if s.length<16 then .inr (a0D (s++[(l,t,u)]))else .inl "TooMany")else .inl "NoTime"
noncomputable def nO(s:List Mt)(l:Str):Ou:=if l∈s.map (·.1)then .inr (s.filter λm=>!decide (m.1=l))else .inl "NoMeeting"
noncomputable def sh(c:Int)(m:Mt):Mt:=(m.1,m.2.1+c,m.2.2+c)
def gX(s:List Mt)(c:Int):Ou:=if(s.all λm=>tmB (sh c m).2.1 (sh c m).2.2)=true then .inr (s.map (sh c))else .inl "NoTime"
def iA(s o:List Mt):Ou:=if bM s o=[]then(if(dZ s o).length<=16 then .inr (a0D (dZ s o))else .inl "TooMany")else .inl "Taken"
variable{t:Int}
theorem a3m{l:Str}{u:Int}(nd:(s.map (·.1)).Nodup)(h:l∉s.map (·.1)):((s++[(l,t,u)]).map (·.1)).Nodup:=by rw[jC,jL];exact⟨nd,by simp,λa d b c e=>by
  subst e;have:a=l:=by simpa using c
  subst this;exact h d⟩
theorem ifT{t:TF}{g h:SF}(a:t Z=some (.ok true))(b:f Z=some (.xc c ρ')):aY (ifS t f g) h Z=some (.xc c ρ'):=a1T (by rwa[tH,a1g a])
theorem c2F(S:Gs s) l t u:gE [dS s,.str l,.int t,.int u]=some (reO (a0c s l t u)):=by
 have g:=S.few;have a:oM [.val (dS s),.val (.str l),.val (.int t),.val (.int u)]=some (.ok (decide (l∈s.map (·.1)))):=cH (x:=.str l) (y:=.list ((s.map (·.1)).map .str)) rfl (bR (O:=[dS s]) rfl (yO s (by exact Q2 ‹_› rfl))) (yK _ _);unfold a0c;by_cases B:l∈s.map (·.1);·rw[if_pos B];rw[decide_eq_true B]at a;refine lM (Z:=[.val (dS s),.val (.str l),.val (.int t),.val (.int u)]) rfl ?_;exact ifT a rfl
 rw[if_neg B];rw[decide_eq_false B]at a;by_cases c:tmB t u=true
 ·rw[if_pos c];have d:cK [.val (dS s),.val (.str l),.val (.int t),.val (.int u)]=(aY (ifS iG (gG "TooMany") dG) (retS (cQ mV (aB (cQ a3M (aB (op2 cF (var 0) (eB (aB (eB (aB (var 1) (aB (var 2) (aB (var 3) aH)))) aH))) aH)) aH)))) [.val (dS s),.val (.str l),.val (.int t),.val (.int u)]:=by unfold cK;rw[ifF a,aO (ρ':=[.val (dS s),.val (.str l),.val (.int t),.val (.int u)]) (by show bns (gP aS (aB (var 2) (aB (var 3) aH)) _) _ _=_;rw[eL (O:=[.int t,.int u]) rfl (b6i c)];rfl)]
  have b:iG [.val (dS s),.val (.str l),.val (.int t),.val (.int u)]=some (.ok (decide ((16:Int)<=(s.length:Nat)))):=cH (x:=.int (s.length:Nat)) (y:=.int 16) (eY (O:=[dS s]) rfl (by simp)) rfl (c4o ..);by_cases e:s.length<16
  ·rw[if_pos e];rw[decide_eq_false (by lia)]at b;refine uB rfl ?_;show cK [.val (dS s),.val (.str l),.val (.int t),.val (.int u)]=_;rw[d,ifF b];have nd:=a3m (t:=t) (u:=u) S.nr.nd B;have i:op2 cF (var 0) (eB (aB (eB (aB (var 1) (aB (var 2) (aB (var 3) aH)))) aH)) [.val (dS s),.val (.str l),.val (.int t),.val (.int u)]=some (.ok (.tuple ((s++[(l,t,u)]).map dM))):=by
    have f:s.length+1<=100000:=by exact Q2 ‹_› rfl
    simp[f]
   rw[dJ,a3z,cI,a3z,cI,i];simp only[dF,a3C,wZ (a8Q (s++[(l,t,u)])) (by rw[qD,qe];simp only[qZ,kP];exact Q0 ‹_› rfl),a7M,xZ nd,a1k,a5j]
  ·rw[if_neg e];rw[decide_eq_true (by lia)]at b;refine lM (Z:=[.val (dS s),.val (.str l),.val (.int t),.val (.int u)]) rfl ?_;show cK [.val (dS s),.val (.str l),.val (.int t),.val (.int u)]=_;rw[d];exact ifT b rfl
 ·rw[if_neg c];refine lM (Z:=[.val (dS s),.val (.str l),.val (.int t),.val (.int u)]) rfl ?_;show cK [.val (dS s),.val (.str l),.val (.int t),.val (.int u)]=_;unfold cK;rw[ifF a];refine a1T ?_;show bns (gP aS (aB (var 2) (aB (var 3) aH)) _) _ _=_;rw[eL (O:=[.int t,.int u]) rfl (b0V (by simpa using c))];rfl
theorem b9i(S:Gs s) l:dY [dS s,.str l]=some (reO (nO s l)):=by
 have b:=S.few;unfold nO;by_cases h:l∈s.map (·.1);·rw[if_pos h];obtain⟨m,a,rfl⟩:=qK.mp h;exact a9W S.nr.nd a (by exact Q0 ‹_› rfl)
 ·rw[if_neg h];refine lM (Z:=[.val (dS s),.val (.str l),.no]) rfl ?_;refine a1T ?_;rw[iH,eL (O:=[dS s,.str l]) rfl (b5a λm a e=>h (qK.mpr ⟨m,a,e⟩))];rfl
theorem b3e x b e:oJ [.str x,.int b,.int e]=some (if tmB b e=true then .ok (dM (x,b,e))else .ex "NoTime"):=by
 by_cases h:tmB b e=true;·rw[if_pos h];refine uB rfl ?_;show aY (a3q (gP aS (aB (var 1) (aB (var 2) aH)))) _ [.val (.str x),.val (.int b),.val (.int e)]=_;rw[aO (ρ':=[.val (.str x),.val (.int b),.val (.int e)]) (by show bns (gP aS (aB (var 1) (aB (var 2) aH)) _) _ _=_;rw[eL (O:=[.int b,.int e]) rfl (b6i h)];rfl)];rfl
 ·rw[if_neg h];refine lM (Z:=[.val (.str x),.val (.int b),.val (.int e)]) rfl ?_;show aY (a3q (gP aS (aB (var 1) (aB (var 2) aH)))) _ [.val (.str x),.val (.int b),.val (.int e)]=_;unfold aY;have a:a3q (gP aS (aB (var 1) (aB (var 2) aH))) [.val (.str x),.val (.int b),.val (.int e)]=some (.xc "NoTime" [.val (.str x),.val (.int b),.val (.int e)]):=by show bns (gP aS (aB (var 1) (aB (var 2) aH)) _) _ _=_;rw[eL (O:=[.int b,.int e]) rfl (b0V (by simpa using h))];rfl
  rw[a]
theorem a7I{t:Tg}{ρb:List Ent}{fe:EF}(ρx:Mt->List Ent) f(c:∀m,tgD t ρb (dM m)=some (ρx m))(d:∀m,fe (ρx m)=some (if tmB (f m).2.1 (f m).2.2=true then .ok (dM (f m))else .ex "NoTime")):∀s:List Mt,uR t ρb ttT fe (s.map dM)=some (if(s.all λm=>tmB (f m).2.1 (f m).2.2)=true then .ok ((s.map f).map dM)else .ex "NoTime")
 |[]=>rfl|m::s=>by
  rw[qI,uR,c];show bnd (fe (ρx m)) _=_;rw[d,a7I ρx f c d s,ja];by_cases B:tmB (f m).2.1 (f m).2.2=true
  ·rw[if_pos B,dF,B,Bool.true_and];by_cases a:(s.all λm=>tmB (f m).2.1 (f m).2.2)=true;·rw[if_pos a,if_pos a];rfl
   ·rw[if_neg a,if_neg a];rfl
  ·have b:tmB (f m).2.1 (f m).2.2=false:=by simpa using B
   rw[if_neg B,b,Bool.false_and];rfl
theorem b3c s c(a:s.length<=1000):mS [dS s,.int c]=some (if(s.all λm=>tmB (sh c m).2.1 (sh c m).2.2)=true then .ok (dS (s.map (sh c)))else .ex "NoTime"):=by
 refine b7E (fa:=cQ mV (aB nJ aH)) (Z:=[.val (dS s),.val (.int c)]) rfl rfl ?_;have k:nJ [.val (dS s),.val (.int c)]=some (if(s.all λm=>tmB (sh c m).2.1 (sh c m).2.2)=true then .ok (.list ((s.map (sh c)).map dM))else .ex "NoTime"):=by
  show bnd (some (.ok (s.map dM))) _=_;rw[dF,if_pos (show dI (s.map dM).length=true by rw[qD];exact decide_eq_true (by exact Q2 ‹_› rfl))];rw[a7I (λm=>[.val (.str m.1),.val (.int m.2.1),.val (.int m.2.2),.val (.int c)]) (sh c) (λm=>rfl) (λm=>eL (O:=[.str m.1,.int (m.2.1+c),.int (m.2.2+c)]) (aN rfl (aN (eL (O:=[.int m.2.1,.int c]) rfl (a8c _ _)) (aN (eL (O:=[.int m.2.2,.int c]) rfl (a8c _ _)) rfl))) (b3e m.1 (m.2.1+c) (m.2.2+c))) s];by_cases h:(s.all λm=>tmB (sh c m).2.1 (sh c m).2.2)=true;·rw[if_pos h,if_pos h];rfl
  ·rw[if_neg h,if_neg h];rfl
 show bnd (bnd (nJ _) _) _=_;rw[k];by_cases h:(s.all λm=>tmB (sh c m).2.1 (sh c m).2.2)=true;·rw[if_pos h,if_pos h];rfl
 ·rw[if_neg h,if_neg h];rfl
theorem b6h(S:Gs s) c:mS [dS s,.int c]=some (reO (gX s c)):=by have a:=S.few;rw[b3c s c (by exact Q2 ‹_› rfl)];unfold gX;split<;>rfl
theorem a7D(B:jJ m.1=true)(c:∀x∈l,jJ x.1=true):a5X (dM m) (dS l)=some (!decide (m∈l)):=by
 show(a4X (dM m) (l.map dM)).map _=_;unfold a4X;rw[if_pos (by rw[qE,qp];exact⟨a4y B,λd b=>by obtain⟨x,a,rfl⟩:=qK.mp b;exact a4y (c x a)⟩)];have:((l.map dM).any λd=>qv d (dM m))=decide (m∈l):=by
  rw[List.any_map,jz,vP,decide_eq_true_eq];constructor;·rintro⟨x,a,e⟩;have e:qv (dM x) (dM m)=true:=e;rw[a9T,decide_eq_true_eq]at e;rwa[<-e]
  ·exactλh=>⟨m,h,by show qv (dM m) (dM m)=true;rw[a9T];simp⟩
 rw[this];rfl
theorem b5b x(ns:T0q):a5X (.str x) (.list (ns.map .str))=some (!decide (x∈ns)):=by unfold a5X;rw[yK];rfl
structure RwOk(s:List Mt):Prop where
 nr:NR s
 ok:∀m∈s,jJ m.1=true
 few:s.length<=40
theorem Gs.rw(S:Gs s):RwOk s:=⟨S.nr,S.ok,by have:=S.few;exact Q2 ‹_› rfl⟩
variable{o:List Mt}
theorem b1q(hs:RwOk s)(a:RwOk o):iQ [dS s,dS o]=some (.ok (.list ((uH s o).map .str))):=by
 have c:=hs.few;have b:=a.few;refine eE rfl ?_;show retS mK [.val (dS s),.val (dS o)]=_;have k:mK [.val (dS s),.val (dS o)]=some (.ok (.list ((uH s o).map .str))):=gN qw (λx=>[.val (.str x),.val (dS o)]) (λx=>!decide (x∈o.map (·.1))) qw (s.map (·.1)) (yC (bR (O:=[dS s]) rfl (yO s (by omega))) rfl) (by rw[qD];omega) (λx _=>rfl)
   (λx _=>cH (x:=.str x) (y:=.list ((o.map (·.1)).map .str)) rfl (bR (O:=[dS o]) rfl (yO o (by exact Q2 ‹_› rfl))) (b5b x _)) (λx _ _=>rfl);rw[dJ,k];rfl
theorem b6g(hs:RwOk s)(a:RwOk o):iE [dS s,dS o]=some (.ok (.tuple [.list ((uH s o).map .str),.list ((uH o s).map .str),.list ((bM s o).map .str)])):=by
 have e:=hs.few;have d:=a.few;refine eE rfl ?_;show mM [.val (dS s),.val (dS o),.no]=_;unfold mM;have k:rM [.val (dS s),.val (dS o),.no]=some (.ok (.list ((bM s o).map .str))):=by
  unfold bM;rw[qc];have b:=gN (t:=.nm 0) (cap:=[none,some 1]) (fi:=mW (var 0)) (ft:=b0u (bJ a5X (var 0) (var 1)) (bJ inX (op2 ixD (var 0) (cst (.int 0))) (bC fJ (aB (var 1) aH)))) (fe:=op2 ixD (var 0) (cst (.int 0))) (Z:=[.val (dS s),.val (dS o),.no]) dM (λm=>[.val (dM m),.val (dS o)]) (λr=>!decide (r∈o)&&decide (r.1∈o.map (·.1))) (λm=>.str m.1) s rfl (by exact Q2 ‹_› rfl) (λm _=>rfl) (λm c=>?_) (λm _ _=>rfl);·exact b
  rw[b6X,cH (x:=dM m) (y:=dS o) rfl rfl (a7D (hs.ok m c) a.ok),dF];rw[cH (x:=.str m.1) (y:=.list ((o.map (·.1)).map .str)) rfl (bR (O:=[dS o]) rfl (yO o (by exact Q2 ‹_› rfl))) (yK m.1 _)];exact b8M _ _
 rw[aO (ρ':=[.val (dS s),.val (dS o),.val (.list ((bM s o).map .str))]) (by rw[iH,k];rfl)];rw[dJ,iZ,aN (bR (O:=[dS s,dS o]) rfl (b1q hs a)) (aN (bR (O:=[dS o,dS s]) rfl (b1q a hs)) rfl)];rfl
theorem b6j(hs:RwOk s)(i:RwOk o):uI [dS s,dS o]=some (reO (iA s o)):=by
 have z:=hs.few;have w:=i.few;have f:a2n [.val (dS s),.val (dS o),.no]=some (.ok (!(bM s o).isEmpty)):=by show iS (op2 ixD (bC iE (aB (var 0) (aB (var 1) aH))) (cst (.int 2))) _=_;rw[b3N,dL (x:=.tuple [.list ((uH s o).map .str),.list ((uH o s).map .str),.list ((bM s o).map .str)]) (y:=.int 2) (bR (O:=[dS s,dS o]) rfl (b6g hs i)) rfl rfl,dF];cases bM s o<;>rfl
 unfold iA;by_cases b:bM s o=[]
 ·rw[if_pos b];rw[b]at f;have k:a3e [.val (dS s),.val (dS o),.no]=some (.ok (.list ((o.filter λr=>!decide (r∈s)).map dM))):=gN dM (λm=>[.val (dM m),.val (dS s)]) (λr=>!decide (r∈s)) dM o rfl (by exact Q2 ‹_› rfl) (λm _=>rfl) (λm q=>cH (x:=dM m) (y:=dS s) rfl rfl (a7D (i.ok m q) hs.ok)) (λm _ _=>rfl);have v:(dZ s o).length<=80:=by unfold dZ;rw[qe];have:=jN (λr=>!decide (r∈s)) o;lia
  have a:cF (dS s) (dS (o.filter λr=>!decide (r∈s)))=some (dS (dZ s o)):=by unfold dZ;rw[b7a,if_pos (by rw[qD,qD];have:=jN (λr=>!decide (r∈s)) o;lia),<-jC]
  have j:lU [.val (dS s),.val (dS o),.no]=(aY (ifS wY (gG "TooMany") dG) (retS (cQ mV (aB (cQ a3M (aB (var 2) aH)) aH)))) [.val (dS s),.val (dS o),.val (dS (dZ s o))]:=by unfold lU;rw[ifF f,aO (ρ':=[.val (dS s),.val (dS o),.val (dS (dZ s o))]) (by rw[iH,dL (x:=dS s) (y:=dS (o.filter λr=>!decide (r∈s))) rfl (eY (O:=[.list ((o.filter λr=>!decide (r∈s)).map dM)]) (aN k rfl) (a1k _)) a];rfl)]
  have e:wY [.val (dS s),.val (dS o),.val (dS (dZ s o))]=some (.ok (decide ((16:Int)<((dZ s o).length:Nat)))):=cH (x:=.int ((dZ s o).length:Nat)) (y:=.int 16) (eY (O:=[dS (dZ s o)]) rfl (by simp)) rfl (c4j ..);by_cases c:(dZ s o).length<=16;·rw[if_pos c];rw[decide_eq_false (by lia)]at e;refine uB rfl ?_;show lU [.val (dS s),.val (dS o),.no]=_;rw[j,ifF e];have nd:=a8H hs.nr i.nr b;have p:a3M [.tuple ((dZ s o).map dM)]=some (.list (iT ((dZ s o).map dM))):=wZ (k:=false) (g:=[true,true]) (λd t=>by obtain⟨m,_,rfl⟩:=qK.mp t;rfl) (by rw[qD];exact Q0 ‹_› rfl);rw[dJ,eY (O:=[.list ((a0D (dZ s o)).map dM)]) (aN (eY (O:=[dS (dZ s o)]) rfl (by rw[p,xZ nd])) rfl) (a1k _)];rfl
  ·rw[if_neg c];rw[decide_eq_true (by lia)]at e;refine lM (Z:=[.val (dS s),.val (dS o),.val (dS (dZ s o))]) rfl ?_;show lU [.val (dS s),.val (dS o),.no]=_;rw[j];exact ifT e rfl
 ·rw[if_neg b];have u:(!(bM s o).isEmpty)=true:=by cases h:bM s o with|nil=>exact absurd h b|cons _ _=>rfl
  rw[u]at f;refine lM (Z:=[.val (dS s),.val (dS o),.no]) rfl ?_;exact ifT f rfl
variable{u:List Mt}
theorem b4Q(nd:(u.map (·.1)).Nodup)(h:∀m∈u,jJ m.1=true/\tmB m.2.1 m.2.2=true)(b:u.length<=16):Gs (a0D u):=⟨a9j nd,λm a=>(h m ((a6f nd m).mp a)).1,λm a=>(h m ((a6f nd m).mp a)).2,by rwa[(a7z nd).length_eq]⟩
variable{s':List Mt}
theorem b1I{u:Int}(S:Gs s)(b:jJ l=true)(h:a0c s l t u=.inr s'):Gs s':=by
 unfold a0c at h;split at h;·cases h
 ·rename_i B;split at h
  ·rename_i c;split at h
   ·rename_i d;cases h;refine b4Q (a3m S.nr.nd B) (λm a=>?_) (by rw[qe];simp only[qZ,kP];assumption);obtain a|a:=qX.mp a;·exact⟨S.ok m a,S.tm m a⟩
    ·obtain rfl:m=(l,t,u):=by simpa using a
     exact⟨b,c⟩
   ·cases h
  ·cases h
theorem a8f(S:Gs s)(h:nO s l=.inr s'):Gs s':=by
 unfold nO at h;split at h;·cases h;exact⟨S.nr.filter _,λm a=>S.ok m (qy.mp a).1,λm a=>S.tm m (qy.mp a).1,qg (jN _ _) S.few⟩
 ·cases h
theorem a4v{c:Int}(S:Gs s)(h:gX s c=.inr s'):Gs s':=by
 unfold gX at h;split at h
 ·rename_i e;cases h;have d:(s.map (sh c)).map (·.1)=s.map (·.1):=by rw[qc];rfl
  refine⟨⟨by rw[d];exact S.nr.nd,by rw[d];exact S.nr.pw⟩,λm b=>?_,λm b=>?_,by rw[qD];exact S.few⟩;·obtain⟨x,a,rfl⟩:=qK.mp b;exact S.ok x a
  ·obtain⟨x,a,rfl⟩:=qK.mp b;exact qp.mp e x a
 ·cases h
theorem a4O(S:Gs s)(b:Gs o)(h:iA s o=.inr s'):Gs s':=by
 unfold iA at h;split at h
 ·rename_i B;split at h
  ·rename_i c;cases h;refine b4Q (a8H S.nr b.nr B) (λm a=>?_) c;obtain a|a:=a6d.mp a;·exact⟨S.ok m a,S.tm m a⟩
   ·exact⟨b.ok m a,b.tm m a⟩
  ·cases h
 ·cases h
abbrev enR(u:List Mt):List (Key×q8):=u.map λr=>((.inr r.1:Key),dM r)
abbrev xO(u:List Mt):q8:=a2U (enR u)
abbrev prR(r:Mt):q8:=.tuple [.str r.1,dM r]
theorem b0P:∀u:List Mt,iD rJ (u.map prR)=some (enR u)|[]=>rfl|r::u=>by rw[qI];unfold iD;rw[show rJ (prR r)=some ((.inr r.1:Key),dM r)from rfl,b0P u];rfl
theorem c2d(u:List Mt):(enR u).map (·.1)=(u.map (·.1)).map zB:=by rw[qc,qc];rfl
theorem c5y(nd:(u.map (·.1)).Nodup):((enR u).map (·.1)).Nodup:=by rw[c2d,zK,jK];exact List.Pairwise.imp (λ{a b}n z=>n (zI z)) nd
theorem c2L(nd:(u.map (·.1)).Nodup)(a:u.length<=1000):yP [.list (u.map prR)]=some (xO u):=a8g (b0P u) (c5y nd) (by rwa[qD])
theorem a9D x:∀u:List Mt,dQ (.inr x) ((enR u).map λp=>(cD p.1,p.2))=if x∈u.map (·.1)then some (dM (rowAt u x))else none
 |[]=>rfl|r::u=>by
  show(if(some (zB r.1):Option Key)=some (zB x)then some (dM r)else dQ (.inr x) ((enR u).map λp=>(cD p.1,p.2)))=_;by_cases c:r.1=x;·rw[if_pos (by rw[c]),if_pos (by rw[<-c];simp)];unfold rowAt;rw[vR (by simpa using c)];rfl
  ·rw[if_neg (λz=>c (zI (qA z))),a9D x u];unfold rowAt;rw[vS (by simpa using c)];have:x∈(r::u).map (·.1)↔x∈u.map (·.1):=by rw[qI,qM];exact⟨λz=>z.elim (λw=>absurd w.symm c) id,.inr⟩
   by_cases d:x∈u.map (·.1);·rw[if_pos d,if_pos (this.mpr d)]
   ·rw[if_neg d,if_neg (λz=>d (this.mp z))]
theorem c4l{x:Str}(h:x∈u.map (·.1)):uM (xO u) (.str x)=some (dM (rowAt u x)):=by show dQ (.inr x) ((enR u).map λp=>(cD p.1,p.2))=_;rw[a9D,if_pos h]
theorem c5Q(u:List Mt) x:a3j (.str x) (xO u)=some (decide (x∈u.map (·.1))):=by
 show some (dQ (.inr x) ((enR u).map λp=>(cD p.1,p.2))).isSome=_;rw[a9D];by_cases h:x∈u.map (·.1);·rw[if_pos h,decide_eq_true h];rfl
 ·rw[if_neg h,decide_eq_false h];rfl
end L2.L3
variable{ou:L2.L3.Ou}
namespace L2.TB
open PySem PySem.SetTable L2.SX
theorem a9p:∀{l m:T0t},l.Nodup->(∀x∈l,x∈m)->l.length<=m.length|[],m,_,_=>qx _|a::l,m,nd,h=>by rw[jy]at nd;have:=a9p (m:=m.erase a) nd.2 λx b=>(List.mem_erase_of_ne (λz:x=a=>nd.1 (by rwa[<-z]))).mpr (h x (qF _ b));have c:=List.length_erase_of_mem (h a (by simp));have:=List.length_pos_of_mem (h a (by simp));rw[qZ];lia
def run(mask:Nat)(h:Int):Nat->Nat×Nat|0=>(bits h%(mask+1),bits h)|k+1=>leap mask (run mask h k).1 (run mask h k).2
variable{r:Nat}{t:j6}
section
variable{mask:Nat}{h:Int}
theorem b4i k:(run mask h k).1<=mask:=by
 have:(run mask h k).1<mask+1:=by cases k with|zero=>exact Nat.mod_lt _ (Nat.succ_pos _)|succ k=>exact Nat.mod_lt _ (Nat.succ_pos _)
 lia
theorem a7l:∀k,(run mask h k).2=bits h/32^k|0=>by show bits h=_;simp|k+1=>by show(run mask h k).2/32=_;rw[a7l k,Nat.div_div_eq_div_mul,Nat.pow_succ]
theorem b9Q:bits h<2^64:=by unfold bits;have B:=ve h (show(2^64:Int)≠0 by decide);have a:=zx h (show(0:Int)<2^64 by decide);lia
theorem b4g(a:13<=k):(run mask h k).2=0:=by
 rw[a7l];refine Nat.div_eq_of_lt (qU b9Q ?_);have:(2:Nat)^64<=32^13:=by decide
 exact qg this (Nat.pow_le_pow_right (by decide) a)
noncomputable def nxt(mask i:Nat):Nat:=(i*5+1)%(mask+1)
def itr(mask:Nat):Nat->Nat->Nat|0,i=>i|k+1,i=>itr mask k (nxt mask i)
theorem a2a a b i:itr mask (a+b) i=itr mask b (itr mask a i):=by induction a generalizing i with|zero=>rw[Nat.zero_add];rfl|succ a c=>rw[Nat.add_right_comm];exact c (nxt mask i)
theorem b7D k:(run mask h (13+k)).1=itr mask k (run mask h 13).1:=by induction k with|zero=>rfl|succ k a=>show(leap mask (run mask h (13+k)).1 (run mask h (13+k)).2).1=_;rw[b4g (show 13<=13+k by lia),a,a2a k 1];show((itr mask k (run mask h 13).1)*5+1+0/32)%(mask+1)=nxt mask (itr mask k (run mask h 13).1);simp[nxt]
def tT(mask:Nat):Prop:=(∀j<mask+1,∃k<mask+1,itr mask k 0=j)/\itr mask (mask+1) 0=0
theorem tT.cov(F:tT mask)(g:i<=mask)(f:j<=mask):∃k≤mask,itr mask k i=j:=by
 obtain⟨a,p,e⟩:=F.1 i (by lia);obtain⟨b,o,d⟩:=F.1 j (by lia);obtain z|z:=Nat.le_total a b;·refine⟨b-a,by lia,?_⟩;rw[<-e,<-a2a,show a+(b-a)=b by lia,d]
 ·by_cases c:a=b;·refine⟨0,by lia,?_⟩;show i=j;rw[<-e,<-d,c]
  ·refine⟨mask+1-a+b,by lia,?_⟩;rw[<-e,<-a2a,show a+(mask+1-a+b)=(mask+1)+b by lia,a2a,F.2,d]
theorem c0v:tT 7:=by unfold tT;decide+kernel
theorem c2t:tT 31:=by unfold tT;decide+kernel
theorem b8S:tT 127:=by unfold tT;decide+kernel
theorem tT.run(F:tT mask){j:Nat}(a:j<=mask):∃k≤mask+13,(run mask h k).1=j:=by obtain⟨k,b,e⟩:=F.cov (b4i (h:=h) 13) a;exact⟨13+k,by lia,by rw[b7D,e]⟩
def more(mask:Nat)(h:Int)(k:Nat):Nat:=runEnd mask (run mask h k).1-(run mask h k).1
def plc(mask:Nat)(h:Int)(k r:Nat):Nat:=(run mask h k).1+r
theorem more_le k:more mask h k<=9:=by unfold more runEnd;split<;>lia
theorem a5O(a:r<=more mask h k):plc mask h k r<=mask:=by have:=b4i (mask:=mask) (h:=h) k;unfold more runEnd at a;unfold plc;split at a<;>lia
structure First(mask:Nat)(occ:Nat->Prop)(h:Int)(K R:Nat):Prop where
 le:R<=more mask h K
 free:¬occ (plc mask h K R)runs:∀k<K,∀r≤more mask h k,occ (plc mask h k r)here:∀r<R,occ (plc mask h K r)
theorem First.ex(F:tT mask){occ:Nat->Prop}(C:∃j≤mask,¬occ j):∃K R,First mask occ h K R/\K<=mask+13:=by
 obtain⟨j,A,p⟩:=C;obtain⟨d,w,s⟩:=F.run (h:=h) A;have ex:∃K,∃r≤more mask h K,¬occ (plc mask h K r):=⟨d,0,qx _,by unfold plc;rwa[s]⟩;have a:∀(P:Nat->Prop),(∃n,P n)->∃n,P n/\∀m<n,¬P m:=by rintro P⟨n,p⟩;induction n using Nat.strongRecOn with|ind n u=>
   by_cases c:∃m<n,P m;·obtain⟨m,o,b⟩:=c;exact u m o b
   ·exact⟨n,p,λm o b=>c ⟨m,o,b⟩⟩
 obtain⟨K,⟨t,e,i⟩,q⟩:=a _ ex;obtain⟨R,⟨D,g⟩,v⟩:=a (λr=>r<=more mask h K/\¬occ (plc mask h K r)) ⟨t,e,i⟩;refine⟨K,R,⟨D,g,λk y r f=>jZ λz=>q k y ⟨r,f,z⟩,λr f=>jZ λz=>v r f ⟨by lia,z⟩⟩,?_⟩;obtain z|z:=vZ d K;·exact absurd ⟨0,qx _,by unfold plc;rwa[s]⟩ (q d z)
 ·lia
def Reach(mask:Nat)(occ:Nat->Prop)(h:Int)(j:Nat):Prop:=∃k r,r<=more mask h k/\plc mask h k r=j/\(∀k'<k,∀r'≤more mask h k',occ (plc mask h k' r'))/\∀r'<r,occ (plc mask h k r')
theorem Reach.mono(c:∀i,occ i->occ' i):Reach mask occ h j->Reach mask occ' h j:=(by rintro ⟨k,r,B,o,g,f⟩;exact⟨k,r,B,o,λd e a b=>c _ (g d e a b),λa b=>c _ (f a b)⟩)
theorem First.reach(a:First mask occ h K R):Reach mask occ h (plc mask h K R):=⟨K,R,a.le,rfl,a.runs,a.here⟩
def prb(mask:Nat)(h:Int)(k r:Nat):Probe:={j:=plc mask h k r,more:=more mask h k-r,i:=(run mask h k).1,perturb:=(run mask h k).2,dummy:=none}
theorem b2r(t:j6) h:t.probeStart h=prb t.mask h 0 0:=rfl
theorem b0K(a:r<more t.mask h k):t.advance (prb t.mask h k r)=prb t.mask h k (r+1):=by unfold advance;rw[if_pos (by show more t.mask h k-r>0;lia)];unfold prb plc;simp only[Probe.mk.injEq,and_true,true_and];lia
theorem a7t:t.advance (prb t.mask h k (more t.mask h k))=prb t.mask h (k+1) 0:=by unfold advance;rw[if_neg (by show¬more t.mask h k-more t.mask h k>0;lia)];rfl
end
structure Plain(t:j6):Prop where
 rise:rY t.place
 nodum:t.dummies=#[]low:∀j∈t.place.toList,j<=t.mask
 few:t.place.size<=t.mask
 full:tT t.mask
def occ(t:j6)(j:Nat):Prop:=j∈t.place.toList
theorem Plain.live(p:Plain t){i j:Nat}(h:t.place[i]?=some j):t.slot j=.live i:=by
 obtain⟨a,e⟩:=jf.mp h;obtain⟨f,c,b⟩:=tP p.rise j;have:below t.place j=i:=by
  obtain z|z|z:=Nat.lt_trichotomy (below t.place j) i
  ·have lt:below t.place j<t.place.size:=by lia
   have d:=b _ lt (qQ _);have:=p.rise.lt z a;lia
  ·exact z
  ·have:=c i a z;lia
 unfold slot;rw[this];rw[if_pos (by rw[h];exact beq_self_eq_true _)]
theorem Plain.empty(p:Plain t){j:Nat}(h:¬occ t j):t.slot j=.empty:=by
 unfold slot;rw[if_neg,if_neg];·unfold has;rw[p.nodum];simp
 ·intro z;rw[beq_iff_eq]at z;obtain⟨a,e⟩:=jf.mp z;refine h ?_;rw[<-e];exact vI _
theorem Plain.occ_live(p:Plain t)(h:occ t j):∃i,t.place[i]?=some j/\t.slot j=.live i:=by
 obtain⟨i,b,e⟩:=zC.mp h;have a:t.place[i]?=some j:=by rw[qd (by simpa using b)];simpa using e
 exact⟨i,a,p.live a⟩
theorem Plain.room(p:Plain t):∃j≤t.mask,¬occ t j:=by apply jZ;intro z;have b:∀j≤t.mask,j∈t.place.toList:=λj a=>jZ λq=>z ⟨j,a,q⟩;have nd:(ql (t.mask+1)).Nodup:=wS;have:=a9p nd λj a=>b j (by have:=jO.mp a;lia);rw[jo,qJ]at this;have:=p.few;lia
variable{fuel:Nat}
section
variable{h:Int}{hashAt:Nat->Int}{K:Nat}
def a4f(k r K R:Nat):Prop:=k<K\/(k=K/\r<=R)
def b1J(t:j6)(hashAt:Nat->Int)(h:Int)(k r K R:Nat):Prop:=∀k' r' i,r'<=more t.mask h k'->(k<k'\/(k=k'/\r<=r'))->(k'<K\/(k'=K/\r'<R))->t.place[i]?=some (plc t.mask h k' r')->hashAt i≠h
theorem b1i(a:t.slot (plc t.mask h k r)=.live i):probe.go t hashAt h (fuel+1) (prb t.mask h k r)=if hashAt i==h then some (.candidate (plc t.mask h k r) i (t.advance (prb t.mask h k r)))else probe.go t hashAt h fuel (t.advance (prb t.mask h k r)):=by rw[probe.go];simp only[show(prb t.mask h k r).j=plc t.mask h k r from rfl,a]
theorem b5S(a:t.slot (plc t.mask h k r)=.empty):probe.go t hashAt h (fuel+1) (prb t.mask h k r)=some (.empty (plc t.mask h k r) none):=by rw[probe.go];simp only[show(prb t.mask h k r).j=plc t.mask h k r from rfl,a];rfl
theorem a2I(p:Plain t)(f:First t.mask (occ t) h K R):∀ fuel k r,r<=more t.mask h k->a4f k r K R->10*(K-k)+R+10-r<=fuel->(probe.go t hashAt h fuel (prb t.mask h k r)=some (.empty (plc t.mask h K R) none)/\b1J t hashAt h k r K R)\/∃k' r' i,r'<=more t.mask h k'/\(k<k'\/(k=k'/\r<=r'))/\(k'<K\/(k'=K/\r'<R))/\t.place[i]?=some (plc t.mask h k' r')/\hashAt i=h/\b1J t hashAt h k r k' r'/\probe.go t hashAt h fuel (prb t.mask h k r)=some (.candidate (plc t.mask h k' r') i (t.advance (prb t.mask h k' r')))
 |0,k,r,hr,up,hb=>by have:=more_le (mask:=t.mask) (h:=h) k;omega|fuel+1,k,r,hr,up,hb=>by
  have H:=more_le (mask:=t.mask) (h:=h) k;by_cases c:k=K/\r=R;·obtain⟨rfl,rfl⟩:=c;exact .inl ⟨b5S (p.empty f.free),λk' r' i B o e _ _=>by lia⟩
  ·have lt:k<K\/(k=K/\r<R):=by unfold a4f at up;lia
   have D:occ t (plc t.mask h k r):=by
    obtain z|⟨z,q⟩:=lt;·exact f.runs k z r hr
    ·rw[z];exact f.here r q
   obtain⟨i,E,w⟩:=p.occ_live D;by_cases C:hashAt i=h;·exact .inr ⟨k,r,i,hr,.inr ⟨rfl,qQ _⟩,lt,E,C,λk' r' a B o e=>by lia,by rw[b1i w,if_pos (by rw[C];exact beq_self_eq_true _)]⟩
   ·rw[b1i w,if_neg (by rwa[beq_iff_eq])];have same:∀k' r',k=k'->r=r'->∀a,t.place[a]?=some (plc t.mask h k' r')->hashAt a≠h:=λk' r' s v a y=>by subst s v;have:=(p.live y).symm.trans w;injection this with this;rwa[this]
    by_cases q:r<more t.mask h k
    ·rw[b0K q];rcases a2I p f fuel k (r+1) q (by unfold a4f at*;lia) (by lia)with⟨a1,a2⟩|⟨k',r',a,b1,b2,b3,b4,b5,b6,b7⟩
     ·refine .inl ⟨a1,λk' r' a B o e b=>?_⟩;by_cases d:k=k'/\r=r';·exact same k' r' d.1 d.2 a b
      ·exact a2 k' r' a B (by omega) e b
     ·refine .inr ⟨k',r',a,b1,by lia,b3,b4,b5,λj g u B o e b=>?_,b7⟩;by_cases d:k=j/\r=g;·exact same j g d.1 d.2 u b
      ·exact b6 j g u B (by lia) e b
    ·have F:r=more t.mask h k:=by lia
     have A:t.advance (prb t.mask h k r)=prb t.mask h (k+1) 0:=by rw[F];exact a7t
     rw[A];have I:k<K:=by
      obtain z|⟨z,G⟩:=lt;·exact z
      ·have:=f.le;rw[<-z]at this;lia
     rcases a2I p f fuel (k+1) 0 (qx _) (by unfold a4f at*;lia) (by lia)with⟨a1,a2⟩|⟨k',r',a,b1,b2,b3,b4,b5,b6,b7⟩
     ·refine .inl ⟨a1,λk' r' a B o e b=>?_⟩;by_cases d:k=k'/\r=r';·exact same k' r' d.1 d.2 a b
      ·refine a2 k' r' a B ?_ e b;obtain z|⟨s,v⟩:=o;·omega
       ·subst s;lia
     ·refine .inr ⟨k',r',a,b1,by lia,b3,b4,b5,λj g u B o e b=>?_,b7⟩;by_cases d:k=j/\r=g;·exact same j g d.1 d.2 u b
      ·refine b6 j g u B ?_ e b;obtain z|⟨s,v⟩:=o;·lia
       ·subst s;lia
theorem b4x(p:Plain t)(f:First t.mask (occ t) h K R)(c:K<=t.mask+13)(b:r<=more t.mask h k)(a:a4f k r K R):(t.probe hashAt h (prb t.mask h k r)=some (.empty (plc t.mask h K R) none)/\b1J t hashAt h k r K R)\/∃k' r' i,r'<=more t.mask h k'/\(k<k'\/(k=k'/\r<=r'))/\(k'<K\/(k'=K/\r'<R))/\t.place[i]?=some (plc t.mask h k' r')/\hashAt i=h/\b1J t hashAt h k r k' r'/\t.probe hashAt h (prb t.mask h k r)=some (.candidate (plc t.mask h k' r') i (t.advance (prb t.mask h k' r'))):=by refine a2I p f _ k r b a ?_;have:=f.le;have:=more_le (mask:=t.mask) (h:=h) K;unfold turns;lia
theorem b6Z(f:First t.mask (occ t) h K R)(e:r<=more t.mask h k)(lt:k<K\/(k=K/\r<R)):∃b a,t.advance (prb t.mask h k r)=prb t.mask h b a/\a<=more t.mask h b/\a4f b a K R/\(b=k/\a=r+1\/b=k+1/\a=0/\r=more t.mask h k):=by
 by_cases q:r<more t.mask h k;·exact⟨k,r+1,b0K q,q,by unfold a4f;assumption,.inl ⟨rfl,rfl⟩⟩
 ·have c:r=more t.mask h k:=by lia
  refine⟨k+1,0,by rw[c];exact a7t,qx _,?_,.inr ⟨rfl,rfl,c⟩⟩;obtain z|⟨z,d⟩:=lt;·unfold a4f;lia
  ·have:=f.le;rw[<-z]at this;lia
end
section
variable{mask:Nat}{h:Int}
def own(owner:Array (Option Nat))(j:Nat):Prop:=∃k,owner.getD j (some 0)=some k
theorem b2U:∀{R:Nat},R<n->¬own owner (i+R)->(∀r<R,own owner (i+r))->(ql n).find? (λk=>(owner.getD (i+k) (some 0)).isNone)=some R:=by
 intro R d b c;rw[List.find?_range_eq_some];refine⟨?_,jO.mpr d,λr a=>?_⟩;·cases e:owner.getD (i+R) (some 0)with|none=>rfl|some k=>exact absurd ⟨k,e⟩ b
 ·obtain⟨k,e⟩:=c r a;rw[e];rfl
theorem b1l{owner:Array (Option Nat)}{K R:Nat}(f:First mask (own owner) h K R):∀ fuel k,k<=K->K-k<fuel->layClean.free mask owner fuel (run mask h k).1 (run mask h k).2=some (plc mask h K R)
 |0,k,_,hf=>by lia|fuel+1,k,hk,hf=>by
  unfold layClean.free;by_cases c:k=K
  ·subst c;have hR:R<runEnd mask (run mask h k).1+1-(run mask h k).1:=by
    have:=f.le;unfold more at this;have:(run mask h k).1<=runEnd mask (run mask h k).1:=by unfold runEnd;split<;>lia
    lia
   rw[b2U hR f.free f.here];rfl
  ·have none:(ql (runEnd mask (run mask h k).1+1-(run mask h k).1)).find? (λr=>(owner.getD ((run mask h k).1+r) (some 0)).isNone)=none:=by rw[zw];intro r hr;have hr:=jO.mp hr;obtain⟨q,e⟩:=f.runs k (by lia) r (by unfold more;lia);unfold plc at e;rw[e];simp
   rw[none];exact b1l f fuel (k+1) (by lia) (by lia)
theorem b8T(f:First mask (own owner) h K R)(a:K<=mask+13):layClean.free mask owner (turns mask) (bits h%(mask+1)) (bits h)=some (plc mask h K R):=b1l f (turns mask) 0 (qx _) (by unfold turns;lia)
end
theorem pU{a:Type}(l:List a){p:Nat} x i(d:p<=l.length):(l.take p++x::l.drop p)[i]?=if i<p then l[i]? else if i=p then some x else l[i-1]?:=by
 have b:(l.take p).length=p:=by rw[jj];lia
 by_cases c:i<p;·rw[if_pos c,qh (by lia),List.getElem?_take,if_pos c]
 ·rw[if_neg c,jB (by lia),b];by_cases e:i=p;·rw[if_pos e,e,Nat.sub_self];rfl
  ·rw[if_neg e,show i-p=(i-p-1)+1 by lia,vM,zu,show p+(i-p-1)=i-1 by lia]
structure Tab(t:j6)(hs:T0s):Prop where
 pl:Plain t
 len:hs.length=t.place.size
 reach:∀(i:Nat) h j,hs[i]?=some h->t.place[i]?=some j->Reach t.mask (occ t) h j
section
variable{h:Int}{K:Nat}
theorem Tab.put(T:Tab t hs)(f:First t.mask (occ t) h K R)(y:t.place.size+1<=t.mask):(t.put (plc t.mask h K R)).1={t with place:=insertAt t.place (below t.place (plc t.mask h K R)) (plc t.mask h K R)}/\below t.place (plc t.mask h K R)<=t.place.size/\Tab (t.put (plc t.mask h K R)).1 (hs.take (below t.place (plc t.mask h K R))++h::hs.drop (below t.place (plc t.mask h K R))):=by
 generalize o:plc t.mask h K R=j at*;have e:(t.put j).1={t with place:=insertAt t.place (below t.place j) j}:=by unfold j6.put;rw[T.pl.nodum,if_neg (by unfold has;simp)]
 have bl:=(tP T.pl.rise j).1;refine⟨e,bl,?_⟩;have w:¬occ t j:=by rw[<-o];exact f.free
 have A:j<=t.mask:=by rw[<-o];exact a5O f.le
 have r:∀i,occ (t.put j).1 i↔i=j\/occ t i:=λi=>by rw[e];show i∈(insertAt t.place _ j).toList↔_;rw[(insertAt_perm t.place _ j).mem_iff,kE,qX,qV];exact or_comm
 have g:t.place[below t.place j]?≠some j:=λz=>by obtain⟨b,q⟩:=jf.mp z;refine w ?_;rw[<-q];exact vI _
 have d:(t.put j).1.mask=t.mask:=by rw[e]
 have pt:(t.put j).1.place.toList=t.place.toList.take (below t.place j)++j::t.place.toList.drop (below t.place j):=by rw[e];exact toList_insertAt _ _ _
 have p:(t.put j).1.place.size=t.place.size+1:=by rw[<-qJ,pt,qe,qZ,jj,zG,qJ];lia
 refine⟨⟨by rw[e];exact a7p T.pl.rise g,by rw[e];exact T.pl.nodum,λi b=>?_,by rwa[p,d],by rw[d];exact T.pl.full⟩,?_,λi s k b v=>?_⟩
 ·rw[d];rcases(r i).mp b with z|z;·lia
  ·exact T.pl.low i z
 ·have:=T.len;rw[p,qe,qZ,jj,zG];lia
 ·have C:=T.len;have mono:∀i,occ t i->occ (t.put j).1 i:=λi z=>(r i).mpr (.inr z);rw[d];have a:(t.put j).1.place.toList[i]?=some k:=by rwa[qk]
  rw[pt,pU _ _ _ (by rwa[qJ])]at a;rw[pU _ _ _ (by lia)]at b;by_cases c:i<below t.place j;·rw[if_pos c]at b a;rw[qk]at a;exact(T.reach i s k b a).mono mono
  ·rw[if_neg c]at b a;by_cases u:i=below t.place j;·rw[if_pos u]at b a;injection b with b;injection a with a;subst b a;have:=f.reach;rw[o]at this;exact this.mono mono
   ·rw[if_neg u]at b a;rw[qk]at a;exact(T.reach _ s k b a).mono mono
end
structure LInv(mask:Nat)(owner:Array (Option Nat))(hs:T0s):Prop where
 size:owner.size=mask+1
 each:∀ i h,hs[i]?=some h->∃j≤mask,owner[j]?=some (some i)/\Reach mask (own owner) h j
 only:∀(j i:Nat),owner[j]?=some (some i)->i<hs.length
 one:∀(j j' i:Nat),owner[j]?=some (some i)->owner[j']?=some (some i)->j=j'
section
variable{mask:Nat}{h:Int}
theorem yG(b:owner.size=mask+1)(a:j<=mask):own owner j↔∃k,owner[j]?=some (some k):=by
 unfold own;have a:j<owner.size:=by lia
 simp[a]
theorem LInv.room(L:LInv mask owner hs)(r:hs.length<=mask):∃j≤mask,¬own owner j:=by
 apply jZ;intro z;have p:∀j,∃i,j<=mask->owner[j]?=some (some i):=λj=>by
  by_cases c:j<=mask;·have:own owner j:=jZ λq=>z ⟨j,c,q⟩;obtain⟨i,e⟩:=(yG L.size c).mp this;exact⟨i,λ_=>e⟩
  ·exact⟨0,λq=>absurd q c⟩
 obtain⟨g,d⟩:=Classical.axiomOfChoice p;have nd:((ql (mask+1)).map g).Nodup:=by rw[zK,jK];refine List.Pairwise.imp_of_mem (λ{a b}k f n e=>n ?_) wS;have k:=jO.mp k;have f:=jO.mp f;exact L.one a b (g a) (d a (by lia)) (by rw[e];exact d b (by lia))
 have:=a9p nd (m:=ql hs.length) λx o=>by obtain⟨j,c,rfl⟩:=qK.mp o;have c:=jO.mp c;exact jO.mpr (L.only j _ (d j (by lia)))
 rw[qD,jo,jo]at this;lia
theorem LInv.step(F:tT mask)(L:LInv mask owner hs)(v:hs.length<=mask):∃j,layClean.free mask owner (turns mask) (bits h%(mask+1)) (bits h)=some j/\LInv mask (owner.setIfInBounds j (some hs.length)) (hs++[h]):=by
 obtain⟨K,R,f,w⟩:=First.ex (h:=h) F (L.room v);refine⟨plc mask h K R,b8T f w,?_⟩;generalize r:plc mask h K R=j;have u:j<=mask:=by rw[<-r];exact a5O f.le
 have A:¬own owner j:=by rw[<-r];exact f.free
 have at':∀i,(owner.setIfInBounds j (some hs.length))[i]?=if i=j then some (some hs.length)else owner[i]?:=λi=>by
  rw[Array.getElem?_setIfInBounds];by_cases c:i=j;·rw[if_pos c.symm,if_pos c,if_pos (by have:=L.size;lia)]
  ·rw[if_neg (λz=>c z.symm),if_neg c]
 have sz:(owner.setIfInBounds j (some hs.length)).size=mask+1:=by rw[Array.size_setIfInBounds];exact L.size
 have mono:∀i,own owner i->own (owner.setIfInBounds j (some hs.length)) i:=by
  rintro i⟨k,e⟩;by_cases o:i<=mask
  ·rw[yG sz o,at' i];by_cases c:i=j;·exact⟨_,if_pos c⟩
   ·rw[if_neg c];exact(yG L.size o).mp ⟨k,e⟩
  ·refine⟨0,?_⟩;simp[L.size,show¬i<mask+1 by lia]
 refine⟨sz,λi y o=>?_,λa i e=>?_,λa b i g p=>?_⟩
 ·obtain q|q:=vZ i hs.length;·rw[qh q]at o;obtain⟨a,s,g,t⟩:=L.each i y o;refine⟨a,s,?_,t.mono mono⟩;rw[at' a,if_neg,g];intro z;subst z;exact A ((yG L.size s).mpr ⟨i,g⟩)
  ·rw[jB q]at o;have:i-hs.length=0:=by
    rcases Nat.eq_zero_or_pos (i-hs.length)with z|z;·exact z
    ·rw[jG (by simp;assumption)]at o;cases o
   rw[this]at o;injection o with o;subst o;have C:i=hs.length:=by lia
   refine⟨j,u,by rw[at' j,if_pos rfl,C],?_⟩;rw[<-r];have:=f.reach;rw[r]at this⊢;exact this.mono mono
 ·rw[at' a]at e;rw[qe,List.length_singleton];by_cases c:a=j;·rw[if_pos c]at e;injection e with e;injection e with e;lia
  ·rw[if_neg c]at e;have:=L.only a i e;exact Nat.lt_succ_of_lt ‹_›
 ·rw[at' a]at g;rw[at' b]at p;by_cases c:a=j
  ·by_cases d:b=j;·rw[c,d]
   ·rw[if_pos c]at g;rw[if_neg d]at p;injection g with g;injection g with g;have:=L.only b i p;omega
  ·by_cases d:b=j;·rw[if_neg c]at g;rw[if_pos d]at p;injection p with p;injection p with p;have:=L.only a i g;omega
   ·rw[if_neg c]at g;rw[if_neg d]at p;exact L.one a b i g p
theorem b1a(F:tT mask):∀(l hs:T0s)(owner:Array (Option Nat)),LInv mask owner hs->hs.length+l.length<=mask+1->∃a,(l.foldl (init:=some (owner,hs.length)) λb h=>do let(owner,k)<-b let j<-layClean.free mask owner (turns mask) (bits h%(mask+1)) (bits h)pure (owner.setIfInBounds j (some k),k+1))=some (a,hs.length+l.length)/\LInv mask a (hs++l)
 |[],hs,owner,L,_=>⟨owner,rfl,by rwa[jd]⟩|h::l,hs,owner,L,hl=>by
  rw[qZ]at hl;obtain⟨j,e,f⟩:=L.step (h:=h) F (by lia);obtain⟨a,d,L2⟩:=b1a F l (hs++[h]) _ f (by simp;lia);refine⟨a,?_,by rwa[wL]at L2⟩;rw[List.foldl_cons];have c:(do let(owner,k)<-(some (owner,hs.length):Option (Array (Option Nat)×Nat))let j<-layClean.free mask owner (turns mask) (bits h%(mask+1)) (bits h)pure (owner.setIfInBounds j (some k),k+1))=some (owner.setIfInBounds j (some hs.length),(hs++[h]).length):=by show(layClean.free mask owner (turns mask) (bits h%(mask+1)) (bits h)).bind _=_;rw[e];simp
  rw[c,d];simp;lia
theorem b2K(F:tT mask)(a:hs.length<=mask+1):∃owner,layClean mask hs.toArray=some owner/\LInv mask owner hs:=by have b:LInv mask (Array.replicate (mask+1) none) []:=⟨by simp,λi h e=>by simp at e,λj i e=>by rw[Array.getElem?_replicate]at e;split at e<;>simp at e,λj c i e=>by rw[Array.getElem?_replicate]at e;split at e<;>simp at e⟩;obtain⟨owner,e,L⟩:=b1a F hs [] _ b (by simpa using a);refine⟨owner,?_,by simpa using L⟩;unfold layClean;rw[<-Array.foldl_toList];rw[show(some (Array.replicate (mask+1) none,0):Option (Array (Option Nat)×Nat))=some (Array.replicate (mask+1) none,([]:T0s).length)from rfl,e];rfl
theorem b5y(F:tT mask)(hl:hs.length<=mask) finger moves led plain:∃t order,laid mask finger moves led plain hs.toArray=some (t,order)/\t.mask=mask/\t.led=led/\t.plain=plain/\order.toList.Perm (ql hs.length)/\Tab t (order.toList.map λi=>hs.getD i 0):=by
 obtain⟨owner,e,L⟩:=b2K F (hs:=hs) (by lia);have gd:∀j<mask+1,owner.getD j none=(owner[j]?).getD none:=λj _=>by simp
 generalize hv:(ql (mask+1)).filterMap (λj=>(owner.getD j none).map (j,·))=live;have mem:∀q:Nat×Nat,q∈live↔owner[q.1]?=some (some q.2):=λq=>by
  rw[<-hv,zr];constructor
  ·rintro⟨j,hj,ej⟩;have hj:=jO.mp hj;obtain⟨i,ei,rfl⟩:=qH.mp ej;have:j<owner.size:=by rwa[L.size]
   simp[this]at ei;simp[this,ei]
  ·intro z;have hj:q.1<owner.size:=by
    obtain y|y:=vZ q.1 owner.size;·exact y
    ·rw[zR y]at z;cases z
   refine⟨q.1,jO.mpr (by rwa[<-L.size]),?_⟩;rw[qd hj]at z;injection z with z;simp[hj,z]
 have pw:live.Pairwise λa b=>a.1<b.1:=by rw[<-hv,List.pairwise_filterMap];refine List.pairwise_lt_range.imp ?_;intro a b hab x hx y hy;obtain⟨_,_,rfl⟩:=qH.mp hx;obtain⟨_,_,rfl⟩:=qH.mp hy;exact hab
 have nd2:(live.map (·.2)).Nodup:=by rw[zK,jK];refine List.Pairwise.imp_of_mem (λ{a b}ha hb n z=>?_) pw;have:=L.one a.1 b.1 a.2 ((mem a).mp ha) (by rw[z];exact(mem b).mp hb);lia
 have pr:=(kz nd2 wS).mpr λi=>by
  rw[jO,qK];constructor;·rintro⟨q,hq,rfl⟩;exact L.only _ _ ((mem q).mp hq)
  ·intro hi;obtain⟨j,_,ej,_⟩:=L.each i hs[i] (qG hi);exact⟨(j,i),(mem (j,i)).mpr ej,rfl⟩
 have ll:live.length=hs.length:=by have:=pr.length_eq;rwa[qD,jo]at this
 refine⟨{mask,place:=(live.map (·.1)).toArray,dummies:=#[],finger,led,moves,plain},(live.map (·.2)).toArray,?_,rfl,rfl,rfl,by simpa using pr,?_⟩;·unfold laid;rw[e];show some _=_;rw[hv]
 ·have oc:∀j≤mask,own owner j->occ {mask,place:=(live.map (·.1)).toArray,dummies:=#[],finger,led,moves,plain} j:=λj hj o=>by obtain⟨i,ei⟩:=(yG L.size hj).mp o;show j∈((live.map (·.1)).toArray).toList;rw[jc];exact qK.mpr ⟨(j,i),(mem (j,i)).mpr ei,rfl⟩
  refine⟨⟨?_,rfl,λj hj=>?_,by simp;lia,F⟩,by simp,λp h j hp hj=>?_⟩;·show List.Pairwise (·<·) _;rwa[jc,jK]
  ·rw[jc]at hj;obtain⟨q,hq,rfl⟩:=qK.mp hj;have:=(mem q).mp hq;show q.1<=mask;obtain y|y:=vZ q.1 owner.size;·have:=L.size;lia
   ·rw[zR y]at this;cases this
  ·have hj:(live.map (·.1))[p]?=some j:=by simpa using hj
   rw[jc]at hp;rw[qO]at hj hp;rw[qO]at hp;obtain⟨q,hq,rfl⟩:=qH.mp hj;rw[hq]at hp;have hp:hs.getD q.2 0=h:=by simpa using hp
   have mq:=(mem q).mp (kA hq);have lt:=L.only _ _ mq;obtain⟨j',hj',ej,k,r,r1,r2,r3,r4⟩:=L.each q.2 h (by rw[qG lt,<-hp,qT,qG lt];rfl);have:=L.one _ _ _ mq ej;rw[this];exact⟨k,r,r1,r2,λk' hk r' hr=>oc _ (a5O hr) (r3 k' hk r' hr),λr' hr=>oc _ (a5O (mask:=mask) (qg (jP hr) r1)) (r4 r' hr)⟩
end
end L2.TB
namespace L2.TB
open PySem PySem.SetTable L2.SX PyProof.Rows
variable{b:Addr}{o:Obj}{es:Array (Int×Value)}{t:j6}{Q:Bool->Shared->Prop}
section
variable{K:Type}[DecidableEq K]
structure Calm(knd:uj prog w K):Prop where
 cls:∀{A:Around}{E:T0a}{s:Shared}{k:K}{a:Addr}{Q:Bool->Shared->Prop},knd.is s.heap k a->Q false s->wpAny (model prog w) A (wo 8 (.ref a)) Q E s
 val:∀{A:Around}{E:T0a}{s:Shared}{k:K}{a:Addr}{Q:Bool->Shared->Prop},knd.is s.heap k a->(∀b,Q b s)->wpAny (model prog w) A (yu 8 (.ref a)) Q E s
 keep:∀{h h':Heap}{k:K}{a:Addr},knd.is h k a->(∀ c o Y n,h.get? c=some o->o.data=.seq Y n->h'.get? c=some o)->knd.is h' k a
def b9Y(knd:uj prog w K)(h:Heap)(es:List (Int×Value)):Prop:=∀e∈es,∃b k,e.2=.ref b/\knd.is h k b/\e.1=knd.hash k
structure GoodH(knd:uj prog w K)(h:Heap)(a:Addr)(ks:List K)(led:Bool):Prop where ex:∃o es ep t,h.get? a=some o/\o.ExactSet/\o.data=.set es ep t/\b9Y knd h es.toList/\(∀k,k∈ks↔∃e∈es.toList,∃b,e.2=.ref b/\knd.is h k b)/\es.size=ks.length/\Tab t (es.toList.map (·.1))/\t.led=led/\t.tooFull=false/\(t.mask=7\/t.mask=31\/t.mask=127)nd:ks.Nodup
variable{knd:uj prog w K}{ks:List K}
theorem Calm.keepS(C:Calm knd){h:Heap}{k:K}{d:Addr}(i:knd.is h k b)(f:h.get? d=some o)(g:o.data=.set es ep t)(hs:jx d h h'):knd.is h' k b:=C.keep i λc j Y n a e=>by
  have:c≠d:=λz=>by subst z;rw[f]at a;injection a with a;subst a;rw[g]at e;cases e
  rwa[hs.2 c this]
theorem Tab.fits{t:j6}{es:Array (Int×Value)}(T:Tab t (es.toList.map (·.1))):t.fits es.size=true:=by have B:=T.len;rw[qD,qJ]at B;have b:=T.pl.few;have a:=T.pl.nodum;unfold j6.fits j6.fill;rw[a];simp;lia
theorem b7C(C:Calm knd){k:K}(hx:knd.is s.heap k b)(q:Q false s):∀(ys:T0m),(∀y∈ys,∃c k',y=.ref c/\knd.is s.heap k' c)->wpAny (model prog w) A (searchCouldBeSeen (.ref b) ys) Q E s:=by intro ys d;refine j0 ?_;induction ys with|nil=>rw[List.forIn_nil];exact j3 (j3 q)|cons y ys a=>
  have a:=a λz f=>d z (qF _ f);obtain⟨c,k',rfl,e⟩:=d y (by simp);rw[List.forIn_cons];refine j0 ?_;dsimp only;split;·exact j3 a
  ·refine j0 (knd.quiet hx ?_);simp only[kW,↓reduceIte];refine j0 (knd.quiet e ?_);simp only[kW,↓reduceIte];refine j0 (C.cls hx ?_);simp only[qi,↓reduceIte];refine j0 (C.cls e ?_);simp only[qi,↓reduceIte];exact j3 a
def b7g(k r k' r':Nat):Prop:=k<k'\/(k=k'/\r<=r')
theorem b2i(C:Calm knd){k:K}{K':Nat}{Q:SetFound->Shared->Prop}(hu:knd.room A)(hx:knd.is s.heap k b)(ho:s.heap.get? a=some o)(hd:o.data=.set es ep t)(T:Tab t (es.toList.map (·.1)))(he:b9Y knd s.heap es.toList)(hm:t.mask%2=1)(f:First t.mask (occ t) (knd.hash k) K' R)(hK:K'<=t.mask+13)(yes:(∃e∈es.toList,∃c,e.2=.ref c/\knd.is s.heap k c)->Q (.there none) s)(no:(¬∃e∈es.toList,∃c,e.2=.ref c/\knd.is s.heap k c)->Q (.free (plc t.mask (knd.hash k) K' R) false) s):∀ n fuel kk r st,10*(K'-kk)+R+10-r<=n->n<fuel->st.getD (t.probeStart (knd.hash k))=prb t.mask (knd.hash k) kk r->r<=more t.mask (knd.hash k) kk->a4f kk r K' R->(∀(i:Nat) e c,es[i]?=some e->e.2=.ref c->knd.is s.heap k c->∃k1 r1,r1<=more t.mask (knd.hash k) k1/\t.place[i]?=some (plc t.mask (knd.hash k) k1 r1)/\b7g kk r k1 r1/\(k1<K'\/(k1=K'/\r1<R)))->wpAny (model prog w) A (setSearchFrom a (.ref b) (knd.hash k) true fuel st) Q E s:=by have hf:=T.fits;intro n;induction n with|zero=>intro fuel kk r st hn _ _ hr _ _;have:=more_le (mask:=t.mask) (h:=knd.hash k) kk;omega|succ n ih=>
  intro fuel kk r st hn hfu hst hr up hin;obtain⟨fuel,rfl⟩:∃f',fuel=f'+1:=⟨fuel-1,by lia⟩;have m9:=more_le (mask:=t.mask) (h:=knd.hash k) kk;refine j0 (wq ho hd hf ?_);dsimp only;have gw:t.gaveWay=false:=by unfold j6.gaveWay;rw[hm];rfl
  rw[gw];simp only[qi,↓reduceIte];refine j0 (j3 ?_);rw[hst];have hsz:es.size=t.place.size:=by have:=T.len;rwa[qD,qJ]at this
  have key:∀(i:Nat)(e:Int×Value)(c:Addr),es[i]?=some e->e.2=.ref c->knd.is s.heap k c->(es[i]?.map (·.1)).getD 0=knd.hash k:=λi e c hi hc hk=>by obtain⟨c',k',e1,e2,e3⟩:=he e (by rw[<-qk]at hi;exact kA hi);rw[hc]at e1;injection e1 with e1;subst e1;rw[hi];show e.1=_;rw[e3,knd.inj e2 hk]
  rcases b4x (hashAt:=λi=>(es[i]?.map (·.1)).getD 0) T.pl f hK hr up with⟨e,nn⟩|⟨k',r',i,b1,b2,b3,b4,b5,b6,e⟩;·erw[e];refine j3 (no ?_);rintro⟨q,hq,c,hc,hk⟩;obtain⟨i,hi⟩:=vn hq;rw[qk]at hi;obtain⟨k1,r1,a1,a2,a3,a4⟩:=hin i q c hi hc hk;exact nn k1 r1 i a1 a3 a4 a2 (key i q c hi hc hk)
  ·erw[e];obtain⟨hip,_⟩:=jf.mp b4;obtain⟨q,hq⟩:∃q,es[i]?=some q:=⟨_,qd (by lia)⟩;have mq:q∈es.toList:=by rw[<-qk]at hq;exact kA hq
   obtain⟨c,kc,e1,hkc,e3⟩:=he q mq;obtain⟨q1,q2⟩:=q;subst e1;have ysok:∀y∈((es.filter λe=>e.1==knd.hash k).toList.map (·.2)),∃c k',y=.ref c/\knd.is s.heap k' c:=λy hy=>by obtain⟨z,hz,rfl⟩:=qK.mp hy;rw[Array.toList_filter,qy]at hz;obtain⟨c,k',z1,z2,_⟩:=he z hz.1;exact⟨c,k',z1,z2⟩
   obtain⟨k1,r1,ad,hr1,up1,suc⟩:=b6Z f b1 b3;have sm:t.sameMemory t.moves t.mask=some true:=by unfold j6.sameMemory;simp
   cases hl:t.led;simp only[↓reduceIte];refine j0 (b7C C hx ?_ _ ysok);simp only[qi,↓reduceIte];rotate_left;simp only[↓reduceIte];all_goals
    rw[hq];refine j0 (k7 (knd.eqBool hu hkc hx ?_));refine j0 (wq ho hd hf ?_);by_cases ck:kc=k;·rw[decide_eq_true ck];simp only[↓reduceIte];exact j3 (yes ⟨_,mq,c,rfl,ck▸hkc⟩)
    ·rw[decide_eq_false ck];simp only[↓reduceIte];rw[sm];simp only[↓reduceIte];rw[T.pl.live b4];dsimp only;rw[hq];refine j0 (wpAny_isSame_ref_self ?_);refine j0 (j3 ?_);simp only;refine ih fuel k1 r1 _ ?_ (by lia) (by exact ad) hr1 up1 λi2 e2 c2 hi2 hc2 hk2=>?_
     ·have:=more_le (mask:=t.mask) (h:=knd.hash k) k';have fl:=f.le;obtain z|⟨z,z'⟩:=b3;·obtain⟨s1,s2⟩|⟨s1,s2,s3⟩:=suc<;>lia
      ·rw[<-z]at fl;obtain⟨s1,s2⟩|⟨s1,s2,s3⟩:=suc<;>lia
     ·obtain⟨k2,r2,a1,a2,a3,a4⟩:=hin i2 e2 c2 hi2 hc2 hk2;refine⟨k2,r2,a1,a2,?_,a4⟩;have n1:¬(k2<k'\/(k2=k'/\r2<r')):=λz=>b6 k2 r2 i2 a1 a3 z a2 (key i2 e2 c2 hi2 hc2 hk2);have n2:¬(k2=k'/\r2=r'):=by rintro ⟨z1,z2⟩;subst z1 z2;have:=(T.pl.live a2).symm.trans (T.pl.live b4);injection this with this;subst this;rw[hq]at hi2;injection hi2 with hi2;subst hi2;injection hc2 with hc2;subst hc2;exact ck (knd.inj hkc hk2)
      unfold b7g;obtain⟨s1,s2⟩|⟨s1,s2,s3⟩:=suc;·lia
      ·by_cases y:k2=k';·subst y;omega
       ·lia
end
theorem Tab.off(T:Tab t hs) p:Tab {t with plain:=p} hs:=⟨⟨T.pl.rise,T.pl.nodum,T.pl.low,T.pl.few,T.pl.full⟩,T.len,T.reach⟩
theorem b1j(h:m=7\/m=31\/m=127):tT m:=by
 obtain rfl|rfl|rfl:=h;·exact c0v
 ·exact c2t
 ·exact b8S
theorem b6b{a:Type}{l:List a}{d:a}:∀(L:T0t),(∀i∈L,i<l.length)->L.filterMap (λi=>l[i]?)=L.map λi=>l.getD i d|[],_=>rfl|i::L,h=>by have b:=h i (by simp);rw[zm,qG b,qI,b6b L λj c=>h j (qF _ c),qT,qG b];rfl
theorem b7I{a:Type}{l:List a}{d:a}:(ql l.length).map (λi=>l.getD i d)=l:=by refine wU (by simp) λi B b=>?_;simp[b]
theorem Tab.ahead{K:Nat}(T:Tab t hs)(f:First t.mask (occ t) h K R)(e:hs[i]?=some h):∃a b,b<=more t.mask h a/\t.place[i]?=some (plc t.mask h a b)/\(a<K\/(a=K/\b<R)):=by
 obtain⟨p,_⟩:=qR.mp e;have d:i<t.place.size:=by have:=T.len;lia
 obtain⟨a,b,o,g,k,j⟩:=T.reach i h _ e (qd d);refine⟨a,b,o,by rw[g];exact qd d,?_⟩;have c:occ t (plc t.mask h a b):=by rw[g];exact vI _
 obtain z|z|z:=Nat.lt_trichotomy a K;·exact .inl z
 ·obtain q|q:=vZ b R;·exact .inr ⟨z,q⟩
  ·subst z;obtain q|q:=Nat.lt_or_eq_of_le q;·exact absurd (j R q) f.free
   ·rw[<-q]at c;exact absurd c f.free
 ·exact absurd (k K z R f.le) f.free
section
variable{K:Type}[DecidableEq K]{knd:uj prog w K}{ks:List K}
theorem b9V(C:Calm knd){k:K}(hu:knd.room A)(hx:knd.is s.heap k b)(g:GoodH knd s.heap a ks led)(few:ks.length<40)(h:∀h' bb,jx a s.heap h'->GoodH knd h' a (addK ks k) led->Q bb {s with heap:=h'}):wpAny (model prog w) A (QL a (.ref b) (knd.hash k)) Q E s:=by
 obtain⟨o,r,ep,t,ho,hex,hd,X,M,hn,T,hled,hnf,hm⟩:=g.ex;have F:=b1j hm;have hf:=T.fits;obtain⟨K',R,f,hK⟩:=First.ex (h:=knd.hash k) F T.pl.room;have fl:=f.le;have m9:=more_le (mask:=t.mask) (h:=knd.hash k) K';refine k7 (j0 (wq ho hd hf ?_));dsimp only;have bs:byScan (.ref b) r=false:=rfl;rw[bs];simp only[qi,↓reduceIte];refine j0 ?_;refine b2i C hu hx ho hd T X (by obtain z|z|z:=hm<;>rw[z]) f hK (λye=>?_) (λne=>?_) (10*K'+R+10) 100000 0 0 none (by omega) (by obtain z|z|z:=hm<;>omega) (b2r t _) (qx _) (by unfold a4f;lia) (λi e c hi hc hk=>?_);·have hk:=(M k).mpr ye;exact j3 (h s.heap false (Heap.SameBut.refl a s.heap) (by unfold addK;rw[if_pos hk];exact g))
 ·have hk:k∉ks:=λz=>ne ((M k).mp z);have hsz:r.size=t.place.size:=by have:=T.len;rwa[qD,qJ]at this
  have nfl:t.place.size*5<t.mask*3:=by have:=hnf;unfold j6.tooFull j6.fill at this;rw[T.pl.nodum]at this;simpa using this
  obtain⟨e1,bl,T1⟩:=T.put f (by obtain z|z|z:=hm<;>lia);generalize hj:plc t.mask (knd.hash k) K' R=j at*;refine j0 (wq ho hd hf ?_);have ep2:(t.put j).2=below t.place j:=rfl;have l1:(insertAt r (t.put j).2 (knd.hash k,qr b)).toList=r.toList.take (below t.place j)++(knd.hash k,.ref b)::r.toList.drop (below t.place j):=toList_insertAt _ _ _;have B:(insertAt r (t.put j).2 (knd.hash k,qr b)).toList.map (·.1)=(r.toList.map (·.1)).take (below t.place j)++knd.hash k::(r.toList.map (·.1)).drop (below t.place j):=by rw[l1,jC,qI,List.map_take,List.map_drop]
  have pm:=insertAt_perm r (t.put j).2 (knd.hash k,qr b);have lk:(t.put j).1.led=led:=by rwa[e1]
  have mk:(t.put j).1.mask=t.mask:=by rw[e1]
  generalize hes:insertAt r (t.put j).2 (knd.hash k,qr b)=es1 at*;generalize ht1:(t.put j).1=t1 at*;rw[<-B]at T1;have y:es1.size=r.size+1:=by rw[<-qJ,pm.length_eq,kE,qe,qJ];rfl
  have hlen:(addK ks k).length=ks.length+1:=by unfold addK;rw[if_neg hk];simp
  have hnd:(addK ks k).Nodup:=by unfold addK;rw[if_neg hk,jL];exact⟨g.nd,by simp,λa ha b hb=>by rw[qV]at hb;subst hb;exactλz=>hk (z▸ha)⟩
  have I:∀(u:j6),Tab u (es1.toList.map (·.1))->u.led=led->u.mask=t.mask->wpAny (model prog w) A (do storeSet a es1 u if(!false&&u.tooFull)=true then do setRelay a (grown (r.size+1))pure true else pure true) Q E s:=by
   intro u T2 lk2 mk2;refine j0 (y6 ho hd ?_ (yz (by rw[y,hn];unfold yk;lia)));have J:=stored (es':=es1) (t':=u) ho hd;have sb1:=vH s.heap a (kr es1 u);have kp:∀{G c},knd.is s.heap G c->knd.is (s.heap.update a (kr es1 u)) G c:=λq=>C.keepS q ho hd sb1;have N:b9Y knd (s.heap.update a (kr es1 u)) es1.toList:=λe D=>by
    rw[pm.mem_iff,kE,qX,qV]at D;obtain D|rfl:=D;·obtain⟨c,G,v,H,z3⟩:=X e D;exact⟨c,G,v,kp H,z3⟩
    ·exact⟨b,k,rfl,kp hx,rfl⟩
   have L:∀G,G∈addK ks k↔∃e∈es1.toList,∃c,e.2=.ref c/\knd.is (s.heap.update a (kr es1 u)) G c:=λG=>by
    unfold addK;rw[if_neg hk,qX,qV,M G];constructor
    ·rintro(⟨e,D,c,v,H⟩|rfl);·exact⟨e,pm.mem_iff.mpr (by rw[kE];exact jQ _ D),c,v,kp H⟩
     ·exact⟨_,pm.mem_iff.mpr (by rw[kE];exact qb _ (qV.mpr rfl)),b,rfl,kp hx⟩
    ·rintro⟨e,D,c,v,H⟩;rw[pm.mem_iff,kE,qX,qV]at D;obtain D|rfl:=D;·obtain⟨c',k2,P,y2,_⟩:=X e D;rw[v]at P;injection P with P;subst P;have:=knd.inj (kp y2) H;subst this;exact .inl ⟨e,D,_,v,y2⟩
     ·injection v with v;subst v;exact .inr (knd.inj H (kp hx))
   have fill2:u.fill=r.size+1:=by have:=T2.len;rw[qD,qJ,y]at this;unfold j6.fill;rw[T2.pl.nodum];simp;omega
   by_cases tf:u.tooFull=true
   ·rw[tf];simp only[Bool.not_false,↓reduceIte];have tf':(r.size+1)*5>=t.mask*3:=by unfold j6.tooFull at tf;rw[fill2,mk2]at tf;simpa using tf
    have sm:r.size=4/\t.mask=7\/r.size=18/\t.mask=31:=by
     obtain z|z|z:=hm;·left;lia
     ·right;omega
     ·omega
    refine j0 (j0 (wq J rfl T2.fits ?_));dsimp only;have sa:sizeAbove (grown (r.size+1))=32/\r.size=4\/sizeAbove (grown (r.size+1))=128/\r.size=18:=by
     obtain⟨z,_⟩|⟨z,_⟩:=sm;·left;rw[z];exact⟨rfl,rfl⟩
     ·right;rw[z];exact⟨rfl,rfl⟩
    rw[if_neg (by rw[wu];lia)];have m3:sizeAbove (grown (r.size+1))-1=7\/sizeAbove (grown (r.size+1))-1=31\/sizeAbove (grown (r.size+1))-1=127:=by lia
    have hl1:(es1.toList.map (·.1)).length=r.size+1:=by rw[qD,qJ,y]
    obtain⟨t3,p,el,em,eled,_,pr,T3⟩:=b5y (hs:=es1.toList.map (·.1)) (b1j m3) (by rw[hl1];lia) u.finger (u.movedTo (sizeAbove (grown (r.size+1))-1)) u.led u.plain;have rl:u.relaid (es1.map (·.1)) (grown (r.size+1))=some (t3,p):=by rw[<-el];unfold j6.relaid;rw[show es1.map (·.1)=(es1.toList.map (·.1)).toArray from(by rw[<-Array.toList_map])]
    rw[hl1]at pr;have lo:∀i∈p.toList,i<es1.toList.length:=λi hi=>by have:=jO.mp (pr.mem_iff.mp hi);rwa[qJ,y]
    have e2:(p.filterMap (λi=>es1[i]?)).toList=p.toList.map λi=>es1.toList.getD i (0,.none):=by rw[Array.toList_filterMap];rw[<-b6b (d:=((0,.none):Int×Value)) p.toList lo];congr 1;funext i;rw[qk]
    have p2:(p.filterMap (λi=>es1[i]?)).toList.Perm es1.toList:=by rw[e2];refine(pr.map _).trans ?_;have:=b7I (l:=es1.toList) (d:=((0,.none):Int×Value));rw[qJ,y]at this;rw[this]
    have h2:(p.filterMap (λi=>es1[i]?)).toList.map (·.1)=p.toList.map λi=>(es1.toList.map (·.1)).getD i 0:=by rw[e2,qc];refine zh λi hi=>?_;have:=lo i hi;show(es1.toList.getD i (0,.none)).1=_;rw[qT,qT,qO,qG this];rfl
    rw[<-h2]at T3;have S:(p.filterMap (λi=>es1[i]?)).size=es1.size:=by rw[<-qJ,p2.length_eq,qJ]
    rw[rl];refine j0 (ul (a:=(p.filterMap (λi=>es1[i]?),t3)) ?_ ?_);·show(if((p.filterMap (λi=>es1[i]?)).size !=es1.size)=true then _ else _)=_;rw[if_neg (by rw[S];simp)]
    generalize p.filterMap (λi=>es1[i]?)=es2 at*;refine y6 J rfl ?_ (yz (by rw[S,y,hn];unfold yk;omega));have ho2:=stored (a:=a) (es':=es2) (t':=t3) J rfl;have sb2:=vH (s.heap.update a (kr es1 u)) a (kr es2 t3);have kp2:∀{G c},knd.is (s.heap.update a (kr es1 u)) G c->knd.is ((s.heap.update a (kr es1 u)).update a (kr es2 t3)) G c:=λq=>C.keepS q J rfl sb2;have fill3:t3.fill=r.size+1:=by have:=T3.len;rw[qD,qJ,S,y]at this;unfold j6.fill;rw[T3.pl.nodum];simp;omega
    refine j3 (h _ true (sb1.trans sb2) ⟨⟨_,es2,_,t3,ho2,hex,rfl,λe D=>?_,λG=>(L G).trans ⟨by rintro ⟨e,D,c,v,H⟩;exact⟨e,p2.mem_iff.mpr D,c,v,kp2 H⟩,λ⟨e,D,c,v,H⟩=>?_⟩,by rw[S,y,hlen,hn],T3,by rw[eled,lk2],?_,by rwa[em]⟩,hnd⟩);·obtain⟨c,G,v,H,z3⟩:=N e (p2.mem_iff.mp D);exact⟨c,G,v,kp2 H,z3⟩
    ·obtain⟨c',k2,P,y2,_⟩:=N e (p2.mem_iff.mp D);rw[v]at P;injection P with P;subst P;have:=knd.inj (kp2 y2) H;subst this;exact⟨e,p2.mem_iff.mp D,_,v,y2⟩
    ·unfold j6.tooFull;rw[fill3,em];simp;omega
   ·have tf:u.tooFull=false:=by simpa using tf
    rw[tf];simp only[vq,↓reduceIte];refine j3 (h _ true sb1 ⟨⟨_,es1,_,u,J,hex,rfl,N,L,by rw[y,hlen,hn],T2,lk2,tf,by rwa[mk2]⟩,hnd⟩)
  split
  ·refine j0 (C.val hx λbb=>?_);cases bb;·exact I _ (T1.off false) lk mk
   ·exact I _ T1 lk mk
  ·exact j0 (j3 (I _ T1 lk mk))
 ·obtain⟨c',G,v,H,z3⟩:=X e (by rw[<-qk]at hi;exact kA hi);rw[hc]at v;injection v with v;subst v;have:(r.toList.map (·.1))[i]?=some (knd.hash k):=by rw[qO,qk,hi];show some e.1=_;rw[z3,knd.inj H hk]
  obtain⟨k1,r1,a1,a2,a3⟩:=T.ahead f this;exact⟨k1,r1,a1,a2,by unfold b7g;omega,a3⟩
end
section
variable{K:Type}[DecidableEq K]{knd:uj prog w K}{R:Result->Shared->Prop}
theorem GoodH.keeps(C:Calm knd){h:Heap}{ks:List K}(g:GoodH knd h a ks led)(k:∀o,h.get? a=some o->h'.get? a=some o)(s:∀ c o Y n,h.get? c=some o->o.data=.seq Y n->h'.get? c=some o):GoodH knd h' a ks led:=by
 obtain⟨o,v,D,t,z,u,A,p,j,r⟩:=g.ex;have back:∀e∈v.toList,∀c d,e.2=.ref c->knd.is h' d c->knd.is h d c:=λe f c d b i=>by obtain⟨F,E,q,y,_⟩:=p e f;rw[b]at q;injection q with q;subst q;rwa[knd.inj i (C.keep y s)]
 exact⟨⟨o,v,D,t,k o z,u,A,λe f=>by obtain⟨c,d,b,i,w⟩:=p e f;exact⟨c,d,b,C.keep i s,w⟩,λd=>(j d).trans ⟨by rintro ⟨e,f,c,b,i⟩;exact⟨e,f,c,b,C.keep i s⟩,by rintro ⟨e,f,c,b,i⟩;exact⟨e,f,c,b,back e f c d b i⟩⟩,r⟩,g.nd⟩
variable{wr:T0o}{G:Array uu->Array uu->Prop}{n:Nat}{P:Nat->Value->Prop}{St:Nat->Shared->Prop}
theorem b5v(C:Calm knd)(f:knd.room A.in1)(W:WalksS prog w A.in1 I fp wr G n P St)(hW:∀i s,St i s->∀c∈wr,∀ o Y m,s.heap.get? c=some o->o.data≠.seq Y m) S(D:S∉fp) val(hb:n<40):∀ m i s,n-i=m->i<=n->St i s->(∀i v,P i v->∃b,v=.ref b/\knd.is s.heap (val i) b)->GoodH knd s.heap S (metK val i) led->(∀s',Moved (S::wr) G s s'->GoodH knd s'.heap S (metK val n) led->(∀ c o Y m,s.heap.get? c=some o->o.data=.seq Y m->s'.heap.get? c=some o)->R (.ok (.ret .none)) s')->
   wn (model prog w) A (.builtin "set.update.loop" ⟨[.ref S,.ref I],[]⟩) R s:=by have X:S∉wr:=λz=>D (W.sub _ z);have T:∀b∈wr,b∈S::wr:=λb hb=>qF _ hb;intro m;induction m with|zero=>
  intro i s hm hi r K g N;obtain rfl:i=n:=by lia
  refine v4 zp ?_;rw[jU kN _];refine j0 (W.done s _ _ r λs' p=>?_);have q:∀(c:Addr)(o:Obj)(Y:Array Value)(m:Nat),s.heap.get? c=some o->o.data=.seq Y m->s'.heap.get? c=some o:=λc o Y m a k=>p.heap c o (λz=>hW i s r c z o Y m a k) a;exact j3 (N s' (p.mono T) (g.keeps C (λo e=>p.heap S o X e) q) q)|succ m ih=>
  intro i s hm hi r K g N;have lt:i<n:=by lia
  refine v4 zp ?_;rw[jU kN _];refine j0 (W.item i s _ _ lt r λv s' pv E p=>?_);have q:∀(c:Addr)(o:Obj)(Y:Array Value)(m:Nat),s.heap.get? c=some o->o.data=.seq Y m->s'.heap.get? c=some o:=λc o Y m a k=>p.heap c o (λz=>hW i s r c z o Y m a k) a;have g':=g.keeps C (h':=s'.heap) (λo e=>p.heap S o X e) q;obtain⟨b,rfl,hk⟩:=K i v pv;have y:=C.keep hk q;refine j0 (k7 ?_);refine k7 (j0 (knd.pyHash f y ?_));have room:(metK val i).length<40:=by have:=metK_len val i;lia
  refine b9V (knd:=knd) (s:={s' with toks:=s'.toks+knd.draws (val i)}) C f y g' room λh' b' F g2=>?_;rw[<-metK_succ]at g2;obtain⟨oS,esS,epS,tS,L,_,M,_⟩:=g'.ex;have u:∀(c:Addr)(o:Obj)(Y:Array Value)(m:Nat),s'.heap.get? c=some o->o.data=.seq Y m->h'.get? c=some o:=λc o Y m a k=>by
   have:c≠S:=λz=>by subst z;rw[L]at a;injection a with a;subst a;rw[M]at k;cases k
   rwa[F.2 c this]
  refine j3 ⟨wy kN _,ih (i+1) _ (by lia) lt (W.frame _ s' _ _ E (wR _ _) λc a o e=>?_) (λj v pj=>?_) g2 λH t Q J=>?_⟩;·rwa[F.2 c (λz:c=S=>D (z▸a))]
  ·obtain⟨d,e1,e2⟩:=K j v pj;exact⟨d,e1,C.keep (C.keep e2 q) u⟩
  ·refine N H (Moved.trans W.gtrans ((p.mono T).then_heap (wR _ _) λc o a e=>?_) t) Q λc o Y m a k=>J c o Y m (u c o Y m (q c o Y m a k) k) k;rwa[F.2 c (λz:c=S=>a (by rw[z];exact qa))]
end
section
variable{K:Type}[DecidableEq K]{knd:uj prog w K}
theorem b2S(h:Heap):GoodH knd (h.push (dE w)) h.objs.size [] (ledOf w):=⟨⟨_,#[],0,_,qP _ rfl,⟨rfl,rfl,rfl⟩,rfl,λe c=>by simp at c,λk=>by simp,rfl,⟨⟨by simp[rY,zf],rfl,λj a=>by simp[zf]at a,by simp[zf],c0v⟩,by simp[zf],λi h j b=>by simp at b⟩,rfl,rfl,.inl rfl⟩,List.nodup_nil⟩
theorem b7z(C:Calm knd){l:Addr}{val:Nat->K}{Q:T0a}(hh:A.handled=none)(hroom:knd.room A.in1.in1.in1)(hl:s.heap.IsList l items)(hval:∀i v,items[i]?=some v->∃b,v=.ref b/\knd.is s.heap (val i) b)(hb:items.size<40)(h:∀ h' tk,GoodH knd h' s.heap.objs.size (metK val items.size) (ledOf w)->(∀b o,b<s.heap.objs.size->s.heap.get? b=some o->h'.get? b=some o)->Q (.ref s.heap.objs.size) {s with heap:=h',toks:=tk}):wpAny (model prog w) A (call (.type "set") [.ref l]) Q E s:=by
 obtain⟨c,tl,hmro⟩:=jk.mro;have hmade:=jk.made;have hsub:=jk.sub;refine yg (codeAny_of_tree ?_);show wpAny _ _ (callAny (.type "set") ⟨[.ref l],[]⟩) _ _ _;refine j3 ⟨Code.quiet_builtin _ (by decide+kernel),v4 F.entry_type_call ?_⟩;rw[Around.under_plain (weight_type_call_type "set" [.ref l] []) rfl];have n1:=jk.notType;have n2:=jk.canCreate;have n3:=F.typeCall_set_1 (.ref l);repeat(any_goals(first|assumption|wp_step))
 refine wc (new_one (.ref l) (E:=E) (Q1:=λob s1=>ob=.ref s.heap.objs.size/\s1={s with heap:=s.heap.push (dE w)}) ⟨rfl,rfl⟩) λr s1 hr=>?_;cases r with|error e=>exact hr|ok fl=>cases fl with
  |ret ob=>
   obtain⟨rfl,rfl⟩:=hr;have hS:(s.heap.push (dE w)).get? s.heap.objs.size=some (dE w):=qP _ rfl;have hT:vB {s with heap:=s.heap.push (dE w)} (.ref s.heap.objs.size) "set":=⟨_,hS,rfl⟩;have k1:=jk.init.lookup;have k2:=jk.init.bind (.ref s.heap.objs.size);repeat(any_goals(first|assumption|wp_step))
   refine wc (yf (R:=wants (λr s2=>r=.none/\∃h' tk,s2={s with heap:=h',toks:=tk}/\GoodH knd h' s.heap.objs.size (metK val items.size) (ledOf w)/\∀b o,b<s.heap.objs.size->s.heap.get? b=some o->h'.get? b=some o) E)
    jk.init.plain F.entry_set_init (check_set_init_1 hT ?_)) λr2 s2 hr2=>?_
   ·obtain⟨ol,g0,c0,nl,d0⟩:=hl;obtain⟨ocl,odc,odt,osl⟩:=ol;dsimp only at c0 d0;subst c0 d0;have g1:(s.heap.push (dE w)).get? l=some {cls:=.type "list",dict:=odc,data:=.seq items nl,slots:=osl}:=qC _ g0;have s1:=F.sub_list_set;have s2:=F.sub_list_frozenset;have ne:(zH "list"==zH "dict")=false:=by decide
    have L1:(s.heap.push (dE w)).IsList l items:=⟨_,g1,rfl,nl,rfl⟩;unfold Builtin.«set.__init__»noKeywords Builtin.Frozenset.updateFrom;generalize hI:QK=PI;wp_walk;subst hI;refine yd L1 (j0 (u0 ?_));have lt:l<s.heap.objs.size:=qN g0;have h3:A.in1.in1.in1.handled=none:=by simp[hh]
    have nI:l≠(s.heap.push (dE w)).objs.size:=by rw[jW];exact qW (jn lt)
    have nf:s.heap.objs.size∉[(s.heap.push (dE w)).objs.size,l]:=by
     rw[jW];intro z;rcases qM.mp z with z|z;·exact absurd z (qW (zF _))
     ·rw[qV]at z;exact absurd z (kJ lt)
    have kq0:∀(c:Addr)(o:Obj)(Y:Array Value)(n:Nat),s.heap.get? c=some o->o.data=.seq Y n->(((s.heap.push (dE w)).push {cls:=.type "list_iterator",data:=.fields #[.ref l,.int 0 0]}).get? c)=some o:=λc o Y n hc _=>qC _ (qC _ hc);refine b5v (knd:=knd) (led:=ledOf w) C hroom ((Walks.list h3 _ l nI items).toS) (λi s1 st c hc o Y m ho hx=>?hW) s.heap.objs.size nf val hb (items.size-0) 0 _ (by omega) (qx _) ⟨⟨_,qP _ rfl,rfl,rfl⟩,L1.push _⟩ (λi v hv=>?hv) ?g0 ?gR;case hW=>rw[qV]at hc;subst hc;obtain⟨⟨o',g',_,d'⟩,_⟩:=st;rw[ho]at g';injection g' with g';subst g';rw[d']at hx;cases hx
    case hv=>obtain⟨b,e1,e2⟩:=hval i v hv;exact⟨b,e1,C.keep e2 kq0⟩
    case g0=>exact(b2S (knd:=knd) s.heap).keeps C (λo e=>qC _ e) λc o Y n hc _=>qC _ hc
    case gR=>
     intro s' mv g' kq';obtain⟨h',gs',dr',tk',os'⟩:=s';obtain rfl:gs'=s.gens:=mv.gens;obtain rfl:dr'=s.drawn:=mv.drawn;obtain rfl:os'=s.os:=mv.os;show wpAny _ _ _ _ _ _;refine j3 ?_;show wpAny _ _ (ret kC) _ _ _;refine j3 ⟨rfl,h',tk',rfl,g',λb o hb' e=>?_⟩;refine mv.heap b o (λz=>?_) (qC _ (qC _ e));rcases qM.mp z with z|z;·exact absurd z (qW hb')
     ·rw[qV,jW]at z;exact absurd z (qW (jn hb'))
   ·cases r2 with|error e=>exact hr2|ok fl2=>
     cases fl2 with|ret r=>
      obtain⟨rfl,h',tk,rfl,g',kp⟩:=hr2;repeat(any_goals(first|assumption|wp_step))
      exact h _ _ g' kp|_=>exact hr2.elim
  |_=>exact hr.elim
end
end L2.TB
namespace L2.HS
open PySem PyProof.Rows
noncomputable def hsh:Nat->q8->Bool|_,.int _=>true|_,.str x=>jD (.str x)|n+1,.tuple O=>O.all (hsh n)|_,_=>false
noncomputable def hD(w:World):Nat->q8->Int|_,.int i=>hashInt i|_,.str x=>hashStr w x|n+1,.tuple O=>reduceHash (jq (O.map (hD w n)))|_,_=>0
noncomputable def drw:Nat->q8->Nat|_,.int _=>1|_,.str _=>1|n+1,.tuple O=>(O.map (drw n)).sum+1|_,_=>0
theorem a2b:∀ n d,hsh n d=true->d.canLay0=true:=by intro n;induction n with
 |zero=>intro d h;cases d<;>first|(simp[hsh]at h;done)|(simp;done)|exact h
 |succ n b=>
  have all:∀O:List q8,O.all (hsh n)=true->zd O=true:=by intro O;induction O with|nil=>intro _;simp[zd]|cons x Y a=>intro h;rw[ja,qE]at h;rw[zd,qE];exact⟨b x h.1,a h.2⟩
  intro d h;cases d with|tuple O=>rw[jD];exact all O h|int i=>simp[jD]|str x=>exact h|_=>simp[hsh]at h
theorem b2P:∀ n d,hsh n d=true->d.depth<=n+1:=by intro n;induction n with
 |zero=>intro d h;cases d<;>first|(simp[hsh]at h;done)|(simp[jS];done)
 |succ n b=>
  have all:∀O:List q8,O.all (hsh n)=true->kX O<=n+1:=by intro O;induction O with|nil=>intro _;simp[kX]|cons x Y a=>intro h;rw[ja,qE]at h;rw[kX];exact Nat.max_le.mpr ⟨b x h.1,a h.2⟩
  intro d h;cases d with|tuple O=>have:=all O h;rw[jS];lia|int i=>simp[jS]|str x=>simp[jS]|_=>simp[hsh]at h
theorem c2z:∀ n m x y,hsh n x=true->hsh m y=true->qv x y=true->x=y:=by intro n;induction n with
 |zero=>intro m x y h d e;cases x<;>first|(simp[hsh]at h;done)|(cases y<;>first|(simp[qv]at e;done)|(cases m<;>simp[hsh]at d;done)|(rw[qv]at e;rw[eq_of_beq e]))
 |succ n g=>intro m x y h d e;cases x with
  |tuple Y=>cases y with
   |tuple c=>cases m with|zero=>simp[hsh]at d|succ m=>
     have all:∀Y c:List q8,Y.all (hsh n)=true->c.all (hsh m)=true->jb Y c=true->Y=c:=by intro Y;induction Y with
      |nil=>intro c _ _ e;cases c with|nil=>rfl|cons _ _=>simp[jb]at e
      |cons a Y f=>intro c h d e;cases c with|nil=>simp[jb]at e|cons b c=>rw[ja,qE]at h d;rw[jb,qE]at e;rw[g m a b h.1 d.1 e.1,f c h.2 d.2 e.2]
     rw[qv]at e;rw[all Y c h d e]
   |_=>simp[qv]at e
  |int i=>cases y<;>first|(simp[qv]at e;done)|(cases m<;>simp[hsh]at d;done)|(rw[qv]at e;rw[eq_of_beq e])
  |str i=>cases y<;>first|(simp[qv]at e;done)|(cases m<;>simp[hsh]at d;done)|(rw[qv]at e;rw[eq_of_beq e])
  |_=>simp[hsh]at h
theorem a9L:∀ n d v(as:T0o) A(E:T0a) s Q,hsh n d=true->Reads s.heap v d as->A.units+n<cLine->Q (hD w n d) {s with toks:=s.toks+drw n d}->wpAny (model prog w) A (pyHash v) Q E s:=by intro n;induction n with
 |zero=>intro d v as A E s Q h r I q;cases r with|int i t=>exact QE q|str x t=>exact QF q|_=>simp[hsh]at h
 |succ n H=>intro d v as A E s Q h r I q;cases r with|int i t=>exact QE q|str x t=>exact QF q|@tuple a o L M O as G C K J=>
   have u:s.TypeIs (.ref a) "tuple":=⟨o,G,C⟩;first|unfold pyHashByItsType|skip
   first|refine j0 (wpAny_cRoomFor_or (.inr (by lia)) ?_)|skip
   refine j0 (yp u ze.lookup ?_);rw[if_neg (by rw[beq_builtin_none];exact qf)];refine j0 (yp u ze.lookup ?_);refine j0 (wpAny_callSpecialIfBoundUnlessNone?_slot u ze (v8 ze u F.entry_tuple_hash ?_ (F.args_tuple_hash_1 _)));show wpAny _ _ (Builtin.Tuple.tupleItemsOf (.ref a)>>=_) _ _ s;refine j0 (wpAny_tupleItemsOf G K ?_);refine j0 ?_;rw[<-zz];refine uc _
    (λrest(b:Array Int)y=>∃c e bs,O=c++e/\yb s.heap rest e bs/\e.all (hsh n)=true/\b.toList=c.map (hD w n)/\y={s with toks:=s.toks+(c.map (drw n)).sum})
    _ ?_ ?_ _ _ ⟨[],O,_,rfl,J,h,rfl,rfl⟩;·rintro x rest b y⟨c,e,bs,rfl,z,j,D,rfl⟩;cases z with|@cons _ _ k f _ _ B g=>rw[ja,qE]at j;refine j0 (H k x _ _ _ _ _ j.1 B (by show A.units+1+n<cLine;lia) ?_);first|exact j3 ⟨c++[k],f,_,by simp,g,j.2,by simp[D],by simp[wD]⟩|exact j0 (j3 (j3 ⟨c++[k],f,_,by simp,g,j.2,by simp,by simp⟩))
   ·rintro b y⟨c,e,bs,rfl,z,j,D,rfl⟩;cases z;rw[jd]at q;show wpAny _ _ (retInt (jq b.toList)) _ _ _;rw[D];refine wpAny_ret_mkInt ?_;show wpAny _ _ (if(decide (-(2:Int)^63<=jq (c.map (hD w n)))&&decide (jq (c.map (hD w n))<2^63))=true then _ else _) Q E _;have q:Q (reduceHash (jq (c.map (hD w n)))) {s with toks:=s.toks+((c.map (drw n)).sum+1)}:=q;unfold reduceHash at q;by_cases p:(decide (-(2:Int)^63<=jq (c.map (hD w n)))&&decide (jq (c.map (hD w n))<2^63))=true;·rw[if_pos p];rw[if_pos p]at q;exact j3 (by exact q)
    ·rw[if_neg p];rw[if_neg p]at q;exact j0 (w9 (j3 (by exact q)))|_=>simp[hsh]at h
theorem a7q:∀ n m d v(as:T0o) A(E:T0a) s Q,n<=m->hsh n d=true->Reads s.heap v d as->Q true s->wpAny (model prog w) A (eqIsQuiet m v) Q E s:=by intro n;induction n with
 |zero=>intro m d v as A E s Q D h r q;cases r with|int i t=>rw[yy _ rfl];exact j3 q|str x t=>rw[yy _ rfl];exact j3 q|_=>simp[hsh]at h
 |succ n C=>intro m d v as A E s Q D h r q;cases r with|int i t=>rw[yy _ rfl];exact j3 q|str x t=>rw[yy _ rfl];exact j3 q|@tuple a o J M O as u p I H=>
   obtain⟨m,rfl⟩:∃z,m=z+1:=⟨m-1,by lia⟩;have y:s.TypeIs (.ref a) "tuple":=⟨o,u,p⟩;unfold eqIsQuiet;refine j0 (yp y F.slot_tuple_eq.lookup ?_);refine j0 (ud y isSubtype_tuple_tuple ?_);simp only[if_false];refine j0 (yj u I ?_);refine j0 ?_;rw[<-zz];refine uc _ (λrest r c=>r.1=none/\c=s/\∃b bs,yb s.heap rest b bs/\b.all (hsh n)=true) _ ?_ ?_ _ _ ⟨rfl,rfl,O,_,H,h⟩;·rintro v rest r c⟨f,rfl,b,bs,G,j⟩;cases G with|@cons _ _ k e _ _ B g=>rw[ja,qE]at j;refine j0 (C m k v _ _ _ _ _ (by lia) j.1 B ?_);simp only[kW,if_false];exact j3 ⟨rfl,rfl,e,_,g,j.2⟩
   ·rintro⟨L,K⟩c⟨f,rfl,_⟩;simp only at f;subst f;exact j3 q|_=>simp[hsh]at h
theorem a9a{d:Addr}{o:Obj}{es:Array DictEntry}(p:h.get? d=some o)(q:o.data=.dict es ep)(hs:jx d h h'):∀ n x v(as:T0o),hsh n x=true->Reads h v x as->Reads h' v x as:=by intro n;induction n with
 |zero=>intro x v as b r;cases r with|int i t=>exact .int i t|str x t=>exact .str x t|_=>simp[hsh]at b
 |succ n k=>
  have all:∀(Y:T0l)(c:T0m)(as:T0o),Y.all (hsh n)=true->yb h c Y as->yb h' c Y as:=by intro Y;induction Y with|nil=>intro c as _ r;cases r;exact .nil|cons x Y e=>intro c as b r;rw[ja,qE]at b;cases r with|cons r j=>exact .cons (k _ _ _ b.1 r) (e _ _ b.2 j)
  intro x v as b r;cases r with|int i t=>exact .int i t|str x t=>exact .str x t|@tuple a w c y O as g u f s=>
   have ne:a≠d:=λz=>by subst z;rw[p]at g;cases g;rw[q]at f;cases f
   exact .tuple ((hs.2 a ne).trans g) u f (all _ _ _ b s)|_=>simp[hsh]at b
noncomputable instance pyDec:DecidableEq q8:=λa b=>Classical.propDecidable (a=b)
def nest(prog:Program)(w:World):uj prog w q8 where
 is:=λh d a=>hsh 4 d=true/\∃as,Reads h (.ref a) d as;hash:=hD w 4;draws:=drw 4;room:=λA=>A.units+8<cLine;inj:=λ⟨B,as,r1⟩⟨h2,bs,r2⟩=>SeqAt.Reads.unique _ _ _ _ _ (a2b _ _ B) r1 r2;keeps:=λ⟨B,as,r1⟩ho hd hs=>⟨B,as,a9a ho hd hs 4 _ _ _ B r1⟩;pyHash:=λhu⟨B,as,r1⟩q=>a9L 4 _ _ _ _ _ _ _ B r1 (by omega) q;eqBool:=λ{A E s x y a b Q}hu⟨B,as,r1⟩⟨h2,bs,r2⟩q=>by
  have d1:=b2P 4 _ B;have hmn:min x.depth y.depth<=x.depth:=Nat.min_le_left _ _;refine SeqAt.eqAt_reads x y A s _ _ as bs r1 r2 (a2b _ _ B) (a2b _ _ h2) (by omega) prog w E Q ?_;have e:qv x y=decide (x=y):=by
   by_cases c:x=y;·rw[decide_eq_true c,<-c];exact SeqAt.eqv_refl x (a2b _ _ B)
   ·rw[decide_eq_false c];cases z:qv x y with|false=>rfl|true=>exact absurd (c2z 4 4 x y B h2 z) c
  rw[e];exact q
 quiet:=λ⟨B,as,r1⟩q=>a7q 4 8 _ _ _ _ _ _ _ (by decide) B r1 q
end L2.HS
namespace L2.TB
open PySem PySem.SetTable L2.SX PyProof.Rows L2.HS
theorem b3m:∀ n m d v(as:T0o) A(E:T0a) s Q,n<=m->hsh n d=true->Reads s.heap v d as->Q false s->wpAny (model prog w) A (wo m v) Q E s:=by intro n;induction n with
 |zero=>intro m d v as A E s Q C h r q;cases r with|int i t=>unfold wo;exact j3 q|str x t=>unfold wo;exact j3 q|_=>simp[hsh]at h
 |succ n z=>intro m d v as A E s Q C h r q;cases r with|int i t=>unfold wo;exact j3 q|str x t=>unfold wo;exact j3 q|@tuple a o I L O as u p G F=>
   obtain⟨m,rfl⟩:∃y,m=y+1:=⟨m-1,by lia⟩;have H:s.TypeIs (.ref a) "tuple":=⟨o,u,p⟩;unfold wo;refine j0 (ya H ?_);simp only[↓reduceIte];refine j0 (j3 ?_);simp only[kW,↓reduceIte];refine j0 (yj u G ?_);refine j0 ?_;rw[<-zz];refine uc _ (λrest r c=>r.1=none/\c=s/\∃b bs,yb s.heap rest b bs/\b.all (hsh n)=true) _ ?_ ?_ _ _ ⟨rfl,rfl,O,_,F,h⟩;·rintro v rest r c⟨f,rfl,b,bs,D,j⟩;cases D with|@cons _ _ k e _ _ B g=>rw[ja,qE]at j;refine j0 (z m k v _ _ _ _ _ (by lia) j.1 B ?_);simp only[qi,if_false];exact j3 ⟨rfl,rfl,e,_,g,j.2⟩
   ·rintro⟨K,J⟩c⟨f,rfl,_⟩;simp only at f;subst f;exact j3 q|_=>simp[hsh]at h
theorem b1N:∀ n m d v(as:T0o) A(E:T0a) s Q,n<=m->hsh n d=true->Reads s.heap v d as->(∀b,Q b s)->wpAny (model prog w) A (yu m v) Q E s:=by intro n;induction n with
 |zero=>intro m d v as A E s Q D h r q;cases r with|int i t=>unfold yu;exact j3 (q _)|str x t=>unfold yu;exact j3 (q _)|_=>simp[hsh]at h
 |succ n C=>intro m d v as A E s Q D h r q;cases r with
  |int i t=>unfold yu;exact j3 (q _)|str x t=>unfold yu;exact j3 (q _)|@tuple a o J L O as u p H G=>
   obtain⟨m,rfl⟩:∃z,m=z+1:=⟨m-1,by lia⟩;have I:s.TypeIs (.ref a) "tuple":=⟨o,u,p⟩;refine j0 (yp I ze.lookup ?_);refine j0 (yj u H ?_);refine j0 ?_;rw[<-zz];refine uc _ (λrest r e=>e=s/\∃c bs,yb s.heap rest c bs/\c.all (hsh n)=true) _ ?_ ?_ _ _ ⟨rfl,O,_,G,h⟩;·rintro v rest r e⟨rfl,c,bs,F,j⟩;cases F with|@cons _ _ k f _ _ B g=>
     rw[ja,qE]at j;refine j0 (C m k v _ _ _ _ _ (by lia) j.1 B λb=>?_);cases b;·exact j3 (j3 (q _))
     ·exact j3 ⟨rfl,f,_,g,j.2⟩
   ·rintro⟨y,K⟩e⟨rfl,_⟩;cases y with|none=>exact j3 (q _)|some b=>exact j3 (q _)
  |_=>simp[hsh]at h
theorem a9G(g:∀ c o Y n,h.get? c=some o->o.data=.seq Y n->h'.get? c=some o):∀ n x v(as:T0o),hsh n x=true->Reads h v x as->Reads h' v x as:=by intro n;induction n with
 |zero=>intro x v as a r;cases r with|int i t=>exact .int i t|str x t=>exact .str x t|_=>simp[hsh]at a
 |succ n j=>
  have all:∀(Y:T0l)(b:T0m)(as:T0o),Y.all (hsh n)=true->yb h b Y as->yb h' b Y as:=by intro Y;induction Y with|nil=>intro b as _ r;cases r;exact .nil|cons x Y d=>intro b as a r;rw[ja,qE]at a;cases r with|cons r f=>exact .cons (j _ _ _ a.1 r) (d _ _ a.2 f)
  intro x v as a r;cases r with|int i t=>exact .int i t|str x t=>exact .str x t|tuple q p e k=>exact .tuple (g _ _ _ _ q e) p e (all _ _ _ a k)|_=>simp[hsh]at a
theorem uE:Calm (nest prog w)where cls:=λ⟨B,as,a⟩q=>b3m 4 8 _ _ _ _ _ _ _ (by decide) B a q;val:=λ⟨B,as,a⟩q=>b1N 4 8 _ _ _ _ _ _ _ (by decide) B a q;keep:=λ⟨B,as,a⟩b=>⟨B,as,a9G b 4 _ _ _ B a⟩
end L2.TB
namespace L2.TB
open PySem PySem.SetTable L2.SX PyProof.Rows L2.HS L2.L3
theorem Rows.perm(j:us.Perm vs):∀{O:_},Rows h vs O->∃c,Rows h us c/\c.Perm O:=by induction j with
 |nil=>intro O r;exact⟨O,r,.refl _⟩|cons v _ f=>intro O r;cases r with|cons B d=>obtain⟨c,a,b⟩:=f d;exact⟨_::c,.cons B a,.cons _ b⟩
 |swap x y l=>intro O r;cases r with|cons B d=>cases d with|cons o k=>exact⟨_,.cons o (.cons B k),.swap ..⟩
 |trans _ _ i g=>intro O r;obtain⟨u,t,q⟩:=g r;obtain⟨e,s,p⟩:=i t;exact⟨e,s,p.trans q⟩
theorem a4B{vs:T0m}{O:T0l}(r:Rows h vs O):∀L:List Nat,(∀i∈L,i<vs.length)->Rows h (L.map λi=>vs.getD i .none) (L.map λi=>O.getD i .none)|[],_=>.nil|i::L,hL=>by obtain⟨as,e⟩:=r.at i (hL i (by simp));exact .cons e (a4B r L λj a=>hL j (qF _ a))
theorem b4j(r:Rows h vs O):O.length=vs.length:=r.len.symm
def a4K(S:Addr->Prop)(prog:Program)(w:World):uj prog w q8 where is:=λh d a=>(nest prog w).is h d a/\S a;hash:=(nest prog w).hash;draws:=(nest prog w).draws;room:=(nest prog w).room;inj:=λB h2=>(nest prog w).inj B.1 h2.1;keeps:=λB ho hd hs=>⟨(nest prog w).keeps B.1 ho hd hs,B.2⟩;pyHash:=λhu B q=>(nest prog w).pyHash hu B.1 q;eqBool:=λhu B h2 q=>(nest prog w).eqBool hu B.1 h2.1 q;quiet:=λB q=>(nest prog w).quiet B.1 q
section
variable{S:Addr->Prop}
theorem a9o:Calm (a4K S prog w)where cls:=λh q=>uE.cls h.1 q;val:=λh q=>uE.val h.1 q;keep:=λh a=>⟨uE.keep h.1 a,h.2⟩
theorem a7n{h:Heap}:∀(es:List (Int×Value)),b9Y (a4K S prog w) h es->∃O,Rows h (es.map (·.2)) O/\(∀e∈es,∀ b k,e.2=.ref b->(a4K S prog w).is h k b->k∈O)/\∀v∈es.map (·.2),∃b,v=.ref b/\S b
 |[],_=>⟨[],.nil,(λe a=>nomatch a),λe a=>nomatch a⟩|e::es,hE=>by
  obtain⟨O,r,m,j⟩:=a7n es λx s=>hE x (qF _ s);obtain⟨b,k,f,i,_⟩:=hE e (by simp);obtain⟨⟨z,as,p⟩,o⟩:=id i;refine⟨k::O,?_,λt a u q c g=>?_,λv d=>?_⟩;·rw[qI,f];exact .cons p r
  ·obtain rfl|a:=qM.mp a;·rw[f]at c;injection c with c;subst c;rw[(a4K S prog w).inj g i];exact qa
   ·exact qF _ (m t a u q c g)
  ·rw[qI]at d;obtain rfl|d:=qM.mp d;·exact⟨b,f,o⟩
   ·exact j v d
theorem a7c{ks:T0l}{z:Bool}{C:List Bool}(hh:A.handled=none)(g:GoodH (a4K S prog w) s.heap a ks (ledOf w))(few:ks.length<64)(hs:∀d∈ks,dU (z::C) d=true)(h:∀ h' d' tk(D:Addr) c e,(U9 s.heap h')->s.heap.objs.size<=D->h'.get? D=some (v7 "list" c e)->Rows s.heap c.toList (iT ks)->(∀v∈c.toList,∃b,v=.ref b/\S b)->Q (.ref D) {s with heap:=h',drawn:=d',toks:=tk}):wpAny (model prog w) A (call (.builtin "sorted") [.ref a]) Q E s:=by
 obtain⟨o,es,ep,t,ho,hx,M,hE,hm,y,T,u,_⟩:=g.ex;obtain⟨O,r,m,ss⟩:=a7n es.toList hE;have dl:O.length=ks.length:=by rw[b4j r,qD,qJ,y]
 have I:=a5Q ks O g.nd (λk K=>by obtain⟨e,he,b,q1,q2⟩:=(hm k).mp K;exact m e he b k q1 q2) dl;refine sorted_set (Out:=λc=>Rows s.heap c.toList (iT ks)/\∀v∈c.toList,∃b,v=.ref b/\S b) hh ⟨⟨o,ho,hx.1,M⟩,T.fits⟩ ⟨u,λ_=>T.pl.rise⟩ (by rwa[y]) (λA' E' s' l vs n P X J K q=>?_) λh' d' tk D c e x1 x2 x3 N=>h h' d' tk D c e x1 x2 x3 N.1 N.2;obtain⟨G,F,H⟩:=Rows.perm X r;have j:∀d∈G,dU (z::C) d=true:=λd M=>hs d ((H.trans I).mem_iff.mp M);have vl:=F.len;refine sW J F K j (by rwa[vl,(H.trans I).length_eq]) λp pm e=>?_;have e2:=a1Q (g:=z::C) ((fM G).trans (H.trans I)) hs (mY (g:=z::C) G j);have f:∀i∈p.toList,i<vs.length:=λi L=>by have:=(zq.mp pm.perm).mem_iff.mp L;rw[jc]at this;rw[vl];exact jO.mp this
 refine q _ ⟨?_,λv R=>?_⟩;·rw[jc,<-e2,<-e];exact a4B F _ f
 ·rw[jc]at R;obtain⟨i,L,rfl⟩:=qK.mp R;have y:=f i L;refine ss _ (X.mem_iff.mp ?_);rw[qT,qG y];exact jR y
end
end L2.TB
namespace L2.L3
open PySem PySem.Spec PyProof.Rows L2.HS L2.TB
def uN(O:T0l):List q8:=SX.metK (λi=>O.getD i .none) O.length
def a6Z(d:q8):Option q8:=match d with|.list (x::Y)=>(match c3C x with|some (k::g)=>if(x::Y).all (dU (k::g))&&(x::Y).all (hsh 4)&&decide ((x::Y).length<40)then some (.list (iT (uN (x::Y))))else none|_=>none)|.list []=>some (.list [])|_=>none
theorem a2W(val:Nat->q8):∀n,∀d∈SX.metK val n,∃i,i<n/\d=val i
 |0,d,h=>by simp[SX.metK]at h|n+1,d,h=>by
  rw[SX.metK_succ]at h;unfold SX.addK at h;split at h;·obtain⟨i,a,e⟩:=a2W val n d h;exact⟨i,by omega,e⟩
  ·obtain h|h:=qX.mp h;·obtain⟨i,a,e⟩:=a2W val n d h;exact⟨i,by omega,e⟩
   ·exact⟨n,by lia,by simpa using h⟩
theorem yS(h:d∈uN O):d∈O:=by obtain⟨i,a,rfl⟩:=a2W _ _ d h;rw[qT,qG a];exact jR a
def c0R(K:qB)(t:TA):TE:=λU H Q=>t U H λvs H1=>∃(p:Addr)(G:Hp)(us:List V)(O:T0l)(k:Bool)(g:List Bool),vs=[.ref p]/\aT G H1/\SqL K H1 p us/\RepAll K G us O/\(∀d∈O,dU (k::g) d=true)/\(∀d∈O,hsh 4 d=true)/\O.length<40/\∀ l ys,H1 l=none->RepAll K G ys (iT (uN O))->Q (.ref l) (upd H1 l (.lst ys))
theorem b4F{t:TA}(hc:X.calm=true)(hu:X.A.units+64<cLine)(B:Gl X "sorted")(m1:X.mg "sorted"=none)(h2:Gl X "set")(m2:X.mg "set"=none)(b2:wl "set"=some (.type "set"))(ha:PA X [e] t)(he:j4 [e] X.env=(false,eval e X.env)::j4 [] X.env)(P:j4 [.Call (.Name "set" p2) [e] [] pos2] X.env=(false,eval (.Call (.Name "set" p2) [e] [] pos2) X.env)::j4 [] X.env)(L:∀q,U6 X q [])(hn:∀q,j8 q (j4 [] X.env)=[]):PE X (.Call (.Name "sorted" p) [.Call (.Name "set" p2) [e] [] pos2] [] pos) (c0R X.K t):=by
 intro pz s U H Q I h;refine j9 (sZ I B m1 yt ?_);refine callWith_builtin1 ?_ P (L _);rw[P];show wpAny _ _ (spliced ((false,eval (.Call (.Name "set" p2) [e] [] pos2) X.env)::j8 pos (j4 [] X.env))) _ _ s;rw[hn];refine zA (j9 (sZ I h2 m2 b2 ?_));refine callWith_type1 (thn (ha pos2 pz s U H _ I h) ?_) he (L _);rintro j s1⟨C,H1,J,r1,qq⟩;obtain⟨a,G,j,O,k,g,e1,sG,hq,rr,hs,hh,h40,q⟩:=qq;subst e1;obtain⟨u,rfl,rx⟩:=vals1 r1;cases rx;obtain⟨f,rv,pl,hz⟩:=J.list hq;have hd:=J.ok.hd hc;have l1:=rr.len;have l2:=rv.length;have rd:=a5I J (rr.mono sG) rv;have S:∀(i:Nat)(v:Value),f[i]?=some v->∃b,v=.ref b/\j[i]?=some (.ref b)/\(nest X.prog X.w).is s1.heap (O.getD i .none) b/\Rep X.K G (.ref b) (O.getD i .none):=λi v F=>by
  have hi:=(qR.mp F).1;have N:i<O.length:=by lia
  have hm:O.getD i .none∈O:=by rw[qT,qG N];exact jR N
  have r0:=rr.at i (by omega);have E:=bH.at' rv i (by omega);have ev':f.getD i .none=v:=by rw[qT,F];rfl
  have eu:j[i]?=some (j.getD i .non):=by rw[qT,qG (show i<j.length by omega)];rfl
  rw[ev']at E;obtain⟨as,ra⟩:=(r0.mono sG).reads J E;have K:=hs _ hm;generalize O.getD i .none=d at*;generalize j.getD i .non=y at*;cases r0 with|tuple hq0 r0'=>obtain rfl:v=.ref _:=E;exact⟨_,rfl,eu,⟨hh _ hm,as,ra⟩,.tuple hq0 r0'⟩|_=>cases K
 refine b7z (knd:=a4K (λb=>V.ref b∈j) X.prog X.w) (val:=λi=>O.getD i .none) a9o hd (show X.A.in1.in1.in1.units+8<cLine by show X.A.units+1+1+1+8<cLine;lia) pl.isList (λi v F=>?_) (by rw[qS];lia) λh' tk gh kp=>?_;·obtain⟨b,rfl,x1,x2,x3⟩:=S i v (by simpa using F);exact⟨b,rfl,x2,kA x1⟩
 ·have hsz:f.toArray.size=O.length:=by rw[qS];lia
  rw[hsz]at gh;have gl:(uN O).length<64:=kg (SX.metK_len _ _) (by exact Q3 ‹_› rfl);refine zJ (a7c hd gh gl (λd A=>hs d (yS A)) λh2 d2 tk2 D out ep k2 hs2 ho M hS=>?_);have kk:∀b o,s1.heap.get? b=some o->h2.get? b=some o:=λb o z=>k2 b o (kp b o (qN z) z);obtain⟨so,_,_,_,hso,_⟩:=gh.ex;have lt:=qg (jP (qN hso)) hs2;have hf:=J.hok.fresh lt;have mk:∀(C:T0m)(R:T0l),Rows h' C R->(∀v∈C,∃b,v=.ref b/\V.ref b∈j)->(∀d∈R,d∈O)->∃w:List V,bH w C/\RepAll X.K G w R:=by intro C R r;induction r with|nil=>intro _ _;exact⟨[],.nil,.nil⟩|@cons v C d R as r1 r2 ih=>
    intro hv he;obtain⟨w,y1,T⟩:=ih (λv h=>hv v (qF _ h)) λd h=>he d (qF _ h);obtain⟨b,rfl,hb⟩:=hv _ qa;obtain⟨i,hi⟩:=vn hb;have hil:=(qR.mp hi).1;have E:=bH.at' rv i hil;have eu:j.getD i .non=.ref b:=by rw[qT,hi];rfl
    rw[eu]at E;have F:f[i]?=some (.ref b):=by have:=show f.getD i .none=.ref b from E;rw[qT,qG (show i<f.length by omega)]at this;rw[qG (show i<f.length by omega)];exact congrArg some this
    obtain⟨b',e',x1,x2,x3⟩:=S i _ F;cases e';have x4:=uE.keep x2 (h':=h') λc o Y n z _=>kp c o (qN z) z;have:d=O.getD i .none:=(nest X.prog X.w).inj ⟨hh d (he d qa),_,r1⟩ x4;subst this;exact⟨.ref b::w,.cons rfl y1,.cons x3 T⟩
  obtain⟨w,y1,T⟩:=mk _ _ M hS λd A=>yS ((fM _).mem_iff.mp A);refine⟨.ref D,_,Inv.draws (J.laid (t':=tk2) (a:=D) (o:=.lst w) kk lt ⟨?_,out.toList,ep,y1,?_⟩),rfl,q _ w hf T⟩;·rw[T.len,(fM _).length_eq];exact jP (oN (qg (jP gl) (by decide:64<=1000)))
  ·rw[ho]
theorem a3s:iT (uN [])=[]:=by have:uN []=[]:=rfl;rw[this];exact vK.mp (fM []).length_eq
theorem b6z(D:X.calm=true)(hu:X.A.units+64<cLine)(C:X.mg "sorted"=none)(A:X.mg "set"=none)(E:DE X e fa)(B:Gl X "sorted":=by rfl)(F:Gl X "set":=by rfl)(u:j4 [e] X.env=(false,eval e X.env)::j4 [] X.env:=by rfl)(o:j4 [.Call (.Name "set" p2) [e] [] pos2] X.env=(false,eval (.Call (.Name "set" p2) [e] [] pos2) X.env)::j4 [] X.env:=by rfl):DE X (.Call (.Name "sorted" p) [.Call (.Name "set" p2) [e] [] pos2] [] pos) (op1 a6Z fa):=⟨λz s U H Q I⟨Z,r,N,P,G,J,R,q⟩=>b4F D hu B C F A boot_set (dC E.run fE u) u o (λ_=>rfl) (λ_=>rfl) z s U H Q I (bE R J q.x λx v w M b L t K=>by
  obtain⟨d,c,rfl⟩:=bL K;unfold a6Z at c;split at c
  ·rename_i x Y;split at c
   ·rename_i k g _;split at c;·rename_i a;rw[qE,qE]at a;cases(qA c);cases t with|list j r=>exact⟨_,w,_,_,k,g,rfl,b.sub,b.sub.seq j,r,λd h=>qp.mp a.1.1 d h,λd h=>qp.mp a.1.2 d h,of_decide_eq_true a.2,λl y f i=>q _ _ _ (b.trans (.put b.sub f)) (.list (.of aJ) (i.mono (Grow.put b.sub f).gg))⟩
    ·cases c
   ·cases c
  ·cases(qA c);cases t with|list j r=>exact⟨_,w,_,_,true,[],rfl,b.sub,b.sub.seq j,r,λd h=>(nomatch h),λd h=>(nomatch h),by decide,λl y f i=>q _ _ _ (b.trans (.put b.sub f)) (.list (.of aJ) (by rw[a3s]at i;exact i.mono (Grow.put b.sub f).gg))⟩
  ·cases c)⟩
end L2.L3
namespace L2.L3
open PySem PySem.Spec PyProof.Rows
theorem b3k:DE X (.Dict [] [] pos) (cst (.dict [])):=⟨by rintro a s U H Q I⟨Z,r,c,d,G,e,R,q⟩;cases(qA e);exact a7x a s U H Q I λl b=>q _ _ _ (.put R.sub b) (.dict (kvs:=[]) (.inl aJ) rfl .nil)⟩
open Classical in noncomputable def mask(G H G2:Hp):Hp:=λb=>if G b=none/\((∃Y,H b=some (.lst Y))\/∃kvs,H b=some (.dK kvs))then none else G2 b
section
variable{cap:T0e}
end
def Itk(a:Addr)(o:Obj)(kvs:List (Key×V)):It where go i H:=H a=some (.frz o (.dK kvs))/\i<kvs.length;yld i H x H':=H'=H/\(kvs[i]?).map (λp=>kV p.1)=some x;stop i H:=H a=some (.frz o (.dK kvs))/\kvs.length<=i
variable{o:Obj}{vs:List (Key×Value)}
theorem b1P{K:qB}(q:KV kvs vs)(lo:(a==wg)=false)(hne:a≠it)(T:∀h:Heap,h.get? a=some o->h.DictAt (bI P w) a vs ep):Turn P w K tg (Itk a o kvs) [it] it (λi h=>h.IsKeyIter it a i vs.length ep)where
 mem:=by simp
 obj:=λi h f b g=>by
  have e:b=it:=by simpa using g
  subst e;obtain⟨o,e,c,d⟩:=f;exact⟨o,e,λv z=>by rw[d]at z;cases z⟩
 keep:=λi h L f k=>by obtain⟨o,e,r⟩:=f;exact⟨o,k it (by simp) o e,r⟩
 item:=by intro X G A J hc i pz s U H E I t f D;subst G A J;obtain⟨F,C⟩:=D;have j:=T _ (show s.heap.get? a=some o/\_ from I.hok a _ F).1;obtain⟨u,hu,ru⟩:=c4c q (qG C);obtain⟨S,R,f2,Q,N,M⟩:=t it (by simp);refine wpAny_pyNext_dict_item f j hu λy L hk p sb=>?_;have I1:=I.turned (t':=s.toks) (λb o g e=>(sb.2 b g).trans e) S R Q N M;obtain⟨o1,e,c,d⟩:=id p;exact⟨y,rfl,b1h (s:={s with heap:=L}) e c d (by decide) ⟨_,H,I1,c0r hk,⟨rfl,by rw[qG C];rfl⟩,p,λb g=>(t b g).1⟩⟩
 done:=by intro X G A J hc i pz s U H E I t f D;subst G A J;obtain⟨F,C⟩:=D;have j:=T _ (show s.heap.get? a=some o/\_ from I.hok a _ F).1;obtain⟨S,R,f2,Q,N,M⟩:=t it (by simp);have hl:=q.length;exact wpAny_pyNext_dict_end (I.ok.hd hc) f j (by simp;lia) λL eb=>⟨rfl,I.turned (t':=s.toks) (λb o g e=>eb b o g e) S R Q N M⟩
 self:=λ_ _ _ _ _ f h=>wpAny_pyIter_keyiter f h
section
variable{o:Expr}
def c4i(td:TE):TI:=λU H R=>td U H λv H1=>∃a ob kvs,v=.ref a/\H1 a=some (.frz ob (.dK kvs))/\R (Itk a ob kvs) H1
theorem b7W(ho:PE X o td):PI X tg o (c4i td):=by
 intro pz s U H R I h;refine thn (ho pz s U H _ I h) ?_;rintro u s1⟨x,H1,I1,rx,a,ob,kvs,ex,ha,q1⟩;subst ex;obtain rfl:u=qr a:=rx;obtain⟨hob,z,lo,vs,rel,dd⟩:=(show s1.heap.get? a=some ob/\kvs.length<=j5/\(a==wg)=false/\∃vs,KV kvs vs/\s1.heap.DictOf (bI X.prog X.w) a vs from I1.hok a _ ha);obtain⟨ep,dat⟩:=dd.dictAt;have hd:∀h:Heap,h.get? a=some ob->h.DictAt (bI X.prog X.w) a vs ep:=λh e=>by obtain⟨o1,es,e1,r⟩:=dat;rw[hob]at e1;cases e1;exact⟨ob,es,e,r⟩
 refine wpAny_pyIter_dict (knd:=bI X.prog X.w) lo dat ?_;refine⟨_,[_],_,_,H1,rfl,I1.kept (t':=s1.toks) λb o e=>qC _ e,b1P rel lo (qW (qN hob)) hd,⟨_,qP _ rfl,rfl,rfl⟩,λb hb=>?_,q1⟩;obtain rfl:=qV.mp hb;exact I1.fpOk (qQ _) (I1.hok.fresh (qQ _))
end
theorem b1M{K:qB}(f:G a=some (.frz o (.dK kvs))):Walk K (Itk a o kvs) G (kvs.map λp=>cD p.1):=by
 intro i j t c b;refine⟨λd e=>?_,λh=>⟨b _ _ (c _ _ f),by simpa using h⟩⟩;have q:i<kvs.length:=by simpa using(qR.mp e).1
 obtain⟨v,g,k⟩:=(a2G (K:=K) (G:=j) kvs).get e;refine⟨⟨b _ _ (c _ _ f),q⟩,?_⟩;rintro x s⟨r,y⟩;subst r;rw[qO]at g;rw[g]at y;cases y;exact⟨j,.refl b,k⟩
section
variable{cap:T0e}
end
def b7e(kvs:List (Key×V))(o:HO):Prop:=o=.dK kvs\/∃ob,o=.frz ob (.dK kvs)
variable{o1:HO}
theorem a5K(h:Rd G a (.dK kvs))(B:b7e kvs o1){t:Addr}{u:HO}(hu:∀ob x,u≠.frz ob x)(r:Rd G t u):Rd (upd G a o1) t u:=by
 by_cases e:t=a
 ·subst e;have q:u=.dK kvs:=by
   obtain h|⟨ob,h⟩:=h<;>obtain r|⟨b,r⟩:=r<;>rw[h]at r;·exact(qA r).symm
   ·cases r
   ·exact absurd (qA r).symm (hu _ _)
   ·cases r;rfl
  subst q;obtain rfl|⟨ob,rfl⟩:=B;·exact .inl aJ
  ·exact .inr ⟨ob,aJ⟩
 ·unfold Rd;rwa[aE e]
section
variable{K:qB}
mutual theorem Rep.swap(h:Rd G a (.dK kvs))(B:b7e kvs o1):∀{v:V}{d:q8},Rep K G v d->Rep K (upd G a o1) v d|_,_,.none=>.none|_,_,.bool b=>.bool b|_,_,.int i=>.int i|_,_,.str x=>.str x|_,_,.list q r=>.list (q.imp (λz=>a5K h B (λ_ _ y=>by cases y) z) id) (RepAll.swap h B r)|_,_,.tuple q r=>.tuple (q.imp (λz=>a5K h B (λ_ _ y=>by cases y) z) id) (RepAll.swap h B r)|_,_,.dict q e r=>.dict (a5K h B (λ_ _ y=>by cases y) q) e (RepAll.swap h B r)theorem RepAll.swap(h:Rd G a (.dK kvs))(B:b7e kvs o1):∀{vs:List V}{O:T0l},RepAll K G vs O->RepAll K (upd G a o1) vs O|_,_,.nil=>.nil|_,_,.cons r t=>.cons (Rep.swap h B r) (RepAll.swap h B t)end
end
noncomputable def xX(Z:List Ent):List Ent:=Z.map λe=>match e with|.val d=>.val d|_=>.no
theorem b0A{e:Ent}(h:(xX Z)[i]?=some e):(∃d,Z[i]?=some (.val d)/\e=.val d)\/e=.no:=by unfold xX at h;rw[qO]at h;cases q:Z[i]? with|none=>rw[q]at h;cases h|some a=>rw[q]at h;have:=qA h;cases a with|val d=>exact .inl ⟨d,rfl,this.symm⟩|_=>exact .inr this.symm
def b6G(k:Nat)(t:Tg)(cap:T0e)(ft:TF)(fe:EF):EF:=λZ=>match Z[k]? with|some (.val (.dict D))=>if dI D.length then(match sU t (cJ cap (xX Z)) ft fe (D.map (·.1))with|some es=>some (.ok (.list es))|none=>none)else none|_=>none
theorem RepS.vals{K:qB}(R:RepS K H0 Gz G H U Z)(s:aT G1 H1)(t:iX K G1 H1)(r:∀{a:V}{b:q8},Rep K G a b->Rep K G1 a b):RepS K H1 G1 G1 H1 U (xX Z):=by
 refine⟨.refl s,by unfold xX;rw[qD];exact R.len,λi o e B g=>?_,Inj.free λi e h=>?_,t⟩
 ·obtain⟨d,f,rfl⟩|rfl:=b0A g;·obtain⟨v,e,c⟩:=R.ent i o _ B f;exact⟨v,e,r c⟩
  ·trivial
 ·obtain⟨d,_,rfl⟩|rfl:=b0A h<;>rfl
section
variable{cap:T0e}
theorem b6C k{x:Str}(hc:X.calm=true)(B0:Blk X scope N' cap)(hf:a2m cap t=true)(hg:∀C i j fp,DG (cB X scope N' C i j fp) tg t)(ht:∀C i j fp,DTs (cB X scope N' C i j fp) ifs ft)(he:∀C i j fp,DE (cB X scope N' C i j fp) elt fe)(hk:U0 X k x:=by exact U1)(hs:∀y,v6 (.Name x xp) X.env y=pure y:=by intro _;rfl):DE X (.ListComp elt [⟨tg,.Name x xp,ifs,0⟩] scope pos) (b6G k t cap ft fe):=⟨by
 rintro K s U H Q I⟨Z,r,H0,Gz,G,e,R,q⟩;unfold b6G at e;split at e;rotate_left;·cases e
 rename_i D hD;split at e;rotate_left;·cases e
 rename_i hpz;split at e;rotate_left;·cases e
 rename_i es e5;cases(qA e);obtain⟨k1,k2⟩:=sS e5;obtain⟨v,ev,rv⟩:=R.val hD;cases rv with|@dict a p _ N e0 rr=>
 obtain⟨ob,S,J,E,T,If,back⟩:=c2u I R.sub N;have F:=R.sub _ _ J;have iso:b7e p S:=by
  obtain h|⟨oc,h⟩:=N<;>rw[J]at h;·exact .inl (qA h)
  ·exact .inr ⟨oc,qA h⟩
 have isf:b7e p (.frz ob (.dK p)):=.inr ⟨ob,rfl⟩;have tb:iX X.K (upd G a (.frz ob (.dK p))) (upd H a (.frz ob (.dK p))):=⟨λy hy c P hc'=>Tab.as F E T (R.tab.1 y hy c P hc'),NoT.upd R.tab.2 (by nofun)⟩;have sb:aT (upd G a (.frz ob (.dK p))) (upd H a (.frz ob (.dK p))):=λb o w=>by
  by_cases f:b=a;·subst f;rw[aJ]at w⊢;exact w
  ·rw[aE f]at w⊢;exact R.sub _ _ w
 have Rb:=R.vals sb tb (Rep.swap N isf);have run:=a5R (pos:=pos) (g:=gU X.K (D.map (·.1)) (λd=>d) (cJ cap (xX Z)) (cX t (cJ cap (xX Z)))) (tc:=tU X.K (D.map (·.1)) (cX t (cJ cap (xX Z))) (cT t (cJ cap (xX Z)) ft)) (te:=eU X.K (D.map (·.1)) (cX t (cJ cap (xX Z))) (cT t (cJ cap (xX Z)) ft) (cV t (cJ cap (xX Z)) fe)) hc B0 (b7W (tg:=tg) (cM (pos:=xp) hk.1 hk.2 hk.3 hk.4))
  (by rintro C i j fp K s U H v u Q I r⟨x,L,q⟩;exact((hg C i j fp).run _ _ _ (k1 x L).1).run K s U H v u Q I r q)
  (by rintro C i j fp K s U H Q I⟨x,L,q⟩;exact((ht C i j fp).run _ _ (k1 x L).2.1).run K s U H Q I q)
  (by rintro C i j fp K s U H Q I⟨x,L,hcx,H0,Gz,G,R,q⟩;exact((he C i j fp).pd ((k1 x L).2.2 hcx)).run H0 Gz G K s U H Q I R q) hs K s U (upd H a (.frz ob (.dK p)))
  (λv H2=>H2 a=some (.frz ob (.dK p))/\Q v (upd H2 a S)) If
  ⟨.ref a,ev,a,ob,p,rfl,aJ,a4i (φ:=λd=>d) Rb (by rw[List.map_id' (D.map (·.1)),e0];exact b1M aJ) (.refl _) (λx L=>a1O hf (k1 x L).1) (by rw[qD];exact lY hpz) λDd ys G2 H2 A hDd hn ra=>?_⟩;·exact v3 run (by rintro u s'⟨v',H',I',rv',ha',q'⟩;exact⟨v',_,back s' H' I' ha',rv',q'⟩) λ_ _ z=>z
 ·have M:=A.gg _ _ aJ;have hDa:Dd≠a:=λy=>by rw[y,aJ]at hn;cases hn
  refine⟨A.sub _ _ M,?_⟩;have gr:Grow G H (upd G2 a S) (upd H2 a S):=by
   refine⟨λb o w=>?_,⟨λb o w n=>?_,λb ps w=>?_,λP y tt=>?_⟩,λb o w=>?_,λb e n=>?_,λn=>?_⟩
   ·by_cases f:b=a;·subst f;rw[J]at w;cases w;exact aJ
    ·rw[aE f];exact A.gg _ _ (by rwa[aE f])
   ·by_cases f:b=a;·subst f;rw[F]at w;cases w;exact aJ
    ·rw[aE f];exact A.hh.keep b o (by rwa[aE f]) n
   ·have f:b≠a:=λy=>by rw[y,F]at w;exact E _ (qA w)
    rw[aE f];exact A.hh.tbl b ps (by rwa[aE f])
   ·exact Tab.as (A.sub _ _ M) (by nofun) (by nofun) (A.hh.tab P y (Tab.as F E T tt))
   ·by_cases f:b=a;·subst f;rw[aJ]at w⊢;exact w
    ·rw[aE f]at w⊢;exact A.sub _ _ w
   ·have f:b≠a:=λy=>by rw[y,J]at e;cases e
    rw[aE f];exact A.new b (by rwa[aE f]) (by rwa[aE f])
   ·exact NoT.upd (A.nt tb.2) E
  have fin:Rep X.K (upd G2 a S) (.ref Dd) (.list es):=.list (.of (by rwa[aE hDa])) (by rw[k2];exact RepAll.swap (.inr ⟨ob,M⟩) iso ra);exact q (.ref Dd) _ _ gr fin⟩
end
noncomputable def lyD(d:q8):Bool:=d.canLay0&&decide (d.depth<=16)
def sK(D:List (q8×q8)):Bool:=D.all λp=>c5H p.1&&lyD p.2
def b8x(x y:q8):Option Bool:=match x,y with|.dict Da,.dict Db=>if sK Da&&sK Db then some (!(decide (Da.length=Db.length)&&pW Db Da))else none|_,_=>none
theorem a2M(I:Inv X pz U H s)(p:KV kvs vs):∀{D:List (q8×q8)},D.map (·.1)=kvs.map (λp=>cD p.1)->RepAll X.K H (kvs.map (·.2)) (D.map (·.2))->∃bs,vx s.heap cD vs D bs:=by induction p with
 |nil=>intro D h _;cases D with|nil=>exact⟨_,.nil⟩|cons _ _=>cases h
 |@cons a b _ _ B t g=>intro D h r;cases D with|nil=>cases h|cons d D=>rw[qI,qI,zN]at h;rw[qI,qI]at r;cases r with|cons f c=>obtain⟨k,v⟩:=a;obtain⟨o,u⟩:=b;obtain⟨y,w⟩:=d;have j:=h.1;have i:=B.1;subst j i;obtain⟨bs,q⟩:=g h.2 c;obtain⟨as,e⟩:=f.reads I B.2;exact⟨_,.cons e q⟩
theorem lookup_mem{k d:q8}:∀{D:List (q8×q8)},za k D=some d->∃p∈D,p.2=d
 |[],h=>by cases h|(a,b)::D,h=>by
  unfold za at h;split at h;·cases h;exact⟨_,qa,rfl⟩
  ·obtain⟨p,c,e⟩:=lookup_mem h;exact⟨p,qF _ c,e⟩
theorem b5z(hu:X.A.units+64<cLine){g:List (q8×q8)}{o:List (Key×Value)}{bs:T0o}(k:vx s.heap cD o g bs)(fb:sK g=true){q:List (Key×Value)}{i:List (q8×q8)}{as:T0o}(pa:vx s.heap cD q i as):sK i=true->∀{r:Bool},PySem.W.KeqRows g i r->PySem.W.KeqHits X.A.in1 s o q r:=by induction pa with
 |nil=>intro _ r e;cases e with|nil=>exact .nil
 |cons f _ v=>intro d r e;unfold sK at d;rw[ja,qE,qE]at d;cases e with|miss C=>exact .miss (k.valueAt_none_of_lookup a0t C)|hit t z=>obtain⟨y,F,w,D⟩:=k.valueAt_of_lookup a0t t;obtain⟨p,A,rfl⟩:=lookup_mem t;have c:=qp.mp fb p A;rw[qE]at c;have j:=Bool.and_eq_true_iff.mp d.1.2;have u:=Bool.and_eq_true_iff.mp c.2;have E:=of_decide_eq_true j.2;refine .hit w (SeqAt.eqAt_reads _ _ X.A.in1 s _ _ _ _ f D j.1 u.1 ?_) (v d.2 z);have:∀a b:Nat,min a b<=a:=Nat.min_le_left;refine kg (Nat.add_le_add_left (qg (this _ _) E) _) ?_;show X.A.units+1+16<cLine;omega
def c5r(K:qB)(Da Db:List (q8×q8)):R2:=λx y H Q=>∃a b ka kb,x=.ref a/\y=.ref b/\Rd H a (.dK ka)/\Rd H b (.dK kb)/\(Da.map (·.1)=ka.map (λp=>cD p.1)/\RepAll K H (ka.map (·.2)) (Da.map (·.2))/\sK Da=true)/\(Db.map (·.1)=kb.map (λp=>cD p.1)/\RepAll K H (kb.map (·.2)) (Db.map (·.2))/\sK Db=true)/\Q (.bl (!(decide (Da.length=Db.length)&&pW Db Da))) H
theorem c1A(hu:X.A.units+64<cLine) d c:OpR X (wa .NotEq) (c5r X.K d c):=by
 rintro R s U H x y v u Q I w t⟨a,b,A,z,ex,E,D,C,⟨P,N,M⟩,⟨L,K,J⟩,q⟩;subst ex E;cases w;cases t;obtain⟨_,p,k,g,G⟩:=(show cU X.prog X.w H s.heap a (.dK A)from D.ok I.hok);obtain⟨_,o,j,f,F⟩:=(show cU X.prog X.w H s.heap b (.dK z)from C.ok I.hok);obtain⟨as,pa⟩:=a2M I g P N;obtain⟨bs,i⟩:=a2M I f L K;refine PySem.W.keq_ne (r:=pW c d) p o G F (by lia) (λ_=>b5z hu i J pa M (a5a c d)) ⟨.bl _,H,I,rfl,?_⟩;have e:(k.length==j.length)=decide (d.length=c.length):=by rw[<-pa.length,<-i.length];rfl
 rwa[e]
theorem c1S(hu:X.A.units+64<cLine) x y t(h:b8x x y=some t):CmpD X .NotEq x y t:=by
 unfold b8x at h;split at h
 ·rename_i k j;split at h;·rename_i a;rw[qE]at a;cases(qA h);exact⟨_,c1A hu k j,λx y G H Q s c b q=>by cases c with|dict B i e=>cases b with|dict f g d=>exact⟨_,_,_,_,rfl,rfl,nD s B,nD s f,⟨i,e.mono s,a.1⟩,⟨g,d.mono s,a.2⟩,q⟩⟩
  ·cases h
 ·cases h
open PySem.AutoSeq1(wpAny_loadPart')
section
variable{a:Expr}
end
end L2.L3
namespace L2.L3
open PySem PySem.Spec PyProof.Rows PySem.SeqAt Builtin
open AutoSeq1(wpAny_loadPart')
section
variable{x1:Nat}
end
end L2.L3
namespace L2.L3
open PySem PySem.Spec PyProof.Rows
abbrev a4r:TF:=bJ ltD (var 5) (cst (.int 3))
abbrev a4o:TF:=bJ eqD (var 5) (cst (.int 3))
abbrev a4n:TF:=bJ ltD (var 5) (cst (.int 6))
abbrev a4m:TF:=bJ eqD (var 5) (cst (.int 6))
abbrev a4k:TF:=bJ eqD (var 5) (cst (.int 7))
def iV:SF:=(aY (fU 2 (pR (aB (cst (.str "a")) (aB (cst (.str "tuv")) (aB (cst (.str "bcde")) (aB (cst (.str "wxyz")) aH)))))) (aY (fU 3 (pR (aB (cst (.str "a")) (aB (cst (.str "b")) (aB (cst (.str "cc")) (aB (cst (.str "fghi")) (aB (cst (.str "jklm")) (aB (cst (.str "nopq")) aH)))))))) (aY (a1J (.tp [4,5]) (eB (aB (op2 ixD (var 2) (bC bN (aB (var 0) (aB (var 1) (aB (cst (.int 4)) aH))))) (aB (bC bN (aB (var 0) (aB (op2 cF (var 1) (cst (.int 1))) (aB (cst (.int 9)) aH)))) aH)))) (aY (ifS a4r (retS (eB (aB (cst (.str "lay")) (aB (var 4) (aB (bC a1j (aB (var 0) (aB (op2 cF (var 1) (cst (.int 10))) (aB (cst (.int 4)) aH)))) aH))))) dG) (aY (ifS a4o (retS (eB (aB (cst (.str "take")) (aB (var 4) aH)))) dG) (aY (a1J (.tp [6,7]) (eB (aB (op2 ixD (var 3) (bC bN (aB (var 0) (aB (op2 cF (var 1) (cst (.int 2))) (aB (cst (.int 6)) aH))))) (aB (op2 b1Y (bC bN (aB (var 0) (aB (op2 cF (var 1) (cst (.int 3))) (aB (cst (.int 30)) aH)))) (cst (.int 1))) aH)))) (aY (ifS a4n (retS (eB (aB (cst (.str "add")) (aB (var 4) (aB (var 6) (aB (var 7) (aB (op2 cF (var 7) (bC bN (aB (var 0) (aB (op2 cF (var 1) (cst (.int 4))) (aB (cst (.int 9)) aH))))) aH))))))) dG) (aY (ifS a4m (retS (eB (aB (cst (.str "drop")) (aB (var 4) (aB (var 6) aH))))) dG) (aY (ifS a4k (retS (eB (aB (cst (.str "shift")) (aB (var 4) (aB (op2 b1Y (bC bN (aB (var 0) (aB (op2 cF (var 1) (cst (.int 5))) (aB (cst (.int 41)) aH)))) (cst (.int 12))) aH))))) dG) (retS (eB (aB (cst (.str "merge")) (aB (var 4) (aB (op2 ixD (var 2) (bC bN (aB (var 0) (aB (op2 cF (var 1) (cst (.int 6))) (aB (cst (.int 4)) aH))))) aH))))))))))))))
def tV:List q8->Mm q8:=mC 8 2 iV
abbrev a4U:EF:=fR (.nm 0) [none] (mW (var 0)) ttT (op2 ixD (var 0) (cst (.int 0)))
abbrev a4q:TF:=bJ eqD (op2 ixD (var 1) (cst (.int 0))) (cst (.str "add"))
abbrev a0n:TF:=bJ inX (op2 ixD (var 1) (cst (.int 2))) (var 3)
abbrev a0m:TF:=lC (b1G leD ltD leD (cst (.int 0)) (op2 ixD (var 1) (cst (.int 3))) (op2 ixD (var 1) (cst (.int 4))) (cst (.int 480)))
abbrev a4l:TF:=bJ eqD (op2 ixD (var 1) (cst (.int 0))) (cst (.str "drop"))
abbrev a0P:EF:=fR (.nm 0) [none,some 1] (mW (var 0)) (bJ neD (op2 ixD (var 0) (cst (.int 0))) (op2 ixD (var 1) (cst (.int 2)))) (var 0)
abbrev a4j:TF:=bJ eqD (op2 ixD (var 1) (cst (.int 0))) (cst (.str "shift"))
abbrev a0O:EF:=fR (.tp [0,1,2]) [none,none,none,some 1] (mW (var 0)) ttT (eB (aB (var 0) (aB (op2 cF (var 1) (op2 ixD (var 3) (cst (.int 2)))) (aB (op2 cF (var 2) (op2 ixD (var 3) (cst (.int 2)))) aH))))
abbrev a0N:EF:=fR (.tp [0,1,2]) [none,none,none] (mW (var 4)) (orT (bJ ltD (var 1) (cst (.int 0))) (bJ gtD (var 2) (cst (.int 480)))) (cst (.int 1))
abbrev a0M:EF:=fR (.nm 0) [none] (mW (op2 uM (var 2) (op2 ixD (var 1) (cst (.int 2))))) ttT (eB (aB (op2 ixD (var 0) (cst (.int 0))) (aB (var 0) aH)))
abbrev a4T:EF:=fR (.nm 0) [none,some 6] (mW (var 0)) (b0u (bJ a3j (op2 ixD (var 0) (cst (.int 0))) (var 1)) (bJ neD (op2 uM (var 1) (op2 ixD (var 0) (cst (.int 0)))) (var 0))) (var 0)
abbrev a0l:TF:=bJ neD a4T (pR aH)
def mO:SF:=(aY (fU 3 a4U) (aY (ifS a4q (aY (ifS a0n (retS (cst (.str "taken"))) dG) (aY (ifS a0m (retS (cst (.str "no time"))) dG) (retS (ifE (bJ ltD (cQ sX (aB (var 0) aH)) (cst (.int 16))) (cQ mV (aB (cQ a3M (aB (op2 cF (var 0) (eB (aB (slE (var 1) (b0T (cst (.int 2))) b0U) aH))) aH)) aH)) (cst (.str "too many")))))) dG) (aY (ifS a4l (retS (ifE (bJ inX (op2 ixD (var 1) (cst (.int 2))) (var 3)) (cQ mV (aB a0P aH)) (cst (.str "no meeting")))) dG) (aY (ifS a4j (aY (fU 4 (cQ mV (aB a0O aH))) (aY (fU 5 a0N) (retS (ifE (bJ eqD (var 5) (pR aH)) (var 4) (cst (.str "no time")))))) dG) (aY (fU 6 (cQ yP (aB a0M aH))) (aY (ifS a0l (retS (cst (.str "taken"))) dG) (aY (fU 4 (op1 a6Z (op2 cF (cQ a3U (aB (var 0) aH)) (cQ a3U (aB (op2 uM (var 2) (op2 ixD (var 1) (cst (.int 2)))) aH))))) (retS (ifE (bJ ltD (cQ sX (aB (var 4) aH)) (cst (.int 17))) (cQ mV (aB (var 4) aH)) (cst (.str "too many")))))))))))
def iY:List q8->Mm q8:=mC 7 3 mO
abbrev tE:EF:=b6G 0 (.nm 0) [none,some 0,some 1] (bJ neD (var 0) (op2 ixD (var 2) (cst (.int 1)))) (eB (aB (var 0) (aB (op2 uM (var 1) (var 0)) aH)))
abbrev a1o:TF:=bJ eqD (op2 ixD (var 1) (cst (.int 0))) (cst (.str "lay"))
abbrev mX:TF:=orT (bJ rK (op2 ixD (var 1) (cst (.int 1))) (var 0)) (b0u (bJ eqD (op2 ixD (var 1) (cst (.int 0))) (cst (.str "merge"))) (bJ rK (op2 ixD (var 1) (cst (.int 2))) (var 0)))
abbrev a6S:TF:=bJ eqD (op2 ixD (var 1) (cst (.int 0))) (cst (.str "take"))
abbrev a1m:TF:=iS (op1 (isD "str") (var 3))
def xJ:SF:=(aY (a7E 2 (aB tE aH)) (aY (ifS a1o (aY (a1q 2 (op2 ixD (var 1) (cst (.int 1))) (op2 ixD (var 1) (cst (.int 2)))) (a0U 2 (retS (eB (aB (var 2) (aB (a8o a3j (op2 ixD (var 1) (cst (.int 1))) (var 0)) aH)))))) dG) (aY (ifS mX (retS (eB (aB (var 0) (aB (cst (.str "no sheet")) aH)))) dG) (aY (ifS a6S (a0U 2 (retS (eB (aB (var 2) (aB (op2 uM (var 0) (op2 ixD (var 1) (cst (.int 1)))) aH))))) dG) (aY (fU 3 (bC iY (aB (op2 uM (var 0) (op2 ixD (var 1) (cst (.int 1)))) (aB (var 1) (aB (var 0) aH))))) (aY (ifS a1m (retS (eB (aB (var 0) (aB (var 3) aH)))) dG) (aY (a1q 2 (op2 ixD (var 1) (cst (.int 1))) (var 3)) (a0U 2 (retS (eB (aB (var 2) (aB (var 3) aH))))))))))))
def rB:List q8->Mm q8:=mC 4 2 xJ
abbrev b3V:OTF:=upT (bJ inX (op2 ixD (var 1) (cst (.int 0))) (eB (aB (cst (.str "lay")) (aB (cst (.str "take")) aH))))
abbrev a3c:OEF:=a9K (upT (bJ eqD (op2 ixD (var 1) (cst (.int 0))) (cst (.str "lay")))) (eI a0d 0 (aB (op2 ixD (var 1) (cst (.int 1))) (aB (op2 ixD (var 1) (cst (.int 2))) aH))) (eI oW 0 (aB (op2 ixD (var 1) (cst (.int 1))) aH))
abbrev b3T:OTF:=upT (bJ eqD (op2 ixD (var 1) (cst (.int 0))) (cst (.str "add")))
abbrev a7O:OEF:=eI uJ 0 (aB (op2 ixD (var 1) (cst (.int 1))) (aB (op2 ixD (var 1) (cst (.int 2))) (aB (op2 ixD (var 1) (cst (.int 3))) (aB (op2 ixD (var 1) (cst (.int 4))) aH))))
abbrev b3R:OTF:=upT (bJ eqD (op2 ixD (var 1) (cst (.int 0))) (cst (.str "drop")))
abbrev a7N:OEF:=eI oY 0 (aB (op2 ixD (var 1) (cst (.int 1))) (aB (op2 ixD (var 1) (cst (.int 2))) aH))
abbrev a3b:OEF:=a9K (upT (bJ eqD (op2 ixD (var 1) (cst (.int 0))) (cst (.str "shift")))) (eI lX 0 (aB (op2 ixD (var 1) (cst (.int 1))) (aB (op2 ixD (var 1) (cst (.int 2))) aH))) (eI iK 0 (aB (op2 ixD (var 1) (cst (.int 1))) (aB (op2 ixD (var 1) (cst (.int 2))) aH)))
def a2e:OSF:=(eO (ifO b3V (xE (a1l cE dR [some 0,some 1] a3c)) b5d) (eO (ifO b3T (xE (a1l cE dR [some 0,some 1] a7O)) b5d) (eO (ifO b3R (xE (a1l cE dR [some 0,some 1] a7N)) b5d) (xE (a1l cE dR [some 0,some 1] a3b)))))
def a0f:BS->List q8->Option (Re q8×BS):=sJ 2 1 a2e
abbrev tF:EF:=fR (.nm 0) [none,some 0] (mW (fQ gQ 0 aH)) ttT (eB (aB (var 0) (aB (fQ aI 1 (aB (var 0) aH)) aH)))
def a9R:SF:=(retS (cQ yP (aB tF aH)))
def rC:BS->List q8->Mm q8:=a2F 1 0 a9R
abbrev b3U:TF:=orT (bJ neD (var 6) (var 5)) (bJ neD (op1 (isD "bool") (var 6)) (op1 (isD "bool") (var 5)))
abbrev b3S:TF:=orT (bJ b8x (fQ rC 1 aH) (var 2)) (bJ neD (fQ gQ 1 aH) (cQ a1p (aB (var 2) aH)))
abbrev b0r:OSF:=eO (upS (fU 4 (bC tV (aB (var 0) (aB (op2 cF (cst (.int 1000)) (op2 oC (cst (.int 60)) (var 3))) aH))))) (eO (upS (a1J (.tp [2,5]) (bC rB (aB (var 2) (aB (var 4) aH))))) (eO (b4c 6 (eI a0f 1 (aB (var 4) aH))) (eO (upS (ifS b3U (retS (cst (.bool false))) dG)) (upS (ifS b3S (retS (cst (.bool false))) dG)))))
def a7V:OSF:=(mkO 1 [2] (aB (cst (.dict [])) aH) (eO (b5Z (.nm 3) (a8Z (cst (.int 16))) b0r) (upS (retS (a8o eqD (op2 ixD (fQ oX 1 aH) (cst (.int 1))) (cst (.int 0)))))))
def F_law:List q8->Mm q8:=a7m 7 1 a7V
inductive Deed|lay(n:Str)(s:List Mt)|take(n:Str)|add(n l:Str)(t u:Int)|drop(n l:Str)|shift(n:Str)(c:Int)|merge(n o:Str)
def dD:Deed->q8|.lay n s=>.tuple [.str "lay",.str n,dS s]|.take n=>.tuple [.str "take",.str n]|.add n l t u=>.tuple [.str "add",.str n,.str l,.int t,.int u]|.drop n l=>.tuple [.str "drop",.str n,.str l]|.shift n c=>.tuple [.str "shift",.str n,.int c]|.merge n o=>.tuple [.str "merge",.str n,.str o]
def word(c:Str):Str:=if c="Taken"then"taken"else if c="NoTime"then"no time"else if c="TooMany"then"too many"else if c="NoMeeting"then"no meeting"else"no sheet"
def wdO:Ou->q8|.inl c=>.str (word c)|.inr s=>dS s
abbrev Kn:=List (Str×List Mt)
abbrev enS(K:Kn):List (Key×q8):=K.map λp=>((.inr p.1:Key),dS p.2)
abbrev dKn(K:Kn):q8:=a2U (enS K)
noncomputable def aR(K:Kn)(x:Str):Option (List Mt):=(K.find? λp=>decide (p.1=x)).map (·.2)
theorem a6k x:∀K:Kn,dQ (.inr x) ((enS K).map λp=>(cD p.1,p.2))=(aR K x).map dS
 |[]=>rfl|r::K=>by
  show(if(some (zB r.1):Option Key)=some (zB x)then some (dS r.2)else dQ (.inr x) ((enS K).map λp=>(cD p.1,p.2)))=_;unfold aR;by_cases c:r.1=x;·rw[if_pos (by rw[c]),vR (by simpa using c)];rfl
  ·rw[if_neg (λz=>c (zI (qA z))),a6k x K,vS (by simpa using c)];rfl
variable{s:List Mt}
theorem a7T{K:Kn}{x:Str}(h:aR K x=some s):uM (dKn K) (.str x)=some (dS s):=by show dQ (.inr x) ((enS K).map λp=>(cD p.1,p.2))=_;rw[a6k,h];rfl
theorem c4f K x:a3j (.str x) (dKn K)=some (aR K x).isSome:=by show some (dQ (.inr x) ((enS K).map λp=>(cD p.1,p.2))).isSome=_;rw[a6k,zT]
theorem b5c K x:rK (.str x) (dKn K)=some (!(aR K x).isSome):=by unfold rK;rw[c4f];rfl
section
variable{k:q8}
theorem pQ(S:Gs s) d:mO [.val (dS s),.val d,.val k,.no,.no,.no,.no]=(aY (ifS a4q (aY (ifS a0n (retS (cst (.str "taken"))) dG) (aY (ifS a0m (retS (cst (.str "no time"))) dG) (retS (ifE (bJ ltD (cQ sX (aB (var 0) aH)) (cst (.int 16))) (cQ mV (aB (cQ a3M (aB (op2 cF (var 0) (eB (aB (slE (var 1) (b0T (cst (.int 2))) b0U) aH))) aH)) aH)) (cst (.str "too many")))))) dG) (aY (ifS a4l (retS (ifE (bJ inX (op2 ixD (var 1) (cst (.int 2))) (var 3)) (cQ mV (aB a0P aH)) (cst (.str "no meeting")))) dG) (aY (ifS a4j (aY (fU 4 (cQ mV (aB a0O aH))) (aY (fU 5 a0N) (retS (ifE (bJ eqD (var 5) (pR aH)) (var 4) (cst (.str "no time")))))) dG) (aY (fU 6 (cQ yP (aB a0M aH))) (aY (ifS a0l (retS (cst (.str "taken"))) dG) (aY (fU 4 (op1 a6Z (op2 cF (cQ a3U (aB (var 0) aH)) (cQ a3U (aB (op2 uM (var 2) (op2 ixD (var 1) (cst (.int 2)))) aH))))) (retS (ifE (bJ ltD (cQ sX (aB (var 4) aH)) (cst (.int 17))) (cQ mV (aB (var 4) aH)) (cst (.str "too many")))))))))) [.val (dS s),.val d,.val k,.val (.list ((s.map (·.1)).map .str)),.no,.no,.no]:=by
 have b:=S.few;unfold mO;have a:a4U [.val (dS s),.val d,.val k,.no,.no,.no,.no]=some (.ok (.list ((s.map (·.1)).map .str))):=by rw[qc];exact lV dM (λm=>[.val (dM m)]) (λm=>.str m.1) s rfl (by exact Q2 ‹_› rfl) (λm _=>rfl) (λm _=>rfl)
 rw[aO (ρ':=[.val (dS s),.val d,.val k,.val (.list ((s.map (·.1)).map .str)),.no,.no,.no]) (by rw[iH,a];rfl)]
theorem fV{t:TF}{h:SF}(a:t Z=some (.ok true))(b:f Z=some (.rt d)):aY (ifS t f dG) h Z=some (.rt d):=by unfold aY;rw[tH,a1g a,if_pos rfl,b]
theorem b5r(S:Gs s) n l t u:iY [dS s,dD (.add n l t u),k]=some (.ok (wdO (a0c s l t u))):=by
 have i:=S.few;refine eE rfl ?_;show mO [.val (dS s),.val (dD (.add n l t u)),.val k,.no,.no,.no,.no]=_;rw[pQ S];refine fV rfl ?_;have b:a0n [.val (dS s),.val (dD (.add n l t u)),.val k,.val (.list ((s.map (·.1)).map .str)),.no,.no,.no]=some (.ok (decide (l∈s.map (·.1)))):=cH (x:=.str l) (y:=.list ((s.map (·.1)).map .str)) rfl rfl (yK _ _);have a:a0m [.val (dS s),.val (dD (.add n l t u)),.val k,.val (.list ((s.map (·.1)).map .str)),.no,.no,.no]=some (.ok (!tmB t u)):=by
  have e:b1G leD ltD leD (cst (.int 0)) (op2 ixD (var 1) (cst (.int 3))) (op2 ixD (var 1) (cst (.int 4))) (cst (.int 480)) [.val (dS s),.val (dD (.add n l t u)),.val k,.val (.list ((s.map (·.1)).map .str)),.no,.no,.no]=some (.ok (tmB t u)):=by show(if decide ((0:Int)<=t)=true then(if decide (t<u)=true then some (Re.ok (decide (u<=(480:Int))))else some (.ok false))else some (.ok false))=_;unfold tmB;cases decide ((0:Int)<=t)<;>cases decide (t<u)<;>rfl
  show bnd (b1G leD ltD leD (cst (.int 0)) (op2 ixD (var 1) (cst (.int 3))) (op2 ixD (var 1) (cst (.int 4))) (cst (.int 480)) _) _=_;rw[e];rfl
 unfold a0c;by_cases B:l∈s.map (·.1);·rw[if_pos B];rw[decide_eq_true B]at b;exact fV b rfl
 rw[if_neg B];rw[decide_eq_false B]at b;rw[ifF b];by_cases d:tmB t u=true
 ·rw[if_pos d];rw[d]at a;rw[ifF a];have c:bJ ltD (cQ sX (aB (var 0) aH)) (cst (.int 16)) [.val (dS s),.val (dD (.add n l t u)),.val k,.val (.list ((s.map (·.1)).map .str)),.no,.no,.no]=some (.ok (decide (((s.length:Nat):Int)<16))):=cH (x:=.int (s.length:Nat)) (y:=.int 16) (eY (O:=[dS s]) rfl (by simp)) rfl (c0m ..);rw[dJ,b1f,c,dF];by_cases g:s.length<16
  ·rw[if_pos g,decide_eq_true (by lia),if_pos rfl];have nd:=a3m (t:=t) (u:=u) S.nr.nd B;have j:op2 cF (var 0) (eB (aB (slE (var 1) (b0T (cst (.int 2))) b0U) aH)) [.val (dS s),.val (dD (.add n l t u)),.val k,.val (.list ((s.map (·.1)).map .str)),.no,.no,.no]=some (.ok (.tuple ((s++[(l,t,u)]).map dM))):=by refine dL (x:=dS s) (y:=.tuple [.tuple [.str l,.int t,.int u]]) rfl rfl ?_;rw[b7a,if_pos (by rw[qD];simp only[qZ,kP];exact Q3 ‹_› rfl),jC];rfl
   rw[eY (O:=[.list ((a0D (s++[(l,t,u)])).map dM)]) (aN (eY (O:=[.tuple ((s++[(l,t,u)]).map dM)]) (aN j rfl) (by rw[wZ (a8Q (s++[(l,t,u)])) (by rw[qD,qe];simp only[qZ,kP];exact Q0 ‹_› rfl),xZ nd])) rfl) (a1k _)];rfl
  ·rw[if_neg g,decide_eq_false (by lia)];rfl
 ·rw[if_neg d];have f:tmB t u=false:=by simpa using d
  rw[f]at a;exact fV a rfl
theorem b2H(S:Gs s) n l:iY [dS s,dD (.drop n l),k]=some (.ok (wdO (nO s l))):=by
 have b:=S.few;refine eE rfl ?_;show mO [.val (dS s),.val (dD (.drop n l)),.val k,.no,.no,.no,.no]=_;rw[pQ S,ifF rfl];refine fV rfl ?_;have c:bJ inX (op2 ixD (var 1) (cst (.int 2))) (var 3) [.val (dS s),.val (dD (.drop n l)),.val k,.val (.list ((s.map (·.1)).map .str)),.no,.no,.no]=some (.ok (decide (l∈s.map (·.1)))):=cH (x:=.str l) (y:=.list ((s.map (·.1)).map .str)) rfl rfl (yK _ _);have a:a0P [.val (dS s),.val (dD (.drop n l)),.val k,.val (.list ((s.map (·.1)).map .str)),.no,.no,.no]=some (.ok (.list ((s.filter λm=>!decide (m.1=l)).map dM))):=gN dM (λm=>[.val (dM m),.val (dD (.drop n l))]) (λm=>!decide (m.1=l)) dM s rfl (by exact Q2 ‹_› rfl) (λm _=>rfl) (λm _=>rfl) (λm _ _=>rfl);rw[dJ,b1f,c,dF];unfold nO;by_cases h:l∈s.map (·.1);·rw[if_pos h,decide_eq_true h,if_pos rfl,eY (O:=[.list ((s.filter λm=>!decide (m.1=l)).map dM)]) (aN a rfl) (a1k _)];rfl
 ·rw[if_neg h,decide_eq_false h];rfl
theorem a9A(S:Gs s) n c:iY [dS s,dD (.shift n c),k]=some (.ok (wdO (gX s c))):=by
 have j:=S.few;refine eE rfl ?_;show mO [.val (dS s),.val (dD (.shift n c)),.val k,.no,.no,.no,.no]=_;rw[pQ S,ifF rfl,ifF rfl];refine fV rfl ?_;have f:a0O [.val (dS s),.val (dD (.shift n c)),.val k,.val (.list ((s.map (·.1)).map .str)),.no,.no,.no]=some (.ok (.list ((s.map (sh c)).map dM))):=by rw[show(s.map (sh c)).map dM=s.map λm=>dM (sh c m)by rw[qc];rfl];exact lV (t:=.tp [0,1,2]) (cap:=[none,none,none,some 1]) (fi:=mW (var 0)) (Z:=[.val (dS s),.val (dD (.shift n c)),.val k,.val (.list ((s.map (·.1)).map .str)),.no,.no,.no]) (fe:=eB (aB (var 0) (aB (op2 cF (var 1) (op2 ixD (var 3) (cst (.int 2)))) (aB (op2 cF (var 2) (op2 ixD (var 3) (cst (.int 2)))) aH)))) dM (λm=>[.val (.str m.1),.val (.int m.2.1),.val (.int m.2.2),.val (dD (.shift n c))]) (λm=>dM (sh c m)) s rfl (by omega) (λm _=>rfl) (λm _=>rfl)
 rw[aO (ρ':=[.val (dS s),.val (dD (.shift n c)),.val k,.val (.list ((s.map (·.1)).map .str)),.val (dS (s.map (sh c))),.no,.no]) (by rw[iH,eY (O:=[.list ((s.map (sh c)).map dM)]) (aN f rfl) (a1k _)];rfl)];have e:a0N [.val (dS s),.val (dD (.shift n c)),.val k,.val (.list ((s.map (·.1)).map .str)),.val (dS (s.map (sh c))),.no,.no]=some (.ok (.list (((s.map (sh c)).filter λm=>decide (m.2.1<0)||decide (480<m.2.2)).map λ_=>.int 1))):=gN dM (λm=>[.val (.str m.1),.val (.int m.2.1),.val (.int m.2.2)]) (λm=>decide (m.2.1<0)||decide (480<m.2.2)) (λ_=>.int 1) (s.map (sh c)) rfl (by rw[qD];omega) (λm _=>rfl) (λm _=>by exact c2m _ _) (λm _ _=>rfl);rw[aO (ρ':=[.val (dS s),.val (dD (.shift n c)),.val k,.val (.list ((s.map (·.1)).map .str)),.val (dS (s.map (sh c))),.val (.list (((s.map (sh c)).filter λm=>decide (m.2.1<0)||decide (480<m.2.2)).map λ_=>.int 1)),.no]) (by rw[iH,e];rfl)];have hsh:qY (.list (((s.map (sh c)).filter λm=>decide (m.2.1<0)||decide (480<m.2.2)).map λ_=>.int 1))=true:=a1S (n:=1) (λd b=>by obtain⟨i,_,rfl⟩:=qK.mp b;simp[jD]) (λd b=>by obtain⟨i,_,rfl⟩:=qK.mp b;simp[jS]) (by decide);have o:bJ eqD (var 5) (pR aH) [.val (dS s),.val (dD (.shift n c)),.val k,.val (.list ((s.map (·.1)).map .str)),.val (dS (s.map (sh c))),.val (.list (((s.map (sh c)).filter λm=>decide (m.2.1<0)||decide (480<m.2.2)).map λ_=>.int 1)),.no]=some (.ok (s.all λm=>tmB (sh c m).2.1 (sh c m).2.2)):=by
  refine cH rfl rfl ((a9U hsh).trans (congrArg some ?_));rw[jz,List.isEmpty_iff,List.map_eq_nil_iff,List.filter_eq_nil_iff,qp];constructor;·intro h m a;have B:=h (sh c m) (jm a);have p:=a1P.mp (S.tm m a);simp only[vj,decide_eq_true_eq,not_or]at B;exact a1P.mpr (by show 0<=(sh c m).2.1/\m.2.1+c<m.2.2+c/\(sh c m).2.2<=480;lia)
  ·intro h m a;obtain⟨x,g,rfl⟩:=qK.mp a;have B:=a1P.mp (h x g);simp only[vj,decide_eq_true_eq,not_or];lia
 rw[dJ,b1f,o,dF];unfold gX;by_cases h:(s.all λm=>tmB (sh c m).2.1 (sh c m).2.2)=true;·rw[if_pos h,if_pos h];rfl
 ·rw[if_neg h,if_neg h];rfl
end
end L2.L3
namespace L2.L3
open PySem PySem.Spec PyProof.Rows L2.HS
theorem a9v(val:Nat->q8):∀n,(SX.metK val n).Nodup
 |0=>by simp[SX.metK]|n+1=>by
  rw[SX.metK_succ];unfold SX.addK;split;·exact a9v val n
  ·rename_i h;rw[jL];exact⟨a9v val n,by simp,λa d b c e=>by
    have:b=val n:=by simpa using c
    subst this;subst e;exact h d⟩
theorem b0X(val:Nat->q8):∀n i,i<n->val i∈SX.metK val n
 |0,i,h=>by lia|n+1,i,h=>by
  rw[SX.metK_succ];unfold SX.addK;by_cases e:i=n
  ·subst e;split;·assumption
   ·exact qb _ (by simp)
  ·have:=b0X val n i (by lia);split;·exact this
   ·exact jQ _ this
theorem b5p d:d∈uN O↔d∈O:=by
 refine⟨yS,λh=>?_⟩;obtain⟨i,a⟩:=vn h;have b:=(qR.mp a).1;have:=b0X (λi=>O.getD i .none) O.length i b;have e:O.getD i .none=d:=by rw[qT,a];rfl
 rwa[e]at this
theorem c2S{a b:Mt}(h:dM a=dM b):a=b:=by obtain⟨i,g,f⟩:=a;obtain⟨e,d,c⟩:=b;simp only[dM]at h;injection h with h;injection h with B h;injection h with h2 h;injection h with h3 h;injection B with B;injection h2 with h2;injection h3 with h3;subst B h2 h3;rfl
theorem c1W{u:List Mt}(h:u.Nodup):(u.map dM).Nodup:=by rw[zK,jK];exact h.imp λ{a b}n z=>n (c2S z)
variable{s o:List Mt}
theorem b1T(S:s.Nodup)(f:o.Nodup):(dZ s o).Nodup:=by unfold dZ;rw[jL];refine⟨S,f.filter _,λa d b c e=>?_⟩;subst e;have:=(qy.mp c).2;simp only[jr,decide_eq_false_iff_not]at this;exact this d
theorem a8i(S:s.Nodup)(b:o.Nodup):(uN ((s++o).map dM)).Perm ((dZ s o).map dM):=(kz (a9v _ _) (c1W (b1T S b))).mpr λd=>by
  show d∈uN ((s++o).map dM)↔_;rw[b5p,qK,qK];constructor;·rintro⟨m,a,rfl⟩;exact⟨m,a6d.mpr (qX.mp a),rfl⟩
  ·rintro⟨m,a,rfl⟩;exact⟨m,qX.mpr (a6d.mp a),rfl⟩
theorem b6w(S:NR s)(a:NR o)(h:bM s o=[]):iT (uN ((s++o).map dM))=(a0D (dZ s o)).map dM:=by rw[<-xZ (a8H S a h)];have p:=a8i S.nodup a.nodup;refine(a1Q (g:=[false,true,true]) ((fM _).trans p.symm) (λd b=>?_) (mY (g:=[false,true,true]) _ (a8Q _))).symm;obtain⟨m,_,rfl⟩:=qK.mp (yS b);rfl
theorem b9n(S:NR s)(a:NR o):(iT (uN ((s++o).map dM))).length=(dZ s o).length:=by rw[(fM _).length_eq,(a8i S.nodup a.nodup).length_eq,qD]
theorem b2d:∀(u:List Mt),(∀m∈u,jJ m.1=true)->u.length<40->a6Z (.list (u.map dM))=some (.list (iT (uN (u.map dM))))
 |[],_,_=>by show some (q8.list [])=_;rw[wM,a3s]|m::u,ok,h=>by
  have c:(((m::u).map dM).all (dU [false,true,true])&&((m::u).map dM).all (hsh 4)&&decide (((m::u).map dM).length<40))=true:=by rw[qE,qE,qp,qp,decide_eq_true_eq,qD];exact⟨⟨λd a=>by obtain⟨x,_,rfl⟩:=qK.mp a;rfl,λd a=>by obtain⟨x,b,rfl⟩:=qK.mp a;show(jD (.str x.1)&&true)=true;rw[Bool.and_true];simpa[jD]using ok x b⟩,h⟩
  exact if_pos c
theorem a9B{K:Kn}(S:Gs s)(a:Gs o) n x(hx:aR K x=some o):iY [dS s,dD (.merge n x),dKn K]=some (.ok (wdO (iA s o))):=by
 have C:=S.few;have k:=a.few;refine eE rfl ?_;show mO [.val (dS s),.val (dD (.merge n x)),.val (dKn K),.no,.no,.no,.no]=_;rw[pQ S,ifF rfl,ifF rfl,ifF rfl];have A:op2 uM (var 2) (op2 ixD (var 1) (cst (.int 2))) [.val (dS s),.val (dD (.merge n x)),.val (dKn K),.val (.list ((s.map (·.1)).map .str)),.no,.no,.no]=some (.ok (dS o)):=dL (x:=dKn K) (y:=.str x) rfl rfl (a7T hx);have u:a0M [.val (dS s),.val (dD (.merge n x)),.val (dKn K),.val (.list ((s.map (·.1)).map .str)),.no,.no,.no]=some (.ok (.list (o.map prR))):=lV dM (λm=>[.val (dM m)]) prR o (yC A rfl) (by lia) (λm _=>rfl) (λm _=>rfl);rw[aO (ρ':=[.val (dS s),.val (dD (.merge n x)),.val (dKn K),.val (.list ((s.map (·.1)).map .str)),.no,.no,.val (xO o)]) (by rw[iH,eY (O:=[.list (o.map prR)]) (aN u rfl) (c2L a.nr.nd (by lia))];rfl)];have p:a4T [.val (dS s),.val (dD (.merge n x)),.val (dKn K),.val (.list ((s.map (·.1)).map .str)),.no,.no,.val (xO o)]=some (.ok (.list ((s.filter λr=>!decide (r∈o)&&decide (r.1∈o.map (·.1))).map dM))):=by
  refine gN (t:=.nm 0) (cap:=[none,some 6]) (fi:=mW (var 0)) (fe:=var 0) (Z:=[.val (dS s),.val (dD (.merge n x)),.val (dKn K),.val (.list ((s.map (·.1)).map .str)),.no,.no,.val (xO o)]) dM (λm=>[.val (dM m),.val (xO o)]) (λr=>!decide (r∈o)&&decide (r.1∈o.map (·.1))) dM s rfl (by lia) (λm _=>rfl) (λm b=>?_) (λm _ _=>rfl);have F:bJ a3j (op2 ixD (var 0) (cst (.int 0))) (var 1) [.val (dM m),.val (xO o)]=some (.ok (decide (m.1∈o.map (·.1)))):=cH (x:=.str m.1) (y:=xO o) rfl rfl (c5Q o m.1);rw[b6X,F,dF];by_cases h:m.1∈o.map (·.1)
  ·have E:bJ neD (op2 uM (var 1) (op2 ixD (var 0) (cst (.int 0)))) (var 0) [.val (dM m),.val (xO o)]=some (.ok (!decide (rowAt o m.1=m))):=by
    obtain⟨q,i,e⟩:=qK.mp h;have v:rowAt o m.1=q:=by rw[<-e];exact a0A a.nr.nd i
    refine cH (x:=dM (rowAt o m.1)) (y:=dM m) (dL (x:=xO o) (y:=.str m.1) rfl rfl (c4l h)) rfl ?_;rw[a4L (a4y (by rw[v];exact a.ok q i)) (a4y (S.ok m b)),<-a9T];rfl
   rw[decide_eq_true h,if_pos rfl,E,Bool.and_true];congr 3;rw[jz,decide_eq_true_eq,decide_eq_true_eq];obtain⟨q,i,e⟩:=qK.mp h;constructor;·intro z;rwa[<-z,<-e,a0A a.nr.nd i]
   ·intro z;exact a0A a.nr.nd z
  ·rw[decide_eq_false h,vq];rfl
 have g:a0l [.val (dS s),.val (dD (.merge n x)),.val (dKn K),.val (.list ((s.map (·.1)).map .str)),.no,.no,.val (xO o)]=some (.ok (!(bM s o).isEmpty)):=by
  refine cH p rfl ((c1R (a1S (n:=2) (λd j=>?_) (λd j=>?_) (by decide))).trans ?_);·obtain⟨m,b,rfl⟩:=qK.mp j;have:=S.ok m (qy.mp b).1;exact ku (a4y this)
  ·obtain⟨m,b,rfl⟩:=qK.mp j;simp[jS,kX]
  ·unfold bM;rw[List.isEmpty_map,List.isEmpty_map]
 unfold iA;by_cases f:bM s o=[]
 ·rw[if_pos f];rw[f]at g;rw[ifF g];have D:op2 cF (cQ a3U (aB (var 0) aH)) (cQ a3U (aB (op2 uM (var 2) (op2 ixD (var 1) (cst (.int 2)))) aH)) [.val (dS s),.val (dD (.merge n x)),.val (dKn K),.val (.list ((s.map (·.1)).map .str)),.no,.no,.val (xO o)]=some (.ok (.list ((s++o).map dM))):=by refine dL (x:=.list (s.map dM)) (y:=.list (o.map dM)) (eY (O:=[dS s]) rfl (c0n _)) (eY (O:=[dS o]) (aN (dL (x:=dKn K) (y:=.str x) rfl rfl (a7T hx)) rfl) (c0n _)) ?_;rw[c3h,if_pos (by rw[qD,qD];lia),jC]
  rw[aO (ρ':=[.val (dS s),.val (dD (.merge n x)),.val (dKn K),.val (.list ((s.map (·.1)).map .str)),.val (.list (iT (uN ((s++o).map dM)))),.no,.val (xO o)]) (by rw[iH,b0S,D,dF,b2d (s++o) (λm b=>(qX.mp b).elim (S.ok m) (a.ok m)) (by rw[qe];lia)];rfl)];have c:bJ ltD (cQ sX (aB (var 4) aH)) (cst (.int 17)) [.val (dS s),.val (dD (.merge n x)),.val (dKn K),.val (.list ((s.map (·.1)).map .str)),.val (.list (iT (uN ((s++o).map dM)))),.no,.val (xO o)]=some (.ok (decide ((((dZ s o).length:Nat):Int)<17))):=by refine cH (x:=.int ((dZ s o).length:Nat)) (y:=.int 17) (eY (O:=[.list (iT (uN ((s++o).map dM)))]) rfl (by rw[c0o,b9n S.nr a.nr])) rfl (c0m ..)
  rw[dJ,b1f,c,dF];by_cases h:(dZ s o).length<=16;·rw[if_pos h,decide_eq_true (by lia),if_pos rfl,eY (O:=[.list (iT (uN ((s++o).map dM)))]) rfl (a1k _),b6w S.nr a.nr f];rfl
  ·rw[if_neg h,decide_eq_false (by lia)];rfl
 ·rw[if_neg f];have w:(!(bM s o).isEmpty)=true:=by cases h:bM s o with|nil=>exact absurd h f|cons _ _=>rfl
  rw[w]at g;exact fV g rfl
end L2.L3
namespace L2.L3
open PySem PySem.Spec PyProof.Rows
variable{kvs:List (Key×q8)}
theorem b5f{fa:AF}{Y:T0l}(h:fa Z=some (.ok [.list Y]))(c:iD rJ Y=some kvs)(nd:(kvs.map (·.1)).Nodup)(a:kvs.length<=1000)(b:noD i Z=true):a7E i fa Z=some (.nx (Z.set i (.dct kvs))):=by unfold a7E;rw[h];show(match iD rJ Y with|some kvs=>_|none=>_)=_;rw[c];dsimp only;rw[if_pos (by rw[b,decide_eq_true a,decide_eq_true nd];rfl)]
theorem b4o{k:Key}{kd d:q8}(e:Z[i]?=some (.dct kvs))(b:fv Z=some (.ok d))(c:fk Z=some (.ok kd))(f:oG kd=some k)(a:dI kvs.length=true):a1q i fk fv Z=some (.nx (Z.set i (.dct (rH kvs k d)))):=by unfold a1q;rw[e];rw[b];rw[c];show(match oG kd with|some k=>_|none=>_)=_;rw[f];dsimp only;rw[if_pos a]
theorem b1k(a:Z[i]?=some (.dct kvs)):a0U i f Z=f (Z.set i (.val (a2U kvs))):=by unfold a0U;rw[a];rfl
noncomputable def cY(K:Kn)(n:Str):Kn:=K.filter λp=>!decide (p.1=n)
def fX(K:Kn)(n:Str)(s:List Mt):Kn:=cY K n++[(n,s)]
def bQ(K:Kn)(n:Str):Ou->Kn×q8|.inl c=>(K,.str (word c))|.inr s=>(fX K n s,dS s)
def stepK(K:Kn):Deed->Kn×q8
 |.lay n s=>(fX K n s,.bool (aR K n).isSome)|.take n=>match aR K n with|none=>(K,.str "no sheet")|some s=>(cY K n,dS s)
 |.add n l t u=>match aR K n with|none=>(K,.str "no sheet")|some s=>bQ K n (a0c s l t u)
 |.drop n l=>match aR K n with|none=>(K,.str "no sheet")|some s=>bQ K n (nO s l)
 |.shift n c=>match aR K n with|none=>(K,.str "no sheet")|some s=>bQ K n (gX s c)
 |.merge n x=>match aR K n,aR K x with|some s,some o=>bQ K n (iA s o)|_,_=>(K,.str "no sheet")
structure KOk(K:Kn):Prop where
 nd:(K.map (·.1)).Nodup
 gs:∀p∈K,Gs p.2
 ok:∀p∈K,jJ p.1=true
 few:K.length<=30
variable{s:List Mt}
theorem dO{K:Kn}{n:Str}(h:aR K n=some s):(n,s)∈K:=by obtain⟨p,a,rfl⟩:=qH.mp h;have B:=List.find?_some a;simp only[decide_eq_true_eq]at B;rw[<-B];exact vC a
variable{p:Str×List Mt}
theorem a0T{K:Kn}(nd:(K.map (·.1)).Nodup)(h:p∈K):aR K p.1=some p.2:=by unfold aR;cases q:K.find? λr=>decide (r.1=p.1)with|none=>have:=zw.mp q p h;simp at this|some r=>
  have B:=List.find?_some q;simp only[decide_eq_true_eq]at B;have d:=vC q;have:r=p:=by
   have inj:∀{K:Kn},(K.map (·.1)).Nodup->∀{a b:Str×List Mt},a∈K->b∈K->a.1=b.1->a=b:=by intro K;induction K with|nil=>intro _ a b g;cases g|cons c K j=>
     intro nd a b g i e;rw[qI,jy]at nd;obtain B|B:=qM.mp g
     ·obtain d|d:=qM.mp i;·rw[B,d]
      ·exact absurd (by rw[<-B,e];exact jm (f:=(·.1)) d) nd.1
     ·obtain d|d:=qM.mp i;·exact absurd (by rw[<-d,<-e];exact jm (f:=(·.1)) B) nd.1
      ·exact j nd.2 B d e
   exact inj nd d h B
  rw[this];rfl
theorem b5U{K:Kn}{n:Str}(h:n∉K.map (·.1)):aR K n=none:=by unfold aR;rw[zw.mpr λp a=>by simp only[decide_eq_true_eq];exactλe=>h (qK.mpr ⟨p,a,e⟩)];rfl
abbrev prS(p:Str×List Mt):q8:=.tuple [.str p.1,dS p.2]
theorem a5S:∀K:Kn,iD rJ (K.map prS)=some (enS K)|[]=>rfl|r::K=>by rw[qI];unfold iD;rw[show rJ (prS r)=some ((.inr r.1:Key),dS r.2)from rfl,a5S K];rfl
theorem c2c K:(enS K).map (·.1)=(K.map (·.1)).map zB:=by rw[qc,qc];rfl
theorem c3W{K:Kn}(nd:(K.map (·.1)).Nodup):((enS K).map (·.1)).Nodup:=by rw[c2c,zK,jK];exact List.Pairwise.imp (λ{a b}n z=>n (zI z)) nd
theorem a1X{K:Kn}(nd:(K.map (·.1)).Nodup) n:((cY K n).map (·.1)).Nodup:=(vy.map _).nodup nd
theorem a5J K n:n∉(cY K n).map (·.1):=λh=>by obtain⟨p,a,e⟩:=qK.mp h;have:=(qy.mp a).2;simp only[jr,decide_eq_false_iff_not]at this;exact this e
theorem b4m K n s:rH (enS (cY K n)) (.inr n) (dS s)=enS (fX K n s):=by unfold rH;rw[if_neg (by rw[vP];rintro⟨c,b,e⟩;obtain⟨p,a,rfl⟩:=qK.mp b;exact a5J K n (qK.mpr ⟨p,a,zI (of_decide_eq_true e)⟩))];unfold fX enS;rw[jC];rfl
noncomputable def dNm:Deed->Str|.lay n _=>n|.take n=>n|.add n _ _ _=>n|.drop n _=>n|.shift n _=>n|.merge n _=>n
theorem ix1 d:ixD (dD d) (.int 1)=some (.str (dNm d)):=by cases d<;>rfl
variable{d:Deed}
section
variable{K:Kn}
theorem b0q(a:KOk K) d:a7E 2 (aB tE aH) [.val (dKn K),.val (dD d),.no,.no]=some (.nx [.val (dKn K),.val (dD d),.dct (enS (cY K (dNm d))),.no]):=by
 have g:=a.few;have f:tE [.val (dKn K),.val (dD d),.no,.no]=some (.ok (.list ((cY K (dNm d)).map prS))):=by
  have e:((enS K).map λp=>(cD p.1,p.2)).map (·.1)=K.map λp=>qw p.1:=by rw[qc,qc];rfl
  have c:sU (.nm 0) (cJ [none,some 0,some 1] (xX [.val (dKn K),.val (dD d),.no,.no])) (bJ neD (var 0) (op2 ixD (var 2) (cst (.int 1)))) (eB (aB (var 0) (aB (op2 uM (var 1) (var 0)) aH))) (K.map λp=>qw p.1)=some ((cY K (dNm d)).map prS):=by
   refine a0G (t:=.nm 0) (ρb:=cJ [none,some 0,some 1] (xX [.val (dKn K),.val (dD d),.no,.no])) (λp=>qw p.1) (λp=>[.val (.str p.1),.val (dKn K),.val (dD d)]) (λp=>!decide (p.1=dNm d)) prS K (λp _=>rfl) (λp b=>?_) (λp b _=>?_);·exact cH (x:=.str p.1) (y:=.str (dNm d)) rfl (dL (x:=dD d) (y:=.int 1) rfl rfl (ix1 d)) (c0k _ _)
   ·rw[iZ,aN (x:=.str p.1) rfl (aN (dL (x:=dKn K) (y:=.str p.1) rfl rfl (a7T (a0T a.nd b))) rfl)];rfl
  show(if _ then _ else _)=_;rw[if_pos (by rw[qD,qD];exact decide_eq_true (by exact Q2 ‹_› rfl)),e,c]
 exact b5f (Y:=(cY K (dNm d)).map prS) (kvs:=enS (cY K (dNm d))) (aN f rfl) (a5S _) (c3W (a1X a.nd _)) (by rw[qD];exact qg (jN _ _) (by exact Q2 ‹_› rfl)) rfl
theorem b7K(b:KOk K) n:dI (enS (cY K n)).length=true:=by have a:=b.few;rw[qD];exact decide_eq_true (qg (jN _ _) (by exact Q2 ‹_› rfl))
theorem a3A(e:KOk K) d s{fr:EF}{x:q8}(c:fk [.val (dKn K),.val (dD d),.dct (enS (cY K (dNm d))),e3]=some (.ok (.str (dNm d))))(a:fv [.val (dKn K),.val (dD d),.dct (enS (cY K (dNm d))),e3]=some (.ok (dS s)))(b:fr [.val (dKn K),.val (dD d),.val (dKn (fX K (dNm d) s)),e3]=some (.ok x)):aY (a1q 2 fk fv) (a0U 2 (retS (eB (aB (var 2) (aB fr aH))))) [.val (dKn K),.val (dD d),.dct (enS (cY K (dNm d))),e3]=some (.rt (.tuple [dKn (fX K (dNm d) s),x])):=by rw[aO (ρ':=[.val (dKn K),.val (dD d),.dct (enS (fX K (dNm d) s)),e3]) (by rw[b4o (k:=.inr (dNm d)) (kd:=.str (dNm d)) (d:=dS s) (kvs:=enS (cY K (dNm d))) rfl a c rfl (b7K e _),b4m];rfl)];rw[b1k (kvs:=enS (fX K (dNm d) s)) rfl];show retS _ [.val (dKn K),.val (dD d),.val (dKn (fX K (dNm d) s)),e3]=_;rw[dJ,iZ,aN (x:=dKn (fX K (dNm d) s)) rfl (aN b rfl)];rfl
theorem c0y{g:q8->q8->Option Bool}{fb:EF}{x y:q8}{r:Bool}(b:fa Z=some (.ok x))(a:fb Z=some (.ok y))(h:g x y=some r):a8o g fa fb Z=some (.ok (.bool r)):=by rw[b6H,b,dF,a,dF,h];rfl
theorem b7p(h:aR K (dNm d)=none):mX [.val (dKn K),.val (dD d),e2,e3]=some (.ok true):=by have a:bJ rK (op2 ixD (var 1) (cst (.int 1))) (var 0) [.val (dKn K),.val (dD d),e2,e3]=some (.ok true):=cH (x:=.str (dNm d)) (y:=dKn K) (dL (x:=dD d) (y:=.int 1) rfl rfl (ix1 d)) rfl (by rw[b5c,h];rfl);show bnd (bJ rK (op2 ixD (var 1) (cst (.int 1))) (var 0) _) _=_;rw[a];rfl
theorem xY(h:aR K (dNm d)=some s):mX [.val (dKn K),.val (dD d),e2,e3]=b0u (bJ eqD (op2 ixD (var 1) (cst (.int 0))) (cst (.str "merge"))) (bJ rK (op2 ixD (var 1) (cst (.int 2))) (var 0)) [.val (dKn K),.val (dD d),e2,e3]:=by have a:bJ rK (op2 ixD (var 1) (cst (.int 1))) (var 0) [.val (dKn K),.val (dD d),e2,e3]=some (.ok false):=cH (x:=.str (dNm d)) (y:=dKn K) (dL (x:=dD d) (y:=.int 1) rfl rfl (ix1 d)) rfl (by rw[b5c,h];rfl);show bnd (bJ rK (op2 ixD (var 1) (cst (.int 1))) (var 0) _) _=_;rw[a];rfl
theorem a6T(h:aR K n=some s):mX [.val (dKn K),.val (dD (.merge n x)),e2,e3]=some (.ok (!(aR K x).isSome)):=by have b:bJ rK (op2 ixD (var 1) (cst (.int 2))) (var 0) [.val (dKn K),.val (dD (.merge n x)),e2,e3]=some (.ok (!(aR K x).isSome)):=cH (x:=.str x) (y:=dKn K) rfl rfl (b5c K x);exact(xY (d:=.merge n x) h).trans b
theorem nS(f:KOk K) d(e:aR K (dNm d)=some s)(b:iY [dS s,dD d,dKn K]=some (.ok (wdO ou))):(aY (fU 3 (bC iY (aB (op2 uM (var 0) (op2 ixD (var 1) (cst (.int 1)))) (aB (var 1) (aB (var 0) aH))))) (aY (ifS a1m (retS (eB (aB (var 0) (aB (var 3) aH)))) dG) (aY (a1q 2 (op2 ixD (var 1) (cst (.int 1))) (var 3)) (a0U 2 (retS (eB (aB (var 2) (aB (var 3) aH)))))))) [.val (dKn K),.val (dD d),.dct (enS (cY K (dNm d))),.no]=some (.rt (.tuple [dKn (bQ K (dNm d) ou).1,(bQ K (dNm d) ou).2])):=by rw[aO (ρ':=[.val (dKn K),.val (dD d),.dct (enS (cY K (dNm d))),.val (wdO ou)]) (by rw[iH,bR (O:=[dS s,dD d,dKn K]) (aN (dL (x:=dKn K) (y:=.str (dNm d)) rfl (dL (x:=dD d) (y:=.int 1) rfl rfl (ix1 d)) (a7T e)) rfl) b];rfl)];cases ou with|inl c=>exact fV rfl rfl|inr a=>rw[ifF rfl];exact a3A f d a (dL (x:=dD d) (y:=.int 1) rfl rfl (ix1 d)) rfl rfl
theorem b6k(f:KOk K) d:rB [dKn K,dD d]=some (.ok (.tuple [dKn (stepK K d).1,(stepK K d).2])):=by
 refine eE rfl ?_;show xJ [.val (dKn K),.val (dD d),.no,.no]=_;unfold xJ;rw[aO (b0q f d)];by_cases i:∃n s,d=.lay n s;·obtain⟨n,s,rfl⟩:=i;exact fV rfl (a3A f (.lay n s) s rfl rfl (c0y (x:=.str n) (y:=dKn K) rfl rfl (c4f K n)))
 have j:a1o [.val (dKn K),.val (dD d),.dct (enS (cY K (dNm d))),.no]=some (.ok false):=by cases d with|lay n s=>exact absurd ⟨n,s,rfl⟩ i|_=>rfl
 rw[ifF j];cases b:aR K (dNm d)with
 |none=>
  have e:stepK K d=(K,.str "no sheet"):=by cases d with|lay n s=>exact absurd ⟨n,s,rfl⟩ i|merge n x=>have a:aR K n=none:=b;show(match aR K n,aR K x with|some s,some o=>_|_,_=>_)=_;rw[a]|take n=>have a:aR K n=none:=b;show(match aR K n with|none=>_|some s=>_)=_;rw[a]|add n l t u=>have a:aR K n=none:=b;show(match aR K n with|none=>_|some s=>_)=_;rw[a]|drop n l=>have a:aR K n=none:=b;show(match aR K n with|none=>_|some s=>_)=_;rw[a]|shift n c=>have a:aR K n=none:=b;show(match aR K n with|none=>_|some s=>_)=_;rw[a]
  rw[e];exact fV (b7p b) rfl|some s=>have S:=f.gs _ (dO b);cases d with|lay n s=>exact absurd ⟨n,s,rfl⟩ i|take n=>
   have a:aR K n=some s:=b;have e:stepK K (.take n)=(cY K n,dS s):=by show(match aR K n with|none=>_|some s=>_)=_;rw[a]
   rw[e,ifF ((xY (d:=.take n) b).trans rfl)];refine fV rfl ?_;rw[b1k (kvs:=enS (cY K n)) rfl];rw[dJ,iZ,aN (x:=dKn (cY K n)) rfl (aN (dL (x:=dKn K) (y:=.str n) rfl rfl (a7T a)) rfl)];rfl|add n l t u=>
   have a:aR K n=some s:=b;have e:stepK K (.add n l t u)=bQ K n (a0c s l t u):=by show(match aR K n with|none=>_|some s=>_)=_;rw[a]
   rw[e,ifF ((xY (d:=.add n l t u) b).trans rfl),ifF rfl];exact nS f (.add n l t u) b (b5r S n l t u)|drop n l=>
   have a:aR K n=some s:=b;have e:stepK K (.drop n l)=bQ K n (nO s l):=by show(match aR K n with|none=>_|some s=>_)=_;rw[a]
   rw[e,ifF ((xY (d:=.drop n l) b).trans rfl),ifF rfl];exact nS f (.drop n l) b (b2H S n l)|shift n c=>
   have a:aR K n=some s:=b;have e:stepK K (.shift n c)=bQ K n (gX s c):=by show(match aR K n with|none=>_|some s=>_)=_;rw[a]
   rw[e,ifF ((xY (d:=.shift n c) b).trans rfl),ifF rfl];exact nS f (.shift n c) b (a9A S n c)|merge n x=>
   have a:aR K n=some s:=b;cases g:aR K x with|none=>
    have e:stepK K (.merge n x)=(K,.str "no sheet"):=by show(match aR K n,aR K x with|some s,some o=>_|_,_=>_)=_;rw[a,g]
    rw[e];exact fV ((a6T a).trans (by rw[g];rfl)) rfl|some o=>
    have e:stepK K (.merge n x)=bQ K n (iA s o):=by show(match aR K n,aR K x with|some s,some o=>_|_,_=>_)=_;rw[a,g]
    rw[e,ifF ((a6T a).trans (by rw[g];rfl)),ifF rfl];exact nS f (.merge n x) b (a9B S (f.gs _ (dO g)) n x g)
end
noncomputable def N4:List Str:=["a","tuv","bcde","wxyz"]
noncomputable def L6:List Str:=["a","b","cc","fghi","jklm","nopq"]
theorem b0W:∀n∈N4,jJ n=true:=by decide+kernel
theorem c0q:∀n∈L6,jJ n=true:=by decide+kernel
theorem a5Z:∀n∈N4,cR [.str n]=some (.ok (.bool true)):=by intro x a;simp only[N4,qM,kF,or_false]at a;obtain rfl|rfl|rfl|rfl:=a<;>kernel_rfl
def b7f:Deed->Prop|.lay n s=>n∈N4/\SheetOk s|.take n=>n∈N4|.add n l _ _=>n∈N4/\l∈L6|.drop n _=>n∈N4|.shift n _=>n∈N4|.merge n x=>n∈N4/\x∈N4
theorem KOk.rest{K:Kn}(h:KOk K) n:KOk (cY K n):=⟨a1X h.nd n,λp a=>h.gs p (qy.mp a).1,λp a=>h.ok p (qy.mp a).1,qg (jN _ _) h.few⟩
theorem KOk.put{K:Kn}(h:KOk K){n:Str}(d:jJ n=true)(S:Gs s)(i:K.length<30):KOk (fX K n s):=by
 unfold fX;refine⟨?_,λp c=>?_,λp c=>?_,?_⟩;·rw[jC,jL];exact⟨a1X h.nd n,by simp,λa g b f e=>by
   subst e;have:a=n:=by simpa using f
   subst this;exact a5J K _ g⟩
 ·obtain c|c:=qX.mp c;·exact h.gs p (qy.mp c).1
  ·obtain rfl:p=(n,s):=by simpa using c
   exact S
 ·obtain c|c:=qX.mp c;·exact h.ok p (qy.mp c).1
  ·obtain rfl:p=(n,s):=by simpa using c
   exact d
 ·rw[qe];have:(cY K n).length<=K.length:=jN _ _;simp only[qZ,kP];exact Q6 ‹_› ‹_›
theorem b0F K n s:(fX K n s).length<=K.length+1:=by unfold fX;rw[qe];have:(cY K n).length<=K.length:=jN _ _;simp only[qZ,kP];lia
structure BR(K:Kn)(b:BS):Prop where
 ex:∃L:Kn,b.sh=enS L/\L.Perm K
 un:b.un=[]
variable{b:BS}
section
variable{K:Kn}
theorem b5T{L:Kn}(nd:(K.map (·.1)).Nodup)(h:L.Perm K) x:aR L x=aR K x:=by have a:=(h.map _).nodup_iff.mpr nd;cases q:aR K x with|some s=>exact a0T a (h.mem_iff.mpr (dO q))|none=>refine b5U λb=>?_;obtain⟨p,c,e⟩:=qK.mp ((h.map (·.1)).mem_iff.mp b);have:=a0T nd c;rw[e,q]at this;cases this
theorem BR.sheet(R:BR K b)(a:KOk K) x:bSh b x=(aR K x).map dS:=by obtain⟨L,e,p⟩:=R.ex;show dQ (.inr x) (b.sh.map λp=>(cD p.1,p.2))=_;rw[e,a6k,b5T a.nd p]
theorem BR.sz(R:BR K b)(c:KOk K):dI b.sh.length=true:=by obtain⟨L,e,p⟩:=R.ex;have a:=c.few;rw[e];rw[qD,p.length_eq];exact decide_eq_true (by exact Q2 ‹_› rfl)
theorem a7y{K:Kn}(nd:(K.map (·.1)).Nodup):K.Nodup:=by rw[zK,jK]at nd;exact nd.imp λ{a b}n z=>n (by rw[z])
theorem a6e{q:Str×List Mt}:q∈fX K n s↔(q∈K/\q.1≠n)\/q=(n,s):=by unfold fX cY;rw[qX,qy];simp
theorem BR.put(R:BR K b)(o:KOk K) w n s(G:jJ n=true):BR (fX K n s) (behind b w n (dS s)):=by
 obtain⟨L,e,p⟩:=R.ex;have t:=(p.map _).nodup_iff.mpr o.nd;have d:((fX K n s).map (·.1)).Nodup:=by unfold fX;rw[jC,jL];exact⟨a1X o.nd n,by simp,λa C b A e=>by
   subst e;have:a=n:=by simpa using A
   subst this;exact a5J K _ C⟩
 refine⟨?_,rfl⟩;show∃k:Kn,rH b.sh (.inr n) (dS s)=enS k/\k.Perm (fX K n s);rw[e];unfold rH;by_cases h:((enS L).any λj=>decide (j.1=.inr n))=true
 ·rw[if_pos h];refine⟨L.map λq=>if q.1=n then(q.1,s)else q,?_,?_⟩
  ·unfold enS;rw[qc,qc];refine zh λq _=>?_;show(if(zB q.1:Key)=.inr n then((zB q.1:Key),dS s)else(.inr q.1,dS q.2))=_;by_cases c:q.1=n;·rw[if_pos (by rw[c])];show _=((.inr (if q.1=n then(q.1,s)else q).1:Key),dS (if q.1=n then(q.1,s)else q).2);rw[if_pos c]
   ·rw[if_neg (λz=>c (zI z))];show _=((.inr (if q.1=n then(q.1,s)else q).1:Key),dS (if q.1=n then(q.1,s)else q).2);rw[if_neg c]
  ·have E:(L.map λq=>if q.1=n then(q.1,s)else q).map (·.1)=L.map (·.1):=by rw[qc];refine zh λq _=>?_;show(if q.1=n then(q.1,s)else q).1=q.1;split<;>rfl
   refine(kz (a7y (by rwa[E])) (a7y d)).mpr λq=>?_;rw[a6e,qK];obtain⟨j,y,g⟩:=vP.mp h;obtain⟨r,v,rfl⟩:=qK.mp y;have i:=zI (of_decide_eq_true g);constructor
   ·rintro⟨z,u,rfl⟩;by_cases c:z.1=n;·rw[if_pos c,c];exact .inr rfl
    ·rw[if_neg c];exact .inl ⟨p.mem_iff.mp u,c⟩
   ·rintro(⟨B,D⟩|rfl);·exact⟨q,p.mem_iff.mpr B,if_neg D⟩
    ·exact⟨r,v,by rw[if_pos i,i]⟩
 ·rw[if_neg h];refine⟨L++[(n,s)],by unfold enS;rw[jC];rfl,?_⟩;have no:∀q∈L,q.1≠n:=λq f e=>h (vP.mpr ⟨_,jm f,decide_eq_true (by rw[e])⟩);have F:cY L n=L:=List.filter_eq_self.mpr λq f=>by simpa using no q f
  refine List.Perm.append_right _ ?_;conv=>lhs;rw[<-F]
  exact p.filter _
theorem BR.drop(R:BR K b) w n:BR (cY K n) (behind b w n .none):=by obtain⟨L,e,p⟩:=R.ex;refine⟨⟨cY L n,?_,p.filter _⟩,rfl⟩;show xM b.sh (.inr n)=_;rw[e];unfold xM enS cY;rw[List.filter_map];congr 1;refine List.filter_congr λq _=>?_;show decide ((zB q.1:Key)≠.inr n)=!decide (q.1=n);rw[jz,decide_eq_true_eq,jr,decide_eq_false_iff_not];exact⟨λh z=>h (by rw[z]),λh z=>h (zI z)⟩
end
def mF:Deed->BS->Option (Re q8×BS)|.lay n s=>λb=>a0d b [.str n,dS s]|.take n=>λb=>oW b [.str n]|.add n l t u=>λb=>uJ b [.str n,.str l,.int t,.int u]|.drop n l=>λb=>oY b [.str n,.str l]|.shift n c=>λb=>lX b [.str n,.int c]|.merge n x=>λb=>iK b [.str n,.str x]
variable{ft:OTF}{fb:OEF}
theorem b5I{fa:OEF}(h:ft Z β=some (.ok true,β')):a9K ft fa fb Z β=fa Z β':=by unfold a9K;rw[h];rfl
theorem b5J{fa:OEF}(h:ft Z β=some (.ok false,β')):a9K ft fa fb Z β=fb Z β':=by unfold a9K;rw[h];rfl
theorem yB{f g h:OSF}{d:q8}(a:ft Z β=some (.ok true,β))(b:f Z β=some (.rt d,β')):eO (ifO ft f g) h Z β=some (.rt d,β'):=b7B (by rwa[c0s a])
theorem gY{f h:OSF}(a:ft Z β=some (.ok false,β)):eO (ifO ft f b5d) h Z β=h Z β:=fB (by rw[c0t a];rfl)
theorem c4t{v:q8}(g:mF d b=some (r,b'))(f:uP cE dR r=some v):a0f b [dD d]=some (.ok v,b'):=by
 refine eS rfl λa=>?_;show oR a (a2e [.adr a,.val (dD d)] [(a,b)])=_;have e:∀d:q8,vw [(a,b)] [.adr a,.val d]=[.ro (some a) b,.val d]:=λd=>vwS rfl;have i:a2e [.adr a,.val (dD d)] [(a,b)]=some (.rt v,[(a,b')]):=by cases d with|lay n s=>refine yB (eQ (e _) rfl) (pN (oK (r:=r) (β':=[(a,b')]) ?_ f));exact(b5I (eQ (e _) rfl)).trans ((fF (a:=a) (O:=[.str n,dS s]) rfl bZ (by rw[e];rfl) g).trans (by rw[cO]))|take n=>refine yB (eQ (e _) rfl) (pN (oK (r:=r) (β':=[(a,b')]) ?_ f));exact(b5J (eQ (e _) rfl)).trans ((fF (a:=a) (O:=[.str n]) rfl bZ (by rw[e];rfl) g).trans (by rw[cO]))|add n l t u=>refine(gY (eQ (e _) rfl)).trans (yB (eQ (e _) rfl) (pN (oK (r:=r) (β':=[(a,b')]) ?_ f)));show a7O [.adr a,.val (dD (.add n l t u))] [(a,b)]=_;exact(fF (a:=a) (O:=[.str n,.str l,.int t,.int u]) rfl bZ (by rw[e];rfl) g).trans (by rw[cO])|drop n l=>refine(gY (eQ (e _) rfl)).trans ((gY (eQ (e _) rfl)).trans (yB (eQ (e _) rfl) (pN (oK (r:=r) (β':=[(a,b')]) ?_ f))));show a7N [.adr a,.val (dD (.drop n l))] [(a,b)]=_;exact(fF (a:=a) (O:=[.str n,.str l]) rfl bZ (by rw[e];rfl) g).trans (by rw[cO])|shift n c=>refine(gY (eQ (e _) rfl)).trans ((gY (eQ (e _) rfl)).trans ((gY (eQ (e _) rfl)).trans (pN (oK (r:=r) (β':=[(a,b')]) ?_ f))));exact(b5I (eQ (e _) rfl)).trans ((fF (a:=a) (O:=[.str n,.int c]) rfl bZ (by rw[e];rfl) g).trans (by rw[cO]))|merge n x=>refine(gY (eQ (e _) rfl)).trans ((gY (eQ (e _) rfl)).trans ((gY (eQ (e _) rfl)).trans (pN (oK (r:=r) (β':=[(a,b')]) ?_ f))));exact(b5J (eQ (e _) rfl)).trans ((fF (a:=a) (O:=[.str n,.str x]) rfl bZ (by rw[e];rfl) g).trans (by rw[cO]))
 rw[i];exact a2P
noncomputable def Cls:List Str:=["Taken","NoTime","TooMany","NoMeeting","NoSheet"]
theorem b1Q:∀c∈Cls,uP cE dR (.ex c)=some (.str (word c)):=by intro c a;simp only[Cls,qM,kF,or_false]at a;obtain rfl|rfl|rfl|rfl|rfl:=a<;>kernel_rfl
variable{c:Str}
theorem b7c{t u:Int}(h:a0c s l t u=.inl c):c∈Cls:=by
 unfold a0c at h;split at h;·cases h;simp[Cls]
 ·split at h
  ·split at h;·cases h
   ·cases h;simp[Cls]
  ·cases h;simp[Cls]
theorem b3f(h:nO s l=.inl c):c∈Cls:=by
 unfold nO at h;split at h;·cases h
 ·cases h;simp[Cls]
variable{k:Int}
theorem a8R(h:gX s k=.inl c):c∈Cls:=by
 unfold gX at h;split at h;·cases h
 ·cases h;simp[Cls]
theorem a9w{o:List Mt}(h:iA s o=.inl c):c∈Cls:=by
 unfold iA at h;split at h
 ·split at h;·cases h
  ·cases h;simp[Cls]
 ·cases h;simp[Cls]
variable{w:Str}
section
variable{K:Kn}
def Beh(K:Kn)(b:BS)(d:Deed):Prop:=∃r b',mF d b=some (r,b')/\uP cE dR r=some (stepK K d).2/\BR (stepK K d).1 b'/\b'.dn.length<=b.dn.length+1
theorem b9m(R:BR K b)(e:KOk K){n:Str}(a:jJ n=true)(d:∀c,ou=.inl c->c∈Cls):∃b',did b w n (reO ou)=(reO ou,b')/\uP cE dR (reO ou)=some (bQ K n ou).2/\BR (bQ K n ou).1 b'/\b'.dn.length<=b.dn.length+1:=by cases ou with|inl c=>exact⟨b,rfl,b1Q c (d c rfl),R,by lia⟩|inr s=>exact⟨behind b w n (dS s),rfl,rfl,R.put e w n s a,by show(b.dn++[_]).length<=_;rw[qe];simp⟩
theorem a6E(R:BR K b)(e:KOk K)(f:b.dn.length<=1000){n:Str} a:a1H b n (reO a)=true:=by have B:dI b.dn.length=true:=decide_eq_true (by exact Q2 ‹_› rfl);have d:=R.sz e;unfold a1H;rw[B,Bool.true_and];cases a with|inl c=>rfl|inr s=>show(dI b.sh.length&&true)=true;rw[d];rfl
theorem oU(R:BR K b)(c:KOk K){n:Str}(a:n∈N4)(h:aR K n=none):aI b [.str n]=some (.ex "NoSheet"):=a7C (.inr ⟨n,rfl,a5Z n a,by rw[R.sheet c,h];rfl⟩)
theorem gL(R:BR K b)(c:KOk K){n:Str}(a:n∈N4)(h:aR K n=some s):aI b [.str n]=some (.ok (dS s)):=a9X (a5Z n a) (by rw[R.sheet c,h];rfl)
theorem b1R:uP cE dR (.ex "NoSheet")=some (.str "no sheet"):=by kernel_rfl
theorem a1h(R:BR K b)(h:mF d b=some (.ex "NoSheet",b))(e:stepK K d=(K,.str "no sheet")):Beh K b d:=⟨_,b,h,by rw[e];exact b1R,by rwa[e],by lia⟩
theorem a2g(R:BR K b)(j:KOk K){n:Str}(a:n∈N4)(f:∀c,ou=.inl c->c∈Cls)(h:mF d b=some (did b w n (reO ou)))(e:stepK K d=bQ K n ou):Beh K b d:=by obtain⟨i,B,o,k,g⟩:=b9m R j (w:=w) (b0W n a) f;exact⟨reO ou,i,by rw[h,B],by rwa[e],by rwa[e],g⟩
theorem c4u(R:BR K b)(f:KOk K)(k:b.dn.length<=1000) d(g:b7f d):Beh K b d:=by have i:dI b.dn.length=true:=decide_eq_true (by exact Q2 ‹_› rfl);cases d with
 |lay n s=>
  have p:tN b n (dS s)=true:=by show(dI b.sh.length&&true)=true;rw[R.sz f];rfl
  refine⟨_,_,c4s (a5Z n g.1) g.2.yes p i,?_,R.put f "lay" n s (b0W n g.1),by show(b.dn++[_]).length<=_;rw[qe];simp⟩;show some (wP (bSh b n).isSome)=some (.bool (aR K n).isSome);rw[R.sheet f,zT]|take n=>cases a:aR K n with|none=>exact a1h R (b8u (oU R f g a)) (by show(match aR K n with|none=>_|some s=>_)=_;rw[a])|some s=>
   have e:stepK K (.take n)=(cY K n,dS s):=by show(match aR K n with|none=>_|some s=>_)=_;rw[a]
   have p:tN b n .none=true:=by show(dI b.sh.length&&(bSh b n).isSome)=true;rw[R.sz f,R.sheet f,a];rfl
   exact⟨_,_,c2B (gL R f g a) p i,by rw[e];rfl,by rw[e];exact R.drop "take" n,by show(b.dn++[_]).length<=_;rw[qe];simp⟩|add n l t u=>cases a:aR K n with|none=>exact a1h R (c1M (oU R f g.1 a)) (by show(match aR K n with|none=>_|some s=>_)=_;rw[a])|some s=>exact a2g R f g.1 (λc=>b7c) (c4w (gL R f g.1 a) (c2F (f.gs _ (dO a)) l t u) (a6E R f k _)) (by show(match aR K n with|none=>_|some s=>_)=_;rw[a])
 |drop n l=>cases a:aR K n with|none=>exact a1h R (b8v (oU R f g a)) (by show(match aR K n with|none=>_|some s=>_)=_;rw[a])|some s=>exact a2g R f g (λc=>b3f) (c2C (gL R f g a) (b9i (f.gs _ (dO a)) l) (a6E R f k _)) (by show(match aR K n with|none=>_|some s=>_)=_;rw[a])
 |shift n c=>cases a:aR K n with|none=>exact a1h R (b4Y (oU R f g a)) (by show(match aR K n with|none=>_|some s=>_)=_;rw[a])|some s=>exact a2g R f g (λc=>a8R) (b9d (gL R f g a) (b6h (f.gs _ (dO a)) c) (a6E R f k _)) (by show(match aR K n with|none=>_|some s=>_)=_;rw[a])
 |merge n x=>cases a:aR K n with|none=>exact a1h R (b4Z (oU R f g.1 a)) (by show(match aR K n,aR K x with|some s,some o=>_|_,_=>_)=_;rw[a])|some s=>cases j:aR K x with|none=>exact a1h R (b2w (gL R f g.1 a) (oU R f g.2 j)) (by show(match aR K n,aR K x with|some s,some o=>_|_,_=>_)=_;rw[a,j])|some o=>exact a2g R f g.1 (λc=>a9w) (b9f (gL R f g.1 a) (gL R f g.2 j) (b6j (f.gs _ (dO a)).rw (f.gs _ (dO j)).rw) (a6E R f k _)) (by show(match aR K n,aR K x with|some s,some o=>_|_,_=>_)=_;rw[a,j])
theorem a0a(b:KOk K)(a:K.length<30){n:Str}(d:n∈N4)(e:∀s,ou=.inr s->Gs s):KOk (bQ K n ou).1/\(bQ K n ou).1.length<=K.length+1:=by cases ou with|inl c=>exact⟨b,by show K.length<=_;omega⟩|inr s=>exact⟨b.put (b0W n d) (e s rfl) a,b0F K n s⟩
theorem b7r(a:KOk K)(b:K.length<30) d(f:b7f d):KOk (stepK K d).1/\(stepK K d).1.length<=K.length+1:=by have same:KOk K/\K.length<=K.length+1:=⟨a,by omega⟩;cases d with
 |lay n s=>exact⟨a.put (b0W n f.1) f.2.gs b,b0F K n s⟩|take n=>show KOk (match aR K n with|none=>(K,qw "no sheet")|some s=>(cY K n,dS s)).1/\(match aR K n with|none=>(K,qw "no sheet")|some s=>(cY K n,dS s)).1.length<=_;cases e:aR K n with|none=>exact same|some s=>exact⟨a.rest n,qg (jN _ _) (by omega)⟩
 |add n l t u=>show KOk (match aR K n with|none=>(K,qw "no sheet")|some s=>bQ K n (a0c s l t u)).1/\(match aR K n with|none=>(K,qw "no sheet")|some s=>bQ K n (a0c s l t u)).1.length<=_;cases e:aR K n with|none=>exact same|some s=>exact a0a a b f.1 λg=>b1I (a.gs _ (dO e)) (c0q l f.2)
 |drop n l=>show KOk (match aR K n with|none=>(K,qw "no sheet")|some s=>bQ K n (nO s l)).1/\(match aR K n with|none=>(K,qw "no sheet")|some s=>bQ K n (nO s l)).1.length<=_;cases e:aR K n with|none=>exact same|some s=>exact a0a a b f λg=>a8f (a.gs _ (dO e))
 |shift n c=>show KOk (match aR K n with|none=>(K,qw "no sheet")|some s=>bQ K n (gX s c)).1/\(match aR K n with|none=>(K,qw "no sheet")|some s=>bQ K n (gX s c)).1.length<=_;cases e:aR K n with|none=>exact same|some s=>exact a0a a b f λg=>a4v (a.gs _ (dO e))
 |merge n x=>show KOk (match aR K n,aR K x with|some s,some o=>bQ K n (iA s o)|_,_=>(K,qw "no sheet")).1/\(match aR K n,aR K x with|some s,some o=>bQ K n (iA s o)|_,_=>(K,qw "no sheet")).1.length<=_;cases e:aR K n with|none=>exact same|some s=>cases i:aR K x with|none=>exact same|some o=>exact a0a a b f.1 λg=>a4O (a.gs _ (dO e)) (a.gs _ (dO i))
end
theorem b5A(L:T0q){p:Int}(b:0<=p)(B:p<L.length):∃n∈L,ixD (.list (L.map .str)) (.int p)=some (.str n):=by
 have a:p.toNat<L.length:=by lia
 refine⟨L.getD p.toNat "",?_,a2h qw b B ""⟩;rw[qT,qG a];exact jR a
theorem a5u{d:q8}(h:fa Z=some (.ok d))(a:tgD t Z d=some ρ'):a1J t fa Z=some (.nx ρ'):=by unfold a1J;rw[h];show(tgD t Z d).map So.nx=_;rw[a];rfl
abbrev q8d(ns:T0s)(at':Int)(n:Str)(p:Int)(e6 e7:Ent):List Ent:=[.val (dN ns),.val (.int at'),.val (.list (N4.map .str)),.val (.list (L6.map .str)),.val (.str n),.val (.int p),e6,e7]
theorem c2D ns at'(P:0<=at'):∃d,b7f d/\tV [dN ns,.int at']=some (.ok (dD d)):=by
 have I:=lD ns at' 4 P (by decide);have H:=lD ns (at'+1) 9 (by lia) (by decide);have G:=lD ns (at'+2) 6 (by lia) (by decide);have F:=lD ns (at'+3) 30 (by lia) (by decide);have E:=lD ns (at'+4) 9 (by lia) (by decide);have D:=lD ns (at'+5) 41 (by lia) (by decide);have C:=lD ns (at'+6) 4 (by lia) (by decide);have A:=b9e ns (at'+10) 4 (by lia) (by decide) (by decide);have z:=b4a ns (at'+10) (most:=4) (by decide) (by decide);obtain⟨n,e,J⟩:=b5A N4 (hV ns at' (many:=4) (by decide)) (show pickOf ns at' 4<4 from hZ ns at' (by decide));obtain⟨l,N,K⟩:=b5A L6 (hV ns (at'+2) (many:=6) (by decide)) (show pickOf ns (at'+2) 6<6 from hZ ns (at'+2) (by decide));obtain⟨x,M,ex⟩:=b5A N4 (hV ns (at'+6) (many:=4) (by decide)) (show pickOf ns (at'+6) 4<4 from hZ ns (at'+6) (by decide));generalize pickOf ns at' 4=p0 at I J;generalize pickOf ns (at'+1) 9=p1 at H;generalize pickOf ns (at'+2) 6=p2 at G K;generalize pickOf ns (at'+3) 30=p3 at F;generalize pickOf ns (at'+4) 9=p4 at E;generalize pickOf ns (at'+5) 41=p5 at D;generalize pickOf ns (at'+6) 4=p6 at C ex;generalize nB ns (at'+10) 4=s at A z;have k:fU 2 (pR (aB (cst (.str "a")) (aB (cst (.str "tuv")) (aB (cst (.str "bcde")) (aB (cst (.str "wxyz")) aH))))) [.val (dN ns),.val (.int at'),.no,.no,.no,.no,.no,.no]=some (.nx [.val (dN ns),.val (.int at'),.val (.list (N4.map .str)),.no,.no,.no,.no,.no]):=rfl;have j:fU 3 (pR (aB (cst (.str "a")) (aB (cst (.str "b")) (aB (cst (.str "cc")) (aB (cst (.str "fghi")) (aB (cst (.str "jklm")) (aB (cst (.str "nopq")) aH))))))) [.val (dN ns),.val (.int at'),.val (.list (N4.map .str)),.no,.no,.no,.no,.no]=some (.nx [.val (dN ns),.val (.int at'),.val (.list (N4.map .str)),.val (.list (L6.map .str)),.no,.no,.no,.no]):=rfl;have i:a1J (.tp [4,5]) (eB (aB (op2 ixD (var 2) (bC bN (aB (var 0) (aB (var 1) (aB (cst (.int 4)) aH))))) (aB (bC bN (aB (var 0) (aB (op2 cF (var 1) (cst (.int 1))) (aB (cst (.int 9)) aH)))) aH))) [.val (dN ns),.val (.int at'),.val (.list (N4.map .str)),.val (.list (L6.map .str)),.no,.no,.no,.no]=some (.nx (q8d ns at' n p1 .no .no)):=by refine a5u (d:=.tuple [.str n,.int p1]) ?_ rfl;rw[iZ,aN (dL (x:=.list (N4.map .str)) (y:=.int p0) rfl (bR (O:=[dN ns,.int at',.int 4]) rfl I) J) (aN (bR (O:=[dN ns,.int (at'+1),.int 9]) rfl H) rfl)];rfl
 have t:a1J (.tp [6,7]) (eB (aB (op2 ixD (var 3) (bC bN (aB (var 0) (aB (op2 cF (var 1) (cst (.int 2))) (aB (cst (.int 6)) aH))))) (aB (op2 b1Y (bC bN (aB (var 0) (aB (op2 cF (var 1) (cst (.int 3))) (aB (cst (.int 30)) aH)))) (cst (.int 1))) aH))) (q8d ns at' n p1 .no .no)=some (.nx (q8d ns at' n p1 (.val (.str l)) (.val (.int (p3-1))))):=by refine a5u (d:=.tuple [.str l,.int (p3-1)]) ?_ rfl;rw[iZ,aN (dL (x:=.list (L6.map .str)) (y:=.int p2) rfl (bR (O:=[dN ns,.int (at'+2),.int 6]) rfl G) K) (aN (dL (x:=.int p3) (y:=.int 1) (bR (O:=[dN ns,.int (at'+3),.int 30]) rfl F) rfl rfl) rfl)];rfl
 have f:∀d:Deed,iV [.val (dN ns),.val (.int at'),.no,.no,.no,.no,.no,.no]=some (.rt (dD d))->tV [dN ns,.int at']=some (.ok (dD d)):=λd h=>eE rfl h;have c:∀b a,a4r (q8d ns at' n p1 b a)=some (.ok (decide (p1<3))):=λ_ _=>rfl;have o:∀b a,a4o (q8d ns at' n p1 b a)=some (.ok (decide (p1=3))):=λ_ _=>rfl;have q:∀b a,a4n (q8d ns at' n p1 b a)=some (.ok (decide (p1<6))):=λ_ _=>rfl;have u:∀b a,a4m (q8d ns at' n p1 b a)=some (.ok (decide (p1=6))):=λ_ _=>rfl;have w:∀b a,a4k (q8d ns at' n p1 b a)=some (.ok (decide (p1=7))):=λ_ _=>rfl;by_cases g:p1<3;·refine⟨.lay n s,⟨e,z⟩,f _ ?_⟩;unfold iV;rw[aO k,aO j,aO i];refine fV (by rw[c,decide_eq_true g]) ?_;rw[dJ,iZ,aN (x:=.str "lay") rfl (aN (x:=.str n) rfl (aN (bR (O:=[dN ns,.int (at'+10),.int 4]) rfl A) rfl))];rfl
 by_cases p:p1=3;·refine⟨.take n,e,f _ ?_⟩;unfold iV;rw[aO k,aO j,aO i,ifF (by rw[c,decide_eq_false g])];exact fV (by rw[o,decide_eq_true p]) rfl
 by_cases r:p1<6;·refine⟨.add n l (p3-1) (p3-1+p4),⟨e,N⟩,f _ ?_⟩;unfold iV;rw[aO k,aO j,aO i,ifF (by rw[c,decide_eq_false g]),ifF (by rw[o,decide_eq_false p]),aO t];refine fV (by rw[q,decide_eq_true r]) ?_;rw[dJ,iZ,aN (x:=.str "add") rfl (aN (x:=.str n) rfl (aN (x:=.str l) rfl (aN (x:=.int (p3-1)) rfl (aN (dL (x:=.int (p3-1)) (y:=.int p4) rfl (bR (O:=[dN ns,.int (at'+4),.int 9]) rfl E) rfl) rfl))))];rfl
 by_cases v:p1=6;·refine⟨.drop n l,e,f _ ?_⟩;unfold iV;rw[aO k,aO j,aO i,ifF (by rw[c,decide_eq_false g]),ifF (by rw[o,decide_eq_false p]),aO t,ifF (by rw[q,decide_eq_false r])];exact fV (by rw[u,decide_eq_true v]) rfl
 by_cases L:p1=7;·refine⟨.shift n (p5-12),e,f _ ?_⟩;unfold iV;rw[aO k,aO j,aO i,ifF (by rw[c,decide_eq_false g]),ifF (by rw[o,decide_eq_false p]),aO t,ifF (by rw[q,decide_eq_false r]),ifF (by rw[u,decide_eq_false v])];refine fV (by rw[w,decide_eq_true L]) ?_;rw[dJ,iZ,aN (x:=.str "shift") rfl (aN (x:=.str n) rfl (aN (dL (x:=.int p5) (y:=.int 12) (bR (O:=[dN ns,.int (at'+5),.int 41]) rfl D) rfl rfl) rfl))];rfl
 ·refine⟨.merge n x,⟨e,M⟩,f _ ?_⟩;unfold iV;rw[aO k,aO j,aO i,ifF (by rw[c,decide_eq_false g]),ifF (by rw[o,decide_eq_false p]),aO t,ifF (by rw[q,decide_eq_false r]),ifF (by rw[u,decide_eq_false v]),ifF (by rw[w,decide_eq_false L])];rw[dJ,iZ,aN (x:=.str "merge") rfl (aN (x:=.str n) rfl (aN (dL (x:=.list (N4.map .str)) (y:=.int p6) rfl (bR (O:=[dN ns,.int (at'+6),.int 4]) rfl C) ex) rfl))];rfl
theorem sP{F:BS->List q8->Mm q8}{fa:AF}(a:Z[i]?=some (.ro oa b))(c:fa Z=some (.ok O))(d:F b O=some r):fQ F i fa Z=some r:=by unfold fQ;rw[a];rwa[c]
def snm(K:Kn):List Str:=gW (K.map (·.1))
def yA(K:Kn):Kn:=(snm K).map λx=>(x,(aR K x).getD [])
theorem b0v:∀K:Kn,a6N ((enS K).map λp=>(cD p.1,p.2))=some (K.map (·.1))|[]=>rfl|r::K=>by show(match c2i (qw r.1,dS r.2),a6N ((enS K).map λp=>(cD p.1,p.2))with|some x,some Y=>some (x::Y)|_,_=>none)=_;rw[b0v K];rfl
theorem c3B{K:Kn}(h:K.length<64):a1p [dKn K]=some (.list ((snm K).map .str)):=by show(match a6N ((enS K).map λp=>(cD p.1,p.2))with|some a=>if a.length<64 then some (q8.list ((gW a).map .str))else none|none=>none)=_;rw[b0v];dsimp only;rw[if_pos (by rwa[qD])];rfl
section
variable{K:Kn}
theorem a8b(R:BR K b)(c:KOk K):gQ b []=some (.ok (.list ((snm K).map .str))):=by
 obtain⟨L,e,p⟩:=R.ex;have a:=c.few;have h:a6N (bD b)=some (L.map (·.1)):=by unfold bD;rw[e];exact b0v L
 rw[a9Y h (by rw[qD,p.length_eq];exact Q0 ‹_› rfl)];unfold snm;rw[pE (((bX _).trans (p.map _)).trans (bX _).symm) (gT _) (gT _)]
theorem a5z{x:Str}:x∈snm K↔x∈K.map (·.1):=(bX _).mem_iff
theorem c0Y(a:KOk K):(snm K).Nodup:=(bX _).nodup_iff.mpr a.nd
theorem a8M K:(yA K).map (·.1)=snm K:=by unfold yA;rw[qc];exact List.map_id' _
theorem c4v(R:BR K b)(a:KOk K)(g:∀p∈K,p.1∈N4):rC b []=some (.ok (dKn (yA K))):=by
 have f:=a.few;have i:(snm K).length<=30:=by unfold snm;rwa[(bX _).length_eq,qD]
 refine a1V rfl ?_;show retS (cQ yP (aB tF aH)) [.ro none b]=_;have k:tF [.ro none b]=some (.ok (.list ((yA K).map prS))):=by unfold yA;rw[qc];refine lV (t:=.nm 0) (cap:=[none,some 0]) (fi:=mW (fQ gQ 0 aH)) (fe:=eB (aB (var 0) (aB (fQ aI 1 (aB (var 0) aH)) aH))) (Z:=[.ro none b]) qw (λx=>[.val (.str x),.ro none b]) (λx=>prS (x,(aR K x).getD [])) (snm K) (yC (sP (O:=[]) rfl rfl (a8b R a)) rfl) (by exact Q2 ‹_› rfl) (λx _=>rfl) (λx e=>?_);obtain⟨p,c,rfl⟩:=qK.mp (a5z.mp e);have d:=a0T a.nd c;rw[iZ,aN (x:=.str p.1) rfl (aN (sP (O:=[.str p.1]) rfl rfl (gL R a (g p c) d)) rfl),d];rfl
 rw[dJ,eY (O:=[.list ((yA K).map prS)]) (aN k rfl) (a8g (a5S _) (c3W (by rw[a8M];exact c0Y a)) (by rw[qD];unfold yA;rw[qD];exact Q2 ‹_› rfl))];rfl
theorem b0g(h:∀m∈s,jJ m.1=true):jD (dS s)=true/\jS (dS s)<=3:=by
 constructor;·rw[jD];exact pX λd a=>by obtain⟨m,b,rfl⟩:=qK.mp a;exact ku (a4y (h m b))
 ·rw[jS];have:=tL (O:=s.map dM) (n:=2) λd a=>by obtain⟨m,b,rfl⟩:=qK.mp a;simp[jS,kX]
  exact Q0 ‹_› rfl
theorem b4k(h:∀p∈K,Gs p.2):sK ((enS K).map λp=>(cD p.1,p.2))=true:=by unfold sK;rw[qp];intro q b;obtain⟨r,a,rfl⟩:=qK.mp b;obtain⟨p,d,rfl⟩:=qK.mp a;have c:=b0g (h p d).ok;show(true&&(jD (dS p.2)&&decide (jS (dS p.2)<=16)))=true;rw[c.1,decide_eq_true (by lia)];rfl
theorem a7K x:∀K:Kn,za (.str x) ((enS K).map λp=>(cD p.1,p.2))=(aR K x).map dS
 |[]=>rfl|r::K=>by
  show(if Spec.same (cD (.inr r.1)) (cD (.inr x))then some (dS r.2)else za (.str x) ((enS K).map λp=>(cD p.1,p.2)))=_;rw[a0t];unfold aR;by_cases c:r.1=x;·rw[if_pos (decide_eq_true (by rw[c])),vR (by simpa using c)];rfl
  ·rw[if_neg (by simpa using c),a7K x K,vS (by simpa using c)];rfl
theorem a7Y:∀a:List (q8×q8),(∀p∈a,za p.1 Db=some p.2/\p.2.eqv p.2=true)->pW Db a=true|[],_=>rfl|p::a,h=>by unfold pW;rw[(h p qa).1];dsimp only;rw[(h p qa).2,a7Y a λq b=>h q (qF _ b)];rfl
theorem b0D(c:KOk K)(h:p∈yA K):p∈K:=by obtain⟨x,a,rfl⟩:=qK.mp h;obtain⟨q,b,rfl⟩:=qK.mp (a5z.mp a);have:=a0T c.nd b;rwa[this]
theorem c5x(a:KOk K):b8x (dKn (yA K)) (dKn K)=some false:=by
 show(if sK ((enS (yA K)).map λp=>(cD p.1,p.2))&&sK ((enS K).map λp=>(cD p.1,p.2))then some (!(decide (((enS (yA K)).map λp=>(cD p.1,p.2)).length=((enS K).map λp=>(cD p.1,p.2)).length)&&pW ((enS K).map λp=>(cD p.1,p.2)) ((enS (yA K)).map λp=>(cD p.1,p.2))))else none)=_;rw[b4k a.gs,b4k λp b=>a.gs p (b0D a b)];rw[decide_eq_true (by rw[qD,qD,qD,qD];unfold yA snm;rw[qD,(bX _).length_eq,qD]),a7Y _ λq e=>?_];·rfl
 ·obtain⟨r,d,rfl⟩:=qK.mp e;obtain⟨p,b,rfl⟩:=qK.mp d;have c:=b0D a b;refine⟨?_,SeqAt.eqv_refl _ (b0g (a.gs p c).ok).1⟩;show za (.str p.1) _=some (dS p.2);rw[a7K,a0T a.nd c];rfl
theorem b5g(c:KOk K):neD (.list ((snm K).map .str)) (.list ((snm K).map .str))=some false:=by
 have h:∀x∈snm K,jJ x=true:=λx a=>by obtain⟨p,b,rfl⟩:=qK.mp (a5z.mp a);exact c.ok p b
 rw[a7F (a1R h) (a1R h),tK,decide_eq_true rfl];rfl
end
def Vk(v:q8):Prop:=neD v v=some false/\∃t,isD "bool" v=some (.bool t)
theorem b7i t:Vk (.bool t):=⟨by rw[c0l,decide_eq_true rfl];rfl,true,rfl⟩
theorem wW t:Vk (.str t):=⟨by rw[c0k,decide_eq_true rfl];rfl,false,rfl⟩
theorem b9Z(S:Gs s):Vk (dS s):=by
 have c:=b0g S.ok;have sh:qY (dS s)=true:=by unfold qY;rw[c.1,decide_eq_true (by lia)];rfl
 refine⟨?_,false,rfl⟩;rw[a4L sh sh];have:=SeqAt.eqv_refl _ c.1;have e:jb (s.map dM) (s.map dM)=qv (dS s) (dS s):=rfl;rw[e,this];rfl
theorem xU{K:Kn}{n:Str}(h:∀s,ou=.inr s->Gs s):Vk (bQ K n ou).2:=by cases ou with|inl c=>exact wW _|inr s=>exact b9Z (h s rfl)
theorem b7q{K:Kn}(b:KOk K) d(g:b7f d):Vk (stepK K d).2:=by cases d with
 |lay n s=>exact b7i _|take n=>show Vk (match aR K n with|none=>(K,qw "no sheet")|some s=>(cY K n,dS s)).2;cases a:aR K n with|none=>exact wW _|some s=>exact b9Z (b.gs _ (dO a))
 |add n l t u=>show Vk (match aR K n with|none=>(K,qw "no sheet")|some s=>bQ K n (a0c s l t u)).2;cases a:aR K n with|none=>exact wW _|some s=>exact xU λe=>b1I (b.gs _ (dO a)) (c0q l g.2)
 |drop n l=>show Vk (match aR K n with|none=>(K,qw "no sheet")|some s=>bQ K n (nO s l)).2;cases a:aR K n with|none=>exact wW _|some s=>exact xU λe=>a8f (b.gs _ (dO a))
 |shift n c=>show Vk (match aR K n with|none=>(K,qw "no sheet")|some s=>bQ K n (gX s c)).2;cases a:aR K n with|none=>exact wW _|some s=>exact xU λe=>a4v (b.gs _ (dO a))
 |merge n x=>show Vk (match aR K n,aR K x with|some s,some o=>bQ K n (iA s o)|_,_=>(K,qw "no sheet")).2;cases a:aR K n with|none=>exact wW _|some s=>cases f:aR K x with|none=>exact wW _|some o=>exact xU λe=>a4O (b.gs _ (dO a)) (b.gs _ (dO f))
theorem a0b{K:Kn}(b:∀p∈K,p.1∈N4){n:Str}(e:n∈N4) a:∀p∈(bQ K n a).1,p.1∈N4:=by cases a with|inl c=>exact b|inr s=>exactλp d=>(a6e.mp d).elim (λz=>b p z.1) λz=>by rwa[z]
theorem b7s{K:Kn}(a:∀p∈K,p.1∈N4) d(b:b7f d):∀p∈(stepK K d).1,p.1∈N4:=by cases d with
 |lay n s=>exactλp f=>(a6e.mp f).elim (λz=>a p z.1) λz=>by rw[z];exact b.1|take n=>show∀p∈(match aR K n with|none=>(K,qw "no sheet")|some s=>(cY K n,dS s)).1,p.1∈N4;cases e:aR K n with|none=>exact a|some s=>exactλp f=>a p (qy.mp f).1
 |add n l t u=>show∀p∈(match aR K n with|none=>(K,qw "no sheet")|some s=>bQ K n (a0c s l t u)).1,p.1∈N4;cases e:aR K n with|none=>exact a|some s=>exact a0b a b.1 _
 |drop n l=>show∀p∈(match aR K n with|none=>(K,qw "no sheet")|some s=>bQ K n (nO s l)).1,p.1∈N4;cases e:aR K n with|none=>exact a|some s=>exact a0b a b _
 |shift n c=>show∀p∈(match aR K n with|none=>(K,qw "no sheet")|some s=>bQ K n (gX s c)).1,p.1∈N4;cases e:aR K n with|none=>exact a|some s=>exact a0b a b _
 |merge n x=>show∀p∈(match aR K n,aR K x with|some s,some o=>bQ K n (iA s o)|_,_=>(K,qw "no sheet")).1,p.1∈N4;cases e:aR K n with|none=>exact a|some s=>cases g:aR K x with|none=>exact a|some o=>exact a0b a b.1 _
def Pl(e:Ent):Prop:=(∀β,gS β e=e)/\gH [e]=true/\b3M e=e
theorem b0L:Pl .no:=⟨λ_=>rfl,rfl,rfl⟩
theorem a2J d:Pl (.val d):=⟨λ_=>rfl,rfl,rfl⟩
abbrev pB(ns:T0s)(a:Addr)(K:q8)(k:Int)(e4 e5 e6:Ent):List Ent:=[.val (dN ns),.adr a,.val K,.val (.int k),e4,e5,e6]
abbrev b3W(ns:T0s)(a:Addr)(b:BS)(K:q8)(k:Int)(e4 e5 e6:Ent):List Ent:=[.val (dN ns),.ro (some a) b,.val K,.val (.int k),e4,e5,e6]
variable{ns:List Int}{e4 e5 e6:Ent}
section
variable{K K':q8}
theorem c3q(e:Pl e4)(d:Pl e5)(c:Pl e6):vw [(a,b)] (pB ns a K k e4 e5 e6)=b3W ns a b K k e4 e5 e6:=by show[Ent.val (dN ns),gS _ (.adr a),.val K,.val (.int k),gS _ e4,gS _ e5,gS _ e6]=_;rw[a0i,e.1,d.1,c.1]
theorem c4M(e:Pl e4)(d:Pl e5)(c:Pl e6):uv (b3W ns a b K k e4 e5 e6)=pB ns a K k e4 e5 e6:=by show[Ent.val (dN ns),.adr a,.val K,.val (.int k),b3M e4,b3M e5,b3M e6]=_;rw[e.2.2,d.2.2,c.2.2]
theorem b7k(i:Pl e4)(g:Pl e5)(e:Pl e6)(d:Pl g4)(k5:Pl g5)(c:Pl g6)(h:f (b3W ns a b K k e4 e5 e6)=some (.nx (b3W ns a b K' k g4 g5 g6))):upS f (pB ns a K k e4 e5 e6) [(a,b)]=some (.nx (pB ns a K' k g4 g5 g6),[(a,b)]):=by rw[oZ (c3q i g e) h];show some (So.nx (uv (b3W ns a b K' k g4 g5 g6)),_)=_;rw[c4M d k5 c]
end
structure In81(K:Kn)(b:BS)(n:Nat):Prop where
 ko:KOk K
 kn:∀p∈K,p.1∈N4
 br:BR K b
 few:K.length<=n
 dn:b.dn.length<=n
theorem ifN{t:TF}(h:t Z=some (.ok false)):ifS t f dG Z=some (.nx Z):=by rw[tH,a1g h];rfl
theorem b7H{K:Kn}{n:Nat}(h:In81 K b n)(M:n<16)(F:Pl e4)(j:Pl e5)(e:Pl e6):∃K' b' d v,In81 K' b' (n+1)/\b0r (pB ns a (dKn K) (n:Nat) e4 e5 e6) [(a,b)]=some (.nx (pB ns a (dKn K') (n:Nat) (.val d) (.val v) (.val v)),[(a,b')]):=by
 obtain⟨d,g,H⟩:=c2D ns (1000+60*(n:Int)) (by lia);have G:=h.few;have E:=h.dn;obtain⟨r,b',D,C,J,N⟩:=c4u h.br h.ko (by lia) d g;have k:=b7r h.ko (by lia) d g;have c:In81 (stepK K d).1 b' (n+1):=⟨k.1,b7s h.kn d g,J,by have:=k.2;lia,by lia⟩;have p:=b7q h.ko d g;refine⟨(stepK K d).1,b',dD d,(stepK K d).2,c,?_⟩;have v:=a2J;have I:=b6k h.ko d;generalize(stepK K d).2=w at*;generalize(stepK K d).1=K' at*;have z:upS (fU 4 (bC tV (aB (var 0) (aB (op2 cF (cst (.int 1000)) (op2 oC (cst (.int 60)) (var 3))) aH)))) (pB ns a (dKn K) (n:Nat) e4 e5 e6) [(a,b)]=some (.nx (pB ns a (dKn K) (n:Nat) (.val (dD d)) e5 e6),[(a,b)]):=b7k F j e (v _) j e (by rw[iH,bR (O:=[dN ns,.int (1000+60*(n:Int))]) (aN rfl (aN (dL (x:=.int 1000) (y:=.int (60*(n:Int))) rfl (dL (x:=.int 60) (y:=.int (n:Int)) rfl rfl (a6b (by decide) (by decide))) rfl) rfl)) H];rfl);have u:upS (a1J (.tp [2,5]) (bC rB (aB (var 2) (aB (var 4) aH)))) (pB ns a (dKn K) (n:Nat) (.val (dD d)) e5 e6) [(a,b)]=some (.nx (pB ns a (dKn K') (n:Nat) (.val (dD d)) (.val w) e6),[(a,b)]):=b7k (v _) j e (v _) (v _) e (a5u (d:=.tuple [dKn K',w]) (bR (O:=[dKn K,dD d]) rfl I) rfl);have A:gH (pB ns a (dKn K') (n:Nat) (.val (dD d)) (.val w) e6)=true:=by have:=e.2.1;cases e6<;>first|rfl|exact this
 have s:b4c 6 (eI a0f 1 (aB (var 4) aH)) (pB ns a (dKn K') (n:Nat) (.val (dD d)) (.val w) e6) [(a,b)]=some (.nx (pB ns a (dKn K') (n:Nat) (.val (dD d)) (.val w) (.val w)),[(a,b')]):=by rw[b7y (fF (a:=a) (O:=[dD d]) rfl bZ (by rw[c3q (v _) (v _) e];rfl) (c4t D C) A),cO];rfl
 obtain⟨i,t,f⟩:=p;have q:upS (ifS b3U (retS (cst (.bool false))) dG) (pB ns a (dKn K') (n:Nat) (.val (dD d)) (.val w) (.val w)) [(a,b')]=some (.nx (pB ns a (dKn K') (n:Nat) (.val (dD d)) (.val w) (.val w)),[(a,b')]):=b7k (v _) (v _) (v _) (v _) (v _) (v _) (ifN (c0h (cH (x:=w) (y:=w) rfl rfl i) (cH (x:=.bool t) (y:=.bool t) (by rw[b0S];show lft (isD "bool" w)=_;rw[f];rfl) (by rw[b0S];show lft (isD "bool" w)=_;rw[f];rfl) (by rw[c0l,decide_eq_true rfl];rfl))));have o:=c.few;have L:upS (ifS b3S (retS (cst (.bool false))) dG) (pB ns a (dKn K') (n:Nat) (.val (dD d)) (.val w) (.val w)) [(a,b')]=some (.nx (pB ns a (dKn K') (n:Nat) (.val (dD d)) (.val w) (.val w)),[(a,b')]):=b7k (v _) (v _) (v _) (v _) (v _) (v _) (ifN (c0h (cH (x:=dKn (yA K')) (y:=dKn K') (sP (O:=[]) rfl rfl (c4v c.br c.ko c.kn)) rfl (c5x c.ko)) (cH (x:=.list ((snm K').map .str)) (y:=.list ((snm K').map .str)) (sP (O:=[]) rfl rfl (a8b c.br c.ko)) (eY (O:=[dKn K']) rfl (c3B (by lia))) (b5g c.ko))));show eO _ _ (pB ns a (dKn K) (n:Nat) e4 e5 e6) [(a,b)]=_;rwa[fB z,fB u,fB s,fB q]
theorem b5u{fb:OSF}{d:q8}{b a:Sto}(B:tgD t Z d=some ρ1)(c:fb ρ1 b=some (.nx ρ2,a)):sR t fb (d::O) Z b=sR t fb O ρ2 a:=by
 conv=>lhs;unfold sR
 rw[B];dsimp only;rw[c]
theorem a7o{ns:T0s}{a:Addr}:∀ m n K b e3 e4 e5 e6,n+m=16->In81 K b n->Pl e3->Pl e4->Pl e5->Pl e6->∃K' b' g f e c,In81 K' b' 16/\Pl g/\Pl f/\Pl e/\Pl c/\sR (.nm 3) b0r ((List.range' n m).map λ(k:Nat)=>km (k:Int)) [.val (dN ns),.adr a,.val (dKn K),e3,e4,e5,e6] [(a,b)]=some (.nx [.val (dN ns),.adr a,.val (dKn K'),g,f,e,c],[(a,b')])
 |0,n,K,b,e3,e4,e5,e6,hm,h,h3,h4,h5,h6=>⟨K,b,e3,e4,e5,e6,by
   have:n=16:=by omega
   subst this;exact h,h3,h4,h5,h6,rfl⟩|m+1,n,K,b,e3,e4,e5,e6,hm,h,h3,h4,h5,h6=>by obtain⟨s,r,d,v,t,i⟩:=b7H (ns:=ns) (a:=a) h (by lia) h4 h5 h6;obtain⟨K',b',g,f,e,c,u,q,p,o,j,w⟩:=a7o (ns:=ns) (a:=a) m (n+1) s r (.val (.int (n:Nat))) (.val d) (.val v) (.val v) (by lia) t (a2J _) (a2J _) (a2J _) (a2J _);refine⟨K',b',g,f,e,c,u,q,p,o,j,?_⟩;rwa[List.range'_succ,qI,b5u (ρ1:=pB ns a (dKn K) (n:Nat) e4 e5 e6) rfl i]
theorem b8V{fb:OSF}{a:Sto}(h:fi Z=some (.ok O)):b5Z t fi fb Z a=sR t fb O Z a:=by unfold b5Z;rw[h]
theorem e_law ns(A:ns.length<=63):F_law [dN ns]=some (.ok (.bool true)):=by
 have e:a7V [.val (dN ns),.no,.no,.no,.no,.no,.no] []=some (.rt (.bool true),[]):=by
  refine c1V rfl λa _=>?_;have z:In81 [] uO 0:=⟨⟨.nil,(λp f=>nomatch f),(λp f=>nomatch f),by decide⟩,(λp f=>nomatch f),⟨⟨[],rfl,.refl _⟩,rfl⟩,by decide,by decide⟩;obtain⟨K,b,q,j,i,g,I,w,v,u,t,r⟩:=a7o (ns:=ns) (a:=a) 16 0 [] uO .no .no .no .no rfl z b0L b0L b0L b0L;refine⟨[.dict []],[(a,b)],rfl,rfl,?_⟩;show eO _ _ [.val (dN ns),.adr a,.val (dKn []),.no,.no,.no,.no] [(a,uO)]=_;rw[fB ((b8V (O:=(List.range' 0 16).map λ(k:Nat)=>km (k:Int)) rfl).trans r)];have s:vw [(a,b)] [.val (dN ns),.adr a,.val (dKn K),q,j,i,g]=[.val (dN ns),.ro (some a) b,.val (dKn K),q,j,i,g]:=by show[Ent.val (dN ns),gS _ (.adr a),.val (dKn K),gS _ q,gS _ j,gS _ i,gS _ g]=_;rw[a0i,w.1,v.1,u.1,t.1]
  have c:a8o eqD (op2 ixD (fQ oX 1 aH) (cst (.int 1))) (cst (.int 0)) [.val (dN ns),.ro (some a) b,.val (dKn K),q,j,i,g]=some (.ok (.bool true)):=c0y (x:=.int (b.un.length:Nat)) (y:=.int 0) (dL (x:=.tuple [.int (b.dn.length:Nat),.int (b.un.length:Nat)]) (y:=.int 1) (sP (O:=[]) rfl rfl b9h) rfl rfl) rfl (by rw[c4q,I.br.un];rfl);rw[oZ s (o:=.rt (.bool true)) (by rw[dJ,c];rfl)];rfl
 show a7m 7 1 a7V [dN ns]=_;unfold a7m;rw[if_pos (show[dN ns].length=1 from rfl)];show(match a7V [.val (dN ns),.no,.no,.no,.no,.no,.no] []with|some (.rt d,_)=>some (Re.ok d)|_=>none)=_;rw[e]
end L2.L3
namespace L2.L3
theorem a0J{c:Type}{l:List c}(h:l.length=1):∃a,l=[a]:=by cases l with|nil=>cases h|cons a l=>cases l with|nil=>exact⟨a,rfl⟩|cons b l=>simp at h
theorem b8H{b:Type}{l:List b}{n:Nat}(h:l.length=n+1):∃a r,l=a::r/\r.length=n:=by cases l with|nil=>cases h|cons a r=>exact⟨a,r,rfl,by simpa using h⟩
theorem uL{c:Type}{l:List c}(h:l.length=2):∃a b,l=[a,b]:=by obtain⟨a,r,rfl,k⟩:=b8H h;obtain⟨b,rfl⟩:=a0J k;exact⟨a,b,rfl⟩
theorem a3V{d:Type}{l:List d}(h:l.length=3):∃a b c,l=[a,b,c]:=by obtain⟨a,r,rfl,k⟩:=b8H h;obtain⟨b,c,rfl⟩:=uL k;exact⟨a,b,c,rfl⟩
theorem c2a{e:Type}{l:List e}(h:l.length=4):∃a b c d,l=[a,b,c,d]:=by obtain⟨a,r,rfl,k⟩:=b8H h;obtain⟨b,c,d,rfl⟩:=a3V k;exact⟨a,b,c,d,rfl⟩
theorem c5E{f:Type}{l:List f}(h:l.length=5):∃a b c d e,l=[a,b,c,d,e]:=by obtain⟨a,r,rfl,k⟩:=b8H h;obtain⟨b,c,d,e,rfl⟩:=c2a k;exact⟨a,b,c,d,e,rfl⟩
end L2.L3
namespace L2.L3
open PySem PySem.Spec PyProof.Rows
section
variable{lp sp:Pos}{x y:Str}{k':Nat}{ps':T0q}{F F':List q8->Mm q8}{fa:AF}
end
noncomputable def top(i:Nat):Stmt:=PySem.Challenge.pw_daysheet_k81_whole_binders.main.body.getD i (.Pass ⟨0,0,0,0⟩)
structure Blt(mg:T0d):Prop where
 b_ValueError:mg "ValueError"=none
 b_all:mg "all"=none
 b_bool:mg "bool"=none
 b_dict:mg "dict"=none
 b_int:mg "int"=none
 b_isinstance:mg "isinstance"=none
 b_len:mg "len"=none
 b_list:mg "list"=none
 b_range:mg "range"=none
 b_set:mg "set"=none
 b_sorted:mg "sorted"=none
 b_str:mg "str"=none
 b_tuple:mg "tuple"=none
 k_LAST_END:∃t:Tok,mg "LAST_END"=some (.int 480 t)k_LONGEST_NAME:∃t:Tok,mg "LONGEST_NAME"=some (.int 4 t)k_MOST_MEETINGS:∃t:Tok,mg "MOST_MEETINGS"=some (.int 16 t)
theorem _root_.L2.Room.m(a:Room k A)(h:j<=k:=by decide):Room j A:=a.mono h
section
variable(P:Program)(w:World)(K:qB)(mg:T0d)(base:Heap)
abbrev a8B:Prop:=eG P w K mg base "_law_cell" 1 ["_law_script","_law_k"] a3E
abbrev a3I:Prop:=eG P w K mg base "_law_pick" 2 ["_law_script","_law_k","_law_many"] bN
abbrev a5q:Prop:=eG P w K mg base "_law_sheet" 3 ["_law_script","_law_at","_law_most"] a1j
abbrev a8A:Prop:=eG P w K mg base "_law_deed" 4 ["_law_script","_law_at"] tV
abbrev a8z:Prop:=eG P w K mg base "_law_made" 1 ["_law_sheet_here","_law_deed_here","_law_known"] iY
abbrev a3J:Prop:=eG P w K mg base "_law_behind" 2 ["_law_known","_law_deed_here"] rB
abbrev xT:Prop:=eG P w K mg base "is_whole" 1 ["thing"] fK
abbrev tY:Prop:=eG P w K mg base "are_times" 2 ["begin","end"] fL
abbrev eZ:Prop:=CalleeX P w K mg base "refuse_wrong_times" 3 ["begin","end"] aS
abbrev mU:Prop:=eG P w K mg base "names_of" 1 ["sheet"] fJ
abbrev rU:Prop:=CalleeX P w K mg base "with_meeting" 4 ["sheet","name","begin","end"] gE
abbrev uK:Prop:=eG P w K mg base "is_name" 1 ["thing"] cR
abbrev uZ:Prop:=CalleeX P w K mg base "meeting_of" 1 ["sheet","name"] iR
abbrev mT:Prop:=CalleeX P w K mg base "without_meeting" 2 ["sheet","name"] dY
abbrev wV:Prop:=CalleeX P w K mg base "meeting_at" 4 ["name","begin","end"] oJ
abbrev a8y:Prop:=CalleeX P w K mg base "later" 2 ["moment","by"] a0e
abbrev a3H:Prop:=CalleeX P w K mg base "shifted" 5 ["sheet","by"] mS
abbrev uY:Prop:=eG P w K mg base "names_alone" 2 ["one","other"] iQ
abbrev tX:Prop:=eG P w K mg base "unlike_names" 3 ["one","other"] iE
abbrev a5p:Prop:=CalleeX P w K mg base "merged" 4 ["one","other"] uI
abbrev a1I:Prop:=eG P w K mg base "is_rising" 1 ["row"] tW
abbrev a0h:Prop:=eG P w K mg base "is_meeting" 3 ["thing"] rD
abbrev a3K:Prop:=eG P w K mg base "is_sheet" 4 ["thing"] gJ
end
variable{fa:Addr}
section
variable(P:Program)(w:World){K:qB}(base:Heap)
theorem fS{P:T0q}{sc:Scope}(a:sc.kind=.function:=by rfl)(b:sc.isCoroutine=false:=by rfl)(c:sc.isGenerator=false:=by rfl)(d:N.Nodup:=by decide+kernel)(e:N.take P.length=P:=by rfl)(f:∀x∈P,sc.names.lookup x=some .local\/sc.names.lookup x=some .cell:=by decide+kernel)(g:∀y∈sc.names,y.2≠.free:=by decide+kernel):FnScope N P sc:=⟨a,b,c,d,e,f,g⟩
theorem hM(r:Room k A)(h:j<=k:=by decide):Room j A:=r.mono h
abbrev a7k:Stmt:=rP (top 34) 0
theorem b2k:FnScope ["self"] ["self"] (aD a7k):=fS
abbrev a2E:Stmt:=top 36
noncomputable abbrev b5m:List Str:=["_law_script","_law_k"]
theorem b2o:FnScope b5m ["_law_script","_law_k"] (aD a2E):=fS
theorem b6T(D:Def K mg "_law_cell" a2E)(B0:Blt mg)(XF:ExG cE K):a8B P w K mg base:=by refine bY 2 2 D b2o rfl rfl (λ_ _ _ _ _ _ us hl=>by obtain⟨_,_,rfl⟩:=uL hl;rfl) (λfa cdv A outer s H E hr=>?_);exact(aL (dH (aW a1w (aC 1) (dX pS B0.b_len yx (aA (aC 0) aF))) (aQ (aU (aV (aC 0) (aC 1)))) bP) (aL (dH (aW (iF hr.units) (aC 0) (lG aF)) (aQ (aU aG)) bP) (aQ (aU (bB bV (bB sO (aV (aC 0) (bB a6c (aC 1) (dX pS B0.b_len yx (aA (aC 0) aF)))) aG) (aC 1))))))
abbrev a2C:Stmt:=top 37
noncomputable abbrev b5k:List Str:=["_law_script","_law_k","_law_many","_law_drawn"]
theorem a4A:FnScope b5k ["_law_script","_law_k","_law_many"] (aD a2C):=fS
theorem b6Q(D:Def K mg "_law_pick" a2C)(B0:Blt mg)(XF:ExG cE K)(YI:a8B P w K mg base):a3I P w K mg base:=by refine bY 4 3 D a4A rfl rfl (λ_ _ _ _ _ _ us hl=>by obtain⟨_,_,_,rfl⟩:=a3V hl;rfl) (λfa cdv A outer s H E hr=>?_);exact(aL (fH 3 a4A.nd (bB a6c (bB sO (bB bV (aZ YI hr.m (aA (aC 0) (aA (aC 1) aF))) (bB sO aG (bB bV (aC 1) aG))) aG) aG)) (aQ (aU (bB a6c (bB a6c (bB bV (bB sO (aC 3) (aC 3)) (bB c2x (aC 3) aG)) aG) (aC 2)))))
abbrev a0y:Stmt:=top 38
noncomputable abbrev b2A:List Str:=["_law_script","_law_at","_law_most","_law_span","_law_names","_law_made_here","_law_k","_law_begin","_law_size"]
theorem gF:FnScope b2A ["_law_script","_law_at","_law_most"] (aD a0y):=fS
theorem b3u(D:Def K mg "_law_sheet" a0y)(B0:Blt mg)(XF:ExG cE K)(YN:a3I P w K mg base):a5q P w K mg base:=by refine bY 9 3 D gF rfl rfl (λ_ _ _ _ _ _ us hl=>by obtain⟨_,_,_,rfl⟩:=a3V hl;rfl) (λfa cdv A outer s H E hr=>?_);exact(aL (fH 3 gF.nd (aV (lG (aA aG (aA aG (aA aG (aA aG aF))))) (aZ YN hr.m (aA (aC 0) (aA (aC 1) (aA aG aF)))))) (aL (fH 4 gF.nd (lG (aA aP (aA aP (aA aP (aA aP (aA aP (aA aP (aA aP (aA aP (aA aP (aA aP aF)))))))))))) (aL (b6o 5 gF.nd aF) (aL (b6p u7.never rfl (b1w B0.b_range (aZ YN hr.m (aA (aC 0) (aA (bB bV (aC 1) aG) (aA (bB bV (aC 2) aG) aF))))) (eK 6 gF.nd) (aL (fH 7 gF.nd (aZ YN hr.m (aA (aC 0) (aA (bB bV (bB bV (aC 1) aG) (bB sO aG (aC 6))) (aA (aC 3) aF))))) (aL (fH 8 gF.nd (bB bV aG (aZ YN hr.m (aA (aC 0) (aA (bB bV (bB bV (aC 1) aG) (bB sO aG (aC 6))) (aA (aV (lG (aA aG (aA aG (aA (aC 3) aF)))) (aZ YN hr.m (aA (aC 0) (aA (bB bV (bB bV (aC 1) aG) (bB sO aG (aC 6))) (aA aG aF))))) aF)))))) (aQ (c2K 5 (dP (aA (aV (aC 4) (aC 6)) (aA (aC 7) (aA (bB bV (aC 7) (aC 8)) aF))))))))) (xP 5 (aQ (aU (eF nW B0.b_tuple wv (aA (aC 5) aF)))))))))
abbrev a2D:Stmt:=top 41
noncomputable abbrev b5l:List Str:=["_law_script","_law_at","_law_names","_law_labels","_law_name","_law_way","_law_label","_law_begin"]
theorem oO:FnScope b5l ["_law_script","_law_at"] (aD a2D):=fS
theorem b6S(D:Def K mg "_law_deed" a2D)(B0:Blt mg)(XF:ExG cE K)(YN:a3I P w K mg base)(YO:a5q P w K mg base):a8A P w K mg base:=by refine bY 8 2 D oO rfl rfl (λ_ _ _ _ _ _ us hl=>by obtain⟨_,_,rfl⟩:=uL hl;rfl) (λfa cdv A outer s H E hr=>?_);exact(aL (fH 2 oO.nd (lG (aA aP (aA aP (aA aP (aA aP aF)))))) (aL (fH 3 oO.nd (lG (aA aP (aA aP (aA aP (aA aP (aA aP (aA aP aF)))))))) (aL (b6m 4 5 rfl oO.nd (by decide) (aA (aV (aC 2) (aZ YN hr.m (aA (aC 0) (aA (aC 1) (aA aG aF))))) (aA (aZ YN hr.m (aA (aC 0) (aA (bB bV (aC 1) aG) (aA aG aF)))) aF))) (aL (dH (aW a1w (aC 5) aG) (aQ (aU (dP (aA aP (aA (aC 4) (aA (aZ YO hr.m (aA (aC 0) (aA (bB bV (aC 1) aG) (aA aG aF)))) aF)))))) bP) (aL (dH (aW (iF hr.units) (aC 5) aG) (aQ (aU (dP (aA aP (aA (aC 4) aF))))) bP) (aL (b6m 6 7 rfl oO.nd (by decide) (aA (aV (aC 3) (aZ YN hr.m (aA (aC 0) (aA (bB bV (aC 1) aG) (aA aG aF))))) (aA (bB b3X (aZ YN hr.m (aA (aC 0) (aA (bB bV (aC 1) aG) (aA aG aF)))) aG) aF))) (aL (dH (aW a1w (aC 5) aG) (aQ (aU (dP (aA aP (aA (aC 4) (aA (aC 6) (aA (aC 7) (aA (bB bV (aC 7) (aZ YN hr.m (aA (aC 0) (aA (bB bV (aC 1) aG) (aA aG aF))))) aF)))))))) bP) (aL (dH (aW (iF hr.units) (aC 5) aG) (aQ (aU (dP (aA aP (aA (aC 4) (aA (aC 6) aF)))))) bP) (aL (dH (aW (iF hr.units) (aC 5) aG) (aQ (aU (dP (aA aP (aA (aC 4) (aA (bB b3X (aZ YN hr.m (aA (aC 0) (aA (bB bV (aC 1) aG) (aA aG aF)))) aG) aF)))))) bP) (aQ (aU (dP (aA aP (aA (aC 4) (aA (aV (aC 2) (aZ YN hr.m (aA (aC 0) (aA (bB bV (aC 1) aG) (aA aG aF))))) aF)))))))))))))))
abbrev hJ:Stmt:=top 42
noncomputable abbrev mH:List Str:=["_law_sheet_here","_law_deed_here","_law_known","_law_names","_law_made_here","_law_beyond","_law_rows"]
theorem lS:FnScope mH ["_law_sheet_here","_law_deed_here","_law_known"] (aD hJ):=fS
theorem b6R(D:Def K mg "_law_made" hJ)(B0:Blt mg)(XF:ExG cE K):a8z P w K mg base:=by
 refine bY 7 3 D lS rfl rfl (λ_ _ _ _ _ _ us hl=>by obtain⟨_,_,_,rfl⟩:=a3V hl;rfl) (λfa cdv A outer s H E hr=>?_);have nd1:(["_law_row"]:T0q).Nodup:=by decide+kernel
 have nd2:(["_law_row","_law_deed_here"]:T0q).Nodup:=by decide+kernel
 have nd3:(["_law_name","_law_begin","_law_end","_law_deed_here"]:T0q).Nodup:=by decide+kernel
 have nd4:(["_law_name","_law_begin","_law_end"]:T0q).Nodup:=by decide+kernel
 have nd5:(["_law_row"]:T0q).Nodup:=by decide+kernel
 have nd6:(["_law_row","_law_rows"]:T0q).Nodup:=by decide+kernel
 exact(aL (a6y 3 lS.nd (N':=["_law_row"]) (cap:=[none]) rfl (eM (so:=aD hJ) (NN:=mH) rfl rfl (by decide+kernel)) (gI (aC 0)) rfl (λ_ _ _ _=>eK 0 nd1) (λ_ _ _ _=>nN) (λ_ _ _ _=>(aV (aC 0) aG))) (aL (dH (aW (iF hr.units) (aV (aC 1) aG) aP) (aL (dH (aW (a3h hr.units1) (aV (aC 1) aG) (aC 3)) (aQ (aU aP)) bP) (aL (dH (lF (b9k a1A a1w a1A aG (aV (aC 1) aG) (aV (aC 1) aG) aG)) (aQ (aU aP)) bP) (aQ (aU (b1C (aW a1w (dX pS B0.b_len yx (aA (aC 0) aF)) aG) (eF nW B0.b_tuple wv (aA (dX a5x B0.b_sorted yt (aA (bB bV (aC 0) (dP (aA (c4A (aC 1) (b9t aG) b9u) aF))) aF)) aF)) aP))))) bP) (aL (dH (aW (iF hr.units) (aV (aC 1) aG) aP) (aQ (aU (b1C (aW (a3h hr.units1) (aV (aC 1) aG) (aC 3)) (eF nW B0.b_tuple wv (aA (gC (N':=["_law_row","_law_deed_here"]) (cap:=[none,some 1]) rfl (eM (so:=aD hJ) (NN:=mH) rfl rfl (by decide+kernel)) (gI (aC 0)) rfl (λ_ _ _ _=>eK 0 nd2) (λ_ _ _ _=>(nM (aW (uQ hr.units) (aV (aC 0) aG) (aV (aC 1) aG)))) (λ_ _ _ _=>aC 0)) aF)) aP))) bP) (aL (dH (aW (iF hr.units) (aV (aC 1) aG) aP) (aL (fH 4 lS.nd (eF nW B0.b_tuple wv (aA (gC (N':=["_law_name","_law_begin","_law_end","_law_deed_here"]) (cap:=[none,none,none,some 1]) rfl (eM (so:=aD hJ) (NN:=mH) rfl rfl (by decide+kernel)) (gI (aC 0)) rfl (λ_ _ _ _=>(a6z rfl (fI 0 nd3 (fI 1 nd3 (fI 2 nd3 a2f))))) (λ_ _ _ _=>nN) (λ_ _ _ _=>(dP (aA (aC 0) (aA (bB bV (aC 1) (aV (aC 3) aG)) (aA (bB bV (aC 2) (aV (aC 3) aG)) aF)))))) aF))) (aL (a6y 5 lS.nd (N':=["_law_name","_law_begin","_law_end"]) (cap:=[none,none,none]) rfl (eM (so:=aD hJ) (NN:=mH) rfl rfl (by decide+kernel)) (gI (aC 4)) rfl (λ_ _ _ _=>(a6z rfl (fI 0 nd4 (fI 1 nd4 (fI 2 nd4 a2f))))) (λ_ _ _ _=>(nM (DW.dt (uT (aW a1w (aC 1) aG) (oF (aW b5O (aC 2) aG)))))) (λ_ _ _ _=>aG)) (aQ (aU (b1C (aW (iF hr.units) (aC 5) (lG aF)) (aC 4) aP))))) bP) (aL (fH 6 lS.nd (eF (b1v rfl) B0.b_dict boot_dict (aA (gC (N':=["_law_row"]) (cap:=[none]) rfl (eM (so:=aD hJ) (NN:=mH) rfl rfl (by decide+kernel)) (gI (a0Z (aC 2) (aV (aC 1) aG))) rfl (λ_ _ _ _=>eK 0 nd5) (λ_ _ _ _=>nN) (λ_ _ _ _=>(dP (aA (aV (aC 0) aG) (aA (aC 0) aF))))) aF))) (aL (dH (aW (uQ hr.units) (gC (N':=["_law_row","_law_rows"]) (cap:=[none,some 6]) rfl (eM (so:=aD hJ) (NN:=mH) rfl rfl (by decide+kernel)) (gI (aC 0)) rfl (λ_ _ _ _=>eK 0 nd6) (λ_ _ _ _=>(nM (DW.dt (b0a (c2G hr.units (aV (aC 0) aG) (aC 1)) (a6x (aW (uQ hr.units) (a0Z (aC 1) (aV (aC 0) aG)) (aC 0))))))) (λ_ _ _ _=>aC 0)) (lG aF)) (aQ (aU aP)) bP) (aL (fH 4 lS.nd (b6z rfl hr.units B0.b_sorted B0.b_set (bB bV (eF b5s B0.b_list boot_list (aA (aC 0) aF)) (eF b5s B0.b_list boot_list (aA (a0Z (aC 2) (aV (aC 1) aG)) aF))))) (aQ (aU (b1C (aW a1w (dX pS B0.b_len yx (aA (aC 4) aF)) aG) (eF nW B0.b_tuple wv (aA (aC 4) aF)) aP))))))))))
abbrev pJ:Stmt:=top 43
noncomputable abbrev a2T:List Str:=["_law_known","_law_deed_here","_law_rest","_law_made_here"]
theorem sF:FnScope a2T ["_law_known","_law_deed_here"] (aD pJ):=fS
theorem b0j(D:Def K mg "_law_behind" pJ)(B0:Blt mg)(XF:ExG cE K)(YM:a8z P w K mg base):a3J P w K mg base:=by
 refine bY 4 2 D sF rfl rfl (λ_ _ _ _ _ _ us hl=>by obtain⟨_,_,rfl⟩:=uL hl;rfl) (λfa cdv A outer s H E hr=>?_);have nd1:(["_law_name","_law_known","_law_deed_here"]:T0q).Nodup:=by decide+kernel
 exact(aL (b6n 2 rfl sF.nd B0.b_dict (aA (b6C 0 (N':=["_law_name","_law_known","_law_deed_here"]) (cap:=[none,some 0,some 1]) rfl (eM (so:=aD pJ) (NN:=a2T) rfl rfl (by decide+kernel))  rfl (λ_ _ _ _=>eK 0 nd1) (λ_ _ _ _=>(nM (aW (uQ hr.units) (aC 0) (aV (aC 2) aG)))) (λ_ _ _ _=>(dP (aA (aC 0) (aA (a0Z (aC 1) (aC 0)) aF))))) aF)) (aL (dH (aW (iF hr.units) (aV (aC 1) aG) aP) (aL (b1s 2 hr.units (aV (aC 1) aG) (aV (aC 1) aG)) (xP 2 (aQ (aU (dP (aA (aC 2) (aA (c2O hr.units (aV (aC 1) aG) (aC 0)) aF))))))) bP) (aL (dH (DW.dt (uT (b1r hr.units (aV (aC 1) aG) (aC 0)) (oF (DW.dt (b0a (aW (iF hr.units) (aV (aC 1) aG) aP) (a6x (b1r hr.units (aV (aC 1) aG) (aC 0)))))))) (aQ (aU (dP (aA (aC 0) (aA aP aF))))) bP) (aL (dH (aW (iF hr.units) (aV (aC 1) aG) aP) (xP 2 (aQ (aU (dP (aA (aC 2) (aA (a0Z (aC 0) (aV (aC 1) aG)) aF)))))) bP) (aL (fH 3 sF.nd (aZ YM hr.m (aA (a0Z (aC 0) (aV (aC 1) aG)) (aA (aC 1) (aA (aC 0) aF))))) (aL (dH (lE (gM B0.b_isinstance B0.b_str boot_str (aC 3))) (aQ (aU (dP (aA (aC 0) (aA (aC 3) aF))))) bP) (aL (b1s 2 hr.units (aC 3) (aV (aC 1) aG)) (xP 2 (aQ (aU (dP (aA (aC 2) (aA (aC 3) aF)))))))))))))
abbrev a0z:Stmt:=top 39
noncomputable abbrev b2B:List Str:=["_law_kept","_law_kinds","_law_some"]
theorem mB:FnScope b2B ["_law_kept"] (aD a0z):=fS
theorem b3v(D:Def K mg "_law_class" a0z)(B0:Blt mg)(XF:ExG cE K):ClsOk P w K mg base "_law_class" 1 dR:=by refine b9E 3 D mB rfl (λ_ _ _ _ _ _ us hl=>by obtain⟨_,rfl⟩:=a0J hl;rfl) (λfa cdv A outer s H hr=>?_);exact(aL (b6o 1 mB.nd (aA (nQ 0 XF B0.b_isinstance) (aA (nQ 0 XF B0.b_isinstance) (aA (nQ 0 XF B0.b_isinstance) aF)))) (aL (b9l 1 (lG (aA (nQ 0 XF B0.b_isinstance) aF))) (xP 1 (aL (a5b 1 mB.nd (aC 1) (lG (aA (nQ 0 XF B0.b_isinstance) (aA (nQ 0 XF B0.b_isinstance) (aA (nQ 0 XF B0.b_isinstance) aF))))) (xP 1 (aL (a5b 1 mB.nd (aC 1) (lG (aA (nQ 0 XF B0.b_isinstance) aF))) (aL (dH (c4x (DW.dt (uT (aW (uQ hr.units) (b6A (aC 1) nR) aG) (oF (lF (lE (b9p 0 XF B0.b_isinstance B0.b_ValueError))))))) (aQ (aU aP)) bP) (aL (fH 2 mB.nd (lG (aA aP (aA aP (aA aP (aA aP (aA aP (aA aP (aA aP (aA aP aF)))))))))) (xP 1 (aQ (aU (aV (aC 2) (b3j (aC 1) nR)))))))))))))
abbrev a2B:Stmt:=top 40
noncomputable abbrev b5j:List Str:=["_law_deed_here","e"]
theorem b2n:FnScope b5j ["_law_deed_here"] (aD a2B):=fS
theorem b6P(D:Def K mg "_law_told" a2B)(B0:Blt mg)(XF:ExG cE K)(YJ:ClsOk P w K mg base "_law_class" 1 dR):ToldOkR P w K mg base "_law_told" cE dR:=by obtain⟨S,B,h2,h3⟩:=XF.l.she;exact b1S D b2n B h2 h3 YJ rfl (λ_ _ _ _ _ _ us hl=>by obtain⟨_,rfl⟩:=a0J hl;rfl) rfl rfl rfl rfl (by decide) (by decide) (by decide) (by decide) (by decide)
abbrev a5F:Stmt:=rP (top 34) 1
noncomputable abbrev b8z:List Str:=["self","name","sheet"]
theorem b4d:FnScope b8z ["self","name","sheet"] (aD a5F):=fS
theorem b9I(D:MDef K "put" a5F)(B0:Blt mg)(BC:BCls K)(XF:ExG cE K):MethX P w K mg base "put" 1 ["self","name","sheet"] (spO K pZ):=by obtain⟨fa,fd,Fu,hm⟩:=D.ex;refine⟨fa,fd,hm,Fu.binds (λ_ _ _ _ _ _ us hl=>by obtain⟨_,_,_,rfl⟩:=a3V hl;rfl),nK 3 2 Fu b4d rfl rfl (λcdv A outer s H E hr=>?_)⟩;exact(fW (b0Q (a4H (b0b (aC 2))) (fW (b4P 0 BC (aC 1))) (fW (b8g 0 BC hr.units (aC 2) (aC 1)))))
abbrev oB:Stmt:=rP (top 34) 2
abbrev a3T:List Str:=["self","word","name","sheet"]
theorem a2x:FnScope a3T ["self","word","name","sheet"] (aD oB):=fS
theorem a4e(D:MDef K "carry_out" oB)(B0:Blt mg)(BC:BCls K)(XF:ExG cE K)(YZ:MethX P w K mg base "put" 1 ["self","name","sheet"] (spO K pZ)):MethX P w K mg base "carry_out" 2 ["self","word","name","sheet"] (spO K aX):=by obtain⟨fa,fd,Fu,hm⟩:=D.ex;refine⟨fa,fd,hm,Fu.binds (λ_ _ _ _ _ _ us hl=>by obtain⟨_,_,_,_,rfl⟩:=c2a hl;rfl),nK 4 3 Fu a2x rfl rfl (λcdv A outer s H E hr=>?_)⟩;exact(eJ (b8i false 0 BC (dP (aA (aC 1) (aA (aC 2) (aA (b9q 0 BC hr.units (aC 2)) (aA (aC 3) aF)))))) (eJ (b8h 0 BC) (eJ (a5T (fN 0 BC YZ hr.m (aA (aC 2) (aA (aC 3) aF)))) (fW (sM (aU (aC 3)))))))
abbrev xB:Stmt:=top 15
theorem a7i:FnScope ["thing"] ["thing"] (aD xB):=fS
theorem b0l(D:Def K mg "is_whole" xB)(B0:Blt mg)(XF:ExG cE K):xT P w K mg base:=by refine bY 1 1 D a7i rfl rfl (λ_ _ _ _ _ _ us hl=>by obtain⟨_,rfl⟩:=a0J hl;rfl) (λfa cdv A outer s H E hr=>?_);exact(aQ (aU (a6A (gM B0.b_isinstance B0.b_int boot_int (aC 0)) (b0e (c2M (gM B0.b_isinstance B0.b_bool boot_bool (aC 0)))))))
abbrev sI:Stmt:=top 18
theorem a5E:FnScope ["begin","end"] ["begin","end"] (aD sI):=fS
theorem a8t(D:Def K mg "are_times" sI)(B0:Blt mg)(XF:ExG cE K)(YF:xT P w K mg base):tY P w K mg base:=by refine bY 2 2 D a5E rfl rfl (λ_ _ _ _ _ _ us hl=>by obtain⟨_,_,rfl⟩:=uL hl;rfl) (λfa cdv A outer s H E hr=>?_);exact(aQ (aU (a6A (aZ YF hr.m (aA (aC 0) aF)) (a6A (aZ YF hr.m (aA (aC 1) aF)) (b0e (b9r a1A a1w a1A aG (aC 0) (aC 1) (tM rfl (B0.k_LAST_END))))))))
abbrev eV:Stmt:=top 23
theorem pD:FnScope ["begin","end"] ["begin","end"] (aD eV):=fS
theorem rX(D:Def K mg "refuse_wrong_times" eV)(B0:Blt mg)(XF:ExG cE K)(YA:tY P w K mg base):eZ P w K mg base:=by refine eP 2 2 D pD rfl rfl (λ_ _ _ _ _ _ us hl=>by obtain⟨_,_,rfl⟩:=uL hl;rfl) (λfa cdv A outer s H E hr=>?_);exact(aQ (dH (lF (lE (aZ YA hr.m (aA (aC 0) (aA (aC 1) aF))))) (aQ (fP XF.l rfl)) bP))
abbrev pG:Stmt:=top 21
theorem a7f:FnScope ["sheet"] ["sheet"] (aD pG):=fS
theorem b0i(D:Def K mg "names_of" pG)(B0:Blt mg)(XF:ExG cE K):mU P w K mg base:=by
 refine bY 1 1 D a7f rfl rfl (λ_ _ _ _ _ _ us hl=>by obtain⟨_,rfl⟩:=a0J hl;rfl) (λfa cdv A outer s H E hr=>?_);have nd1:(["meeting"]:T0q).Nodup:=by decide+kernel
 exact(aQ (aU (gC (N':=["meeting"]) (cap:=[none]) rfl (eM (so:=aD pG) (NN:=["sheet"]) rfl rfl (by decide+kernel)) (gI (aC 0)) rfl (λ_ _ _ _=>eK 0 nd1) (λ_ _ _ _=>nN) (λ_ _ _ _=>(aV (aC 0) aG)))))
abbrev lB:Stmt:=top 24
noncomputable abbrev a1K:List Str:=["sheet","name","begin","end"]
theorem a0s:FnScope a1K ["sheet","name","begin","end"] (aD lB):=fS
theorem a1N(D:Def K mg "with_meeting" lB)(B0:Blt mg)(XF:ExG cE K)(Yi:mU P w K mg base)(Yj:eZ P w K mg base):rU P w K mg base:=by refine eP 4 4 D a0s rfl rfl (λ_ _ _ _ _ _ us hl=>by obtain⟨_,_,_,_,rfl⟩:=c2a hl;rfl) (λfa cdv A outer s H E hr=>?_);exact(aL (dH (aW (a3h hr.units1) (aC 1) (aZ Yi hr.m (aA (aC 0) aF))) (aQ (fP XF.l rfl)) bP) (aL (b1t (fZ Yj hr.m (aA (aC 2) (aA (aC 3) aF)))) (aL (dH (aW c4n (dX pS B0.b_len yx (aA (aC 0) aF)) (tM rfl (B0.k_MOST_MEETINGS))) (aQ (fP XF.l rfl)) bP) (aQ (aU (eF nW B0.b_tuple wv (aA (dX a5x B0.b_sorted yt (aA (bB bV (aC 0) (dP (aA (dP (aA (aC 1) (aA (aC 2) (aA (aC 3) aF)))) aF))) aF)) aF)))))))
abbrev uA:Stmt:=top 16
theorem a8Y:FnScope ["thing"] ["thing"] (aD uA):=fS
theorem b3w(D:Def K mg "is_name" uA)(B0:Blt mg)(XF:ExG cE K):uK P w K mg base:=by
 refine bY 1 1 D a8Y rfl rfl (λ_ _ _ _ _ _ us hl=>by obtain⟨_,rfl⟩:=a0J hl;rfl) (λfa cdv A outer s H E hr=>?_);have nd1:(["letter"]:T0q).Nodup:=by decide+kernel
 exact(aL (dH (DW.dt (uT (lF (lE (gM B0.b_isinstance B0.b_str boot_str (aC 0)))) (oF (lF (c2H a1A a1A aG (dX pS B0.b_len yx (aA (aC 0) aF)) (tM rfl (B0.k_LONGEST_NAME))))))) (aQ (aU nR)) bP) (aQ (aU (dX (b6Y rfl) B0.b_all boot_all (aA (gC (N':=["letter"]) (cap:=[none]) rfl (eM (so:=aD uA) (NN:=["thing"]) rfl rfl (by decide+kernel)) (c1X rfl (aC 0)) rfl (λ_ _ _ _=>eK 0 nd1) (λ_ _ _ _=>nN) (λ_ _ _ _=>(c2Q a1A a1A aP (aC 0) aP))) aF)))))
abbrev pH:Stmt:=rP (top 34) 4
theorem a3O:FnScope ["self","name"] ["self","name"] (aD pH):=fS
theorem a6I(D:MDef K "sheet_of" pH)(B0:Blt mg)(BC:BCls K)(XF:ExG cE K)(YC:uK P w K mg base):MethX P w K mg base "sheet_of" 2 ["self","name"] (spR K aI):=by obtain⟨fa,fd,Fu,hm⟩:=D.ex;refine⟨fa,fd,hm,Fu.binds (λ_ _ _ _ _ _ us hl=>by obtain⟨_,_,rfl⟩:=uL hl;rfl),a2d 2 1 Fu a3O rfl rfl (λcdv A outer s H E hr=>?_)⟩;exact(aL (dH (DW.dt (uT (lF (lE (aZ YC hr.m (aA (aC 1) aF)))) (oF (b9j 0 BC hr.units (aC 1))))) (aQ (fP XF.l rfl)) bP) (aQ (aU (c2N 0 BC (aC 1)))))
abbrev a5H:Stmt:=rP (top 34) 6
noncomputable abbrev b8B:List Str:=["self","name","label","begin","end"]
theorem b4e:FnScope b8B ["self","name","label","begin","end"] (aD a5H):=fS
theorem b9K(D:MDef K "add" a5H)(B0:Blt mg)(BC:BCls K)(XF:ExG cE K)(YT:MethX P w K mg base "carry_out" 2 ["self","word","name","sheet"] (spO K aX))(Ya:MethX P w K mg base "sheet_of" 2 ["self","name"] (spR K aI))(Ym:rU P w K mg base):MethX P w K mg base "add" 5 ["self","name","label","begin","end"] (spO K uJ):=by obtain⟨fa,fd,Fu,hm⟩:=D.ex;refine⟨fa,fd,hm,Fu.binds (λ_ _ _ _ _ _ us hl=>by obtain⟨_,_,_,_,_,rfl⟩:=c5E hl;rfl),nK 5 4 Fu b4e rfl rfl (λcdv A outer s H E hr=>?_)⟩;exact(fW (sL (fN 0 BC YT hr.m (aA aP (aA (aC 1) (aA (fZ Ym hr.m (aA (mQ 0 BC Ya hr.m (aA (aC 1) aF)) (aA (aC 2) (aA (aC 3) (aA (aC 4) aF))))) aF))))))
abbrev nZ:Stmt:=top 22
noncomputable abbrev a3R:List Str:=["sheet","name","meeting"]
theorem sC:FnScope a3R ["sheet","name"] (aD nZ):=fS
theorem a4c(D:Def K mg "meeting_of" nZ)(B0:Blt mg)(XF:ExG cE K):uZ P w K mg base:=by refine eP 3 2 D sC rfl rfl (λ_ _ _ _ _ _ us hl=>by obtain⟨_,_,rfl⟩:=uL hl;rfl) (λfa cdv A outer s H E hr=>?_);exact(aL (c2J (b6p u7.never rfl (gI (aC 0)) (eK 2 sC.nd) (aQ (dH (aW (iF hr.units) (aV (aC 2) aG) (aC 1)) (aQ (aU (aC 2))) bP)))) (aQ (fP XF.l rfl)))
abbrev eR:Stmt:=top 25
noncomputable abbrev mG:List Str:=["sheet","name","gone"]
theorem lH:FnScope mG ["sheet","name"] (aD eR):=fS
theorem xQ(D:Def K mg "without_meeting" eR)(B0:Blt mg)(XF:ExG cE K)(Ye:uZ P w K mg base):mT P w K mg base:=by
 refine eP 3 2 D lH rfl rfl (λ_ _ _ _ _ _ us hl=>by obtain⟨_,_,rfl⟩:=uL hl;rfl) (λfa cdv A outer s H E hr=>?_);have nd1:(["meeting","gone"]:T0q).Nodup:=by decide+kernel
 exact(aL (fH 2 lH.nd (fZ Ye hr.m (aA (aC 0) (aA (aC 1) aF)))) (aQ (aU (eF nW B0.b_tuple wv (aA (gC (N':=["meeting","gone"]) (cap:=[none,some 2]) rfl (eM (so:=aD eR) (NN:=mG) rfl rfl (by decide+kernel)) (gI (aC 0)) rfl (λ_ _ _ _=>eK 0 nd1) (λ_ _ _ _=>(nM (aW (uQ hr.units) (aV (aC 0) aG) (aV (aC 1) aG)))) (λ_ _ _ _=>aC 0)) aF)))))
abbrev a2z:Stmt:=rP (top 34) 7
noncomputable abbrev b5i:List Str:=["self","name","label"]
theorem b2l:FnScope b5i ["self","name","label"] (aD a2z):=fS
theorem b6N(D:MDef K "drop" a2z)(B0:Blt mg)(BC:BCls K)(XF:ExG cE K)(YT:MethX P w K mg base "carry_out" 2 ["self","word","name","sheet"] (spO K aX))(Ya:MethX P w K mg base "sheet_of" 2 ["self","name"] (spR K aI))(Yn:mT P w K mg base):MethX P w K mg base "drop" 3 ["self","name","label"] (spO K oY):=by obtain⟨fa,fd,Fu,hm⟩:=D.ex;refine⟨fa,fd,hm,Fu.binds (λ_ _ _ _ _ _ us hl=>by obtain⟨_,_,_,rfl⟩:=a3V hl;rfl),nK 3 2 Fu b2l rfl rfl (λcdv A outer s H E hr=>?_)⟩;exact(fW (sL (fN 0 BC YT hr.m (aA aP (aA (aC 1) (aA (fZ Yn hr.m (aA (mQ 0 BC Ya hr.m (aA (aC 1) aF)) (aA (aC 2) aF))) aF))))))
abbrev oA:Stmt:=top 31
noncomputable abbrev a3S:List Str:=["name","begin","end"]
theorem a2w:FnScope a3S ["name","begin","end"] (aD oA):=fS
theorem a4d(D:Def K mg "meeting_at" oA)(B0:Blt mg)(XF:ExG cE K)(Yj:eZ P w K mg base):wV P w K mg base:=by refine eP 3 3 D a2w rfl rfl (λ_ _ _ _ _ _ us hl=>by obtain⟨_,_,_,rfl⟩:=a3V hl;rfl) (λfa cdv A outer s H E hr=>?_);exact(aL (b1t (fZ Yj hr.m (aA (aC 1) (aA (aC 2) aF)))) (aQ (aU (dP (aA (aC 0) (aA (aC 1) (aA (aC 2) aF)))))))
abbrev a2A:Stmt:=top 26
theorem b2m:FnScope ["moment","by"] ["moment","by"] (aD a2A):=fS
theorem b6O(D:Def K mg "later" a2A)(B0:Blt mg)(XF:ExG cE K)(YF:xT P w K mg base):a8y P w K mg base:=by refine eP 2 2 D b2m rfl rfl (λ_ _ _ _ _ _ us hl=>by obtain⟨_,_,rfl⟩:=uL hl;rfl) (λfa cdv A outer s H E hr=>?_);exact(aL (dH (lF (lE (aZ YF hr.m (aA (aC 1) aF)))) (aQ (fP XF.l rfl)) bP) (aQ (aU (bB bV (aC 0) (aC 1)))))
abbrev pF:Stmt:=top 32
theorem a7e:FnScope ["sheet","by"] ["sheet","by"] (aD pF):=fS
theorem b0h(D:Def K mg "shifted" pF)(B0:Blt mg)(XF:ExG cE K)(YR:a8y P w K mg base)(Yd:wV P w K mg base):a3H P w K mg base:=by
 refine eP 2 2 D a7e rfl rfl (λ_ _ _ _ _ _ us hl=>by obtain⟨_,_,rfl⟩:=uL hl;rfl) (λfa cdv A outer s H E hr=>?_);have nd1:(["name","begin","end","by"]:T0q).Nodup:=by decide+kernel
 exact(aQ (aU (eF nW B0.b_tuple wv (aA (b6B (N':=["name","begin","end","by"]) (cap:=[none,none,none,some 1]) rfl rfl rfl (eM (so:=aD pF) (NN:=["sheet","by"]) rfl rfl (by decide+kernel)) (gI (aC 0)) rfl (λ_ _ _ _=>(a6z rfl (fI 0 nd1 (fI 1 nd1 (fI 2 nd1 a2f))))) (λ_ _ _ _=>nN) (λ_ _ _ _ _=>(fZ Yd hr.m (aA (aC 0) (aA (fZ YR hr.m (aA (aC 1) (aA (aC 3) aF))) (aA (fZ YR hr.m (aA (aC 2) (aA (aC 3) aF))) aF)))))) aF))))
abbrev a0u:Stmt:=rP (top 34) 8
noncomputable abbrev b2y:List Str:=["self","name","by"]
theorem a8U:FnScope b2y ["self","name","by"] (aD a0u):=fS
theorem b3q(D:MDef K "shift" a0u)(B0:Blt mg)(BC:BCls K)(XF:ExG cE K)(YT:MethX P w K mg base "carry_out" 2 ["self","word","name","sheet"] (spO K aX))(Ya:MethX P w K mg base "sheet_of" 2 ["self","name"] (spR K aI))(Yk:a3H P w K mg base):MethX P w K mg base "shift" 6 ["self","name","by"] (spO K lX):=by obtain⟨fa,fd,Fu,hm⟩:=D.ex;refine⟨fa,fd,hm,Fu.binds (λ_ _ _ _ _ _ us hl=>by obtain⟨_,_,_,rfl⟩:=a3V hl;rfl),nK 3 2 Fu a8U rfl rfl (λcdv A outer s H E hr=>?_)⟩;exact(fW (sL (fN 0 BC YT hr.m (aA aP (aA (aC 1) (aA (fZ Yk hr.m (aA (mQ 0 BC Ya hr.m (aA (aC 1) aF)) (aA (aC 2) aF))) aF))))))
abbrev iM:Stmt:=top 28
theorem a2u:FnScope ["one","other"] ["one","other"] (aD iM):=fS
theorem a4b(D:Def K mg "names_alone" iM)(B0:Blt mg)(XF:ExG cE K)(Yi:mU P w K mg base):uY P w K mg base:=by
 refine bY 2 2 D a2u rfl rfl (λ_ _ _ _ _ _ us hl=>by obtain⟨_,_,rfl⟩:=uL hl;rfl) (λfa cdv A outer s H E hr=>?_);have nd1:(["name","other"]:T0q).Nodup:=by decide+kernel
 exact(aQ (aU (gC (N':=["name","other"]) (cap:=[none,some 1]) rfl (eM (so:=aD iM) (NN:=["one","other"]) rfl rfl (by decide+kernel)) (gI (aZ Yi hr.m (aA (aC 0) aF))) rfl (λ_ _ _ _=>eK 0 nd1) (λ_ _ _ _=>(nM (aW (a5W hr.units1) (aC 0) (aZ Yi hr.m (aA (aC 1) aF))))) (λ_ _ _ _=>aC 0))))
abbrev gZ:Stmt:=top 29
noncomputable abbrev sN:List Str:=["one","other","unlike"]
theorem rF:FnScope sN ["one","other"] (aD gZ):=fS
theorem a3x(D:Def K mg "unlike_names" gZ)(B0:Blt mg)(XF:ExG cE K)(Yi:mU P w K mg base)(Yh:uY P w K mg base):tX P w K mg base:=by
 refine bY 3 2 D rF rfl rfl (λ_ _ _ _ _ _ us hl=>by obtain⟨_,_,rfl⟩:=uL hl;rfl) (λfa cdv A outer s H E hr=>?_);have nd1:(["meeting","other"]:T0q).Nodup:=by decide+kernel
 exact(aL (a6y 2 rF.nd (N':=["meeting","other"]) (cap:=[none,some 1]) rfl (eM (so:=aD gZ) (NN:=sN) rfl rfl (by decide+kernel)) (gI (aC 0)) rfl (λ_ _ _ _=>eK 0 nd1) (λ_ _ _ _=>(nM (DW.dt (b0a (aW (a5W hr.units1) (aC 0) (aC 1)) (a6x (aW (a3h hr.units1) (aV (aC 0) aG) (aZ Yi hr.m (aA (aC 1) aF)))))))) (λ_ _ _ _=>(aV (aC 0) aG))) (aQ (aU (dP (aA (aZ Yh hr.m (aA (aC 0) (aA (aC 1) aF))) (aA (aZ Yh hr.m (aA (aC 1) (aA (aC 0) aF))) (aA (aC 2) aF)))))))
abbrev tZ:Stmt:=top 30
noncomputable abbrev a4M:List Str:=["one","other","together"]
theorem a2v:FnScope a4M ["one","other"] (aD tZ):=fS
theorem b3p(D:Def K mg "merged" tZ)(B0:Blt mg)(XF:ExG cE K)(Yl:tX P w K mg base):a5p P w K mg base:=by
 refine eP 3 2 D a2v rfl rfl (λ_ _ _ _ _ _ us hl=>by obtain⟨_,_,rfl⟩:=uL hl;rfl) (λfa cdv A outer s H E hr=>?_);have nd1:(["meeting","one"]:T0q).Nodup:=by decide+kernel
 exact(aL (dH (lE (aV (aZ Yl hr.m (aA (aC 0) (aA (aC 1) aF))) aG)) (aQ (fP XF.l rfl)) bP) (aL (fH 2 a2v.nd (bB bV (aC 0) (eF nW B0.b_tuple wv (aA (gC (N':=["meeting","one"]) (cap:=[none,some 0]) rfl (eM (so:=aD tZ) (NN:=a4M) rfl rfl (by decide+kernel)) (gI (aC 1)) rfl (λ_ _ _ _=>eK 0 nd1) (λ_ _ _ _=>(nM (aW (a5W hr.units1) (aC 0) (aC 1)))) (λ_ _ _ _=>aC 0)) aF)))) (aL (dH (aW b5O (dX pS B0.b_len yx (aA (aC 2) aF)) (tM rfl (B0.k_MOST_MEETINGS))) (aQ (fP XF.l rfl)) bP) (aQ (aU (eF nW B0.b_tuple wv (aA (dX a5x B0.b_sorted yt (aA (aC 2) aF)) aF)))))))
abbrev a0w:Stmt:=rP (top 34) 9
noncomputable abbrev b2z:List Str:=["self","name","other"]
theorem a8W:FnScope b2z ["self","name","other"] (aD a0w):=fS
theorem b3s(D:MDef K "merge" a0w)(B0:Blt mg)(BC:BCls K)(XF:ExG cE K)(YT:MethX P w K mg base "carry_out" 2 ["self","word","name","sheet"] (spO K aX))(Ya:MethX P w K mg base "sheet_of" 2 ["self","name"] (spR K aI))(Yf:a5p P w K mg base):MethX P w K mg base "merge" 5 ["self","name","other"] (spO K iK):=by obtain⟨fa,fd,Fu,hm⟩:=D.ex;refine⟨fa,fd,hm,Fu.binds (λ_ _ _ _ _ _ us hl=>by obtain⟨_,_,_,rfl⟩:=a3V hl;rfl),nK 3 2 Fu a8W rfl rfl (λcdv A outer s H E hr=>?_)⟩;exact(fW (sL (fN 0 BC YT hr.m (aA aP (aA (aC 1) (aA (fZ Yf hr.m (aA (mQ 0 BC Ya hr.m (aA (aC 1) aF)) (aA (mQ 0 BC Ya hr.m (aA (aC 2) aF)) aF))) aF))))))
abbrev sH:Stmt:=top 17
theorem a5D:FnScope ["row"] ["row"] (aD sH):=fS
theorem a8s(D:Def K mg "is_rising" sH)(B0:Blt mg)(XF:ExG cE K):a1I P w K mg base:=by refine bY 1 1 D a5D rfl rfl (λ_ _ _ _ _ _ us hl=>by obtain⟨_,rfl⟩:=a0J hl;rfl) (λfa cdv A outer s H E hr=>?_);exact(aQ (aU (b6D (iF hr.units) (aC 0) (b6y rfl B0.b_sorted B0.b_set (aC 0)))))
abbrev pM:Stmt:=top 19
theorem a3P:FnScope ["thing"] ["thing"] (aD pM):=fS
theorem a6J(D:Def K mg "is_meeting" pM)(B0:Blt mg)(XF:ExG cE K)(YC:uK P w K mg base)(YA:tY P w K mg base):a0h P w K mg base:=by refine bY 1 1 D a3P rfl rfl (λ_ _ _ _ _ _ us hl=>by obtain⟨_,rfl⟩:=a0J hl;rfl) (λfa cdv A outer s H E hr=>?_);exact(aL (dH (DW.dt (uT (lF (lE (gM B0.b_isinstance B0.b_tuple wv (aC 0)))) (oF (aW (uQ hr.units) (dX pS B0.b_len yx (aA (aC 0) aF)) aG)))) (aQ (aU nR)) bP) (aQ (aU (a6A (aZ YC hr.m (aA (aV (aC 0) aG) aF)) (b0e (aZ YA hr.m (aA (aV (aC 0) aG) (aA (aV (aC 0) aG) aF))))))))
abbrev pL:Stmt:=top 20
theorem a7j:FnScope ["thing"] ["thing"] (aD pL):=fS
theorem b0m(D:Def K mg "is_sheet" pL)(B0:Blt mg)(XF:ExG cE K)(YB:a0h P w K mg base)(Yi:mU P w K mg base)(YD:a1I P w K mg base):a3K P w K mg base:=by
 refine bY 1 1 D a7j rfl rfl (λ_ _ _ _ _ _ us hl=>by obtain⟨_,rfl⟩:=a0J hl;rfl) (λfa cdv A outer s H E hr=>?_);have nd1:(["part"]:T0q).Nodup:=by decide+kernel
 exact(aL (dH (DW.dt (uT (lF (lE (gM B0.b_isinstance B0.b_tuple wv (aC 0)))) (oF (aW b5O (dX pS B0.b_len yx (aA (aC 0) aF)) (tM rfl (B0.k_MOST_MEETINGS)))))) (aQ (aU nR)) bP) (aL (dH (lF (lE (dX (b6Y rfl) B0.b_all boot_all (aA (gC (N':=["part"]) (cap:=[none]) rfl (eM (so:=aD pL) (NN:=["thing"]) rfl rfl (by decide+kernel)) (gI (aC 0)) rfl (λ_ _ _ _=>eK 0 nd1) (λ_ _ _ _=>nN) (λ_ _ _ _=>(aZ YB hr.m (aA (aC 0) aF)))) aF)))) (aQ (aU nR)) bP) (aQ (aU (aZ YD hr.m (aA (aZ Yi hr.m (aA (aC 0) aF)) aF))))))
abbrev a5G:Stmt:=rP (top 34) 3
noncomputable abbrev b8A:List Str:=["self","name","sheet","had"]
theorem a7g:FnScope b8A ["self","name","sheet"] (aD a5G):=fS
theorem b9J(D:MDef K "lay" a5G)(B0:Blt mg)(BC:BCls K)(XF:ExG cE K)(YC:uK P w K mg base)(YE:a3K P w K mg base)(YT:MethX P w K mg base "carry_out" 2 ["self","word","name","sheet"] (spO K aX)):MethX P w K mg base "lay" 5 ["self","name","sheet"] (spO K a0d):=by obtain⟨fa,fd,Fu,hm⟩:=D.ex;refine⟨fa,fd,hm,Fu.binds (λ_ _ _ _ _ _ us hl=>by obtain⟨_,_,_,rfl⟩:=a3V hl;rfl),nK 4 2 Fu a7g rfl rfl (λcdv A outer s H E hr=>?_)⟩;exact(eJ (sM (dH (DW.dt (uT (lF (lE (aZ YC hr.m (aA (aC 1) aF)))) (oF (lF (lE (aZ YE hr.m (aA (aC 2) aF))))))) (aQ (fP XF.l rfl)) bP)) (eJ (sM (fH 3 a7g.nd (c2P 0 BC hr.units (aC 1)))) (eJ (a5T (fN 0 BC YT hr.m (aA aP (aA (aC 1) (aA (aC 2) aF))))) (fW (sM (aU (aC 3)))))))
abbrev a2y:Stmt:=rP (top 34) 5
noncomputable abbrev b5h:List Str:=["self","name","sheet"]
theorem a4z:FnScope b5h ["self","name"] (aD a2y):=fS
theorem b6M(D:MDef K "take" a2y)(B0:Blt mg)(BC:BCls K)(XF:ExG cE K)(Ya:MethX P w K mg base "sheet_of" 2 ["self","name"] (spR K aI))(YT:MethX P w K mg base "carry_out" 2 ["self","word","name","sheet"] (spO K aX)):MethX P w K mg base "take" 3 ["self","name"] (spO K oW):=by obtain⟨fa,fd,Fu,hm⟩:=D.ex;refine⟨fa,fd,hm,Fu.binds (λ_ _ _ _ _ _ us hl=>by obtain⟨_,_,rfl⟩:=uL hl;rfl),nK 3 1 Fu a4z rfl rfl (λcdv A outer s H E hr=>?_)⟩;exact(eJ (sM (fH 2 a4z.nd (mQ 0 BC Ya hr.m (aA (aC 1) aF)))) (eJ (a5T (fN 0 BC YT hr.m (aA aP (aA (aC 1) (aA b1A aF))))) (fW (sM (aU (aC 2))))))
abbrev pI:Stmt:=top 44
noncomputable abbrev yI:List Str:=["_law_binder","_law_deed_here"]
theorem b4f:FnScope yI ["_law_binder","_law_deed_here"] (aD pI):=fS
theorem b9L{c T:Addr}(D:Def K mg "_law_did" pI)(B0:Blt mg)(kb:K.In base)(nb:base.Ns j7 mg)(M:BM mg base)(ht:kH K "_law_did"=some (c,T))(hC:zX K c T=true)(BC:BCls K)(XF:ExG cE K)(YV:MethX P w K mg base "lay" 5 ["self","name","sheet"] (spO K a0d))(Yc:MethX P w K mg base "take" 3 ["self","name"] (spO K oW))(YQ:ToldOkR P w K mg base "_law_told" cE dR)(YS:MethX P w K mg base "add" 5 ["self","name","label","begin","end"] (spO K uJ))(YU:MethX P w K mg base "drop" 3 ["self","name","label"] (spO K oY))(Yb:MethX P w K mg base "shift" 6 ["self","name","by"] (spO K lX))(YX:MethX P w K mg base "merge" 5 ["self","name","other"] (spO K iK)):FunX P w K mg base "_law_did" 10 ["_law_binder","_law_deed_here"] (spO K a0f):=by
 obtain⟨fa,fd,Fu,hmg⟩:=D.ex;refine⟨fa,fd,hmg,Fu.kp,Fu.binds (λ_ _ _ _ _ _ us hl=>by obtain⟨_,_,rfl⟩:=uL hl;rfl),b6a 2 1 Fu b4f rfl rfl kb nb hmg ht (λA outer s H E hr=>?_)⟩;have nd1:(["_law_binder","_law_deed_here"]:T0q).Nodup:=by decide+kernel
 have nd2:(["_law_binder","_law_deed_here"]:T0q).Nodup:=by decide+kernel
 have nd3:(["_law_binder","_law_deed_here"]:T0q).Nodup:=by decide+kernel
 have nd4:(["_law_binder","_law_deed_here"]:T0q).Nodup:=by decide+kernel
 exact(eJ (b0Q (a4H (aW (a3h hr.units1) (aV (aC 1) aG) (dP (aA aP (aA aP aF))))) (fW (sL (a1Z (q:="_law_did") (k:=5) (N':=["_law_binder","_law_deed_here"]) (cap:=[some 0,some 1]) YQ (by unfold fG;simp) ht rfl rfl hC M hr.m (eM (so:=aD pI) (NN:=yI) rfl rfl (by decide+kernel)) (by decide+kernel) (λf c cl A outer s H E hr=>(c0i (a4H (aW (iF hr.units) (aV (aC 1) aG) aP)) (fN 0 BC YV hr.m (aA (aV (aC 1) aG) (aA (aV (aC 1) aG) aF))) (fN 0 BC Yc hr.m (aA (aV (aC 1) aG) aF))))))) a9l) (eJ (b0Q (a4H (aW (iF hr.units) (aV (aC 1) aG) aP)) (fW (sL (a1Z (q:="_law_did") (k:=5) (N':=["_law_binder","_law_deed_here"]) (cap:=[some 0,some 1]) YQ (by unfold fG;simp) ht rfl rfl hC M hr.m (eM (so:=aD pI) (NN:=yI) rfl rfl (by decide+kernel)) (by decide+kernel) (λf c cl A outer s H E hr=>(fN 0 BC YS hr.m (aA (aV (aC 1) aG) (aA (aV (aC 1) aG) (aA (aV (aC 1) aG) (aA (aV (aC 1) aG) aF))))))))) a9l) (eJ (b0Q (a4H (aW (iF hr.units) (aV (aC 1) aG) aP)) (fW (sL (a1Z (q:="_law_did") (k:=3) (N':=["_law_binder","_law_deed_here"]) (cap:=[some 0,some 1]) YQ (by unfold fG;simp) ht rfl rfl hC M hr.m (eM (so:=aD pI) (NN:=yI) rfl rfl (by decide+kernel)) (by decide+kernel) (λf c cl A outer s H E hr=>(fN 0 BC YU hr.m (aA (aV (aC 1) aG) (aA (aV (aC 1) aG) aF))))))) a9l) (fW (sL (a1Z (q:="_law_did") (k:=6) (N':=["_law_binder","_law_deed_here"]) (cap:=[some 0,some 1]) YQ (by unfold fG;simp) ht rfl rfl hC M hr.m (eM (so:=aD pI) (NN:=yI) rfl rfl (by decide+kernel)) (by decide+kernel) (λf c cl A outer s H E hr=>(c0i (a4H (aW (iF hr.units) (aV (aC 1) aG) aP)) (fN 0 BC Yb hr.m (aA (aV (aC 1) aG) (aA (aV (aC 1) aG) aF))) (fN 0 BC YX hr.m (aA (aV (aC 1) aG) (aA (aV (aC 1) aG) aF)))))))))))
abbrev a0x:Stmt:=rP (top 34) 13
theorem a8X:FnScope ["self"] ["self"] (aD a0x):=fS
theorem b3t(D:MDef K "marks" a0x)(B0:Blt mg)(BC:BCls K)(XF:ExG cE K):MethX P w K mg base "marks" 1 ["self"] (spR K oX):=by obtain⟨fa,fd,Fu,hm⟩:=D.ex;refine⟨fa,fd,hm,Fu.binds (λ_ _ _ _ _ _ us hl=>by obtain⟨_,rfl⟩:=a0J hl;rfl),a2d 1 0 Fu a8X rfl rfl (λcdv A outer s H E hr=>?_)⟩;exact(aQ (aU (dP (aA (b1B false 0 BC B0.b_len) (aA (b1B true 0 BC B0.b_len) aF)))))
abbrev a0v:Stmt:=rP (top 34) 10
theorem a8V:FnScope ["self"] ["self"] (aD a0v):=fS
theorem b3r(D:MDef K "names" a0v)(B0:Blt mg)(BC:BCls K)(XF:ExG cE K):MethX P w K mg base "names" 1 ["self"] (spR K gQ):=by obtain⟨fa,fd,Fu,hm⟩:=D.ex;refine⟨fa,fd,hm,Fu.binds (λ_ _ _ _ _ _ us hl=>by obtain⟨_,rfl⟩:=a0J hl;rfl),a2d 1 0 Fu a8V rfl rfl (λcdv A outer s H E hr=>?_)⟩;exact(aQ (aU (b9o 0 rfl BC B0.b_sorted)))
abbrev pK:Stmt:=top 45
theorem a7h:FnScope ["_law_binder"] ["_law_binder"] (aD pK):=fS
theorem b0k(D:Def K mg "_law_all_of" pK)(B0:Blt mg)(BC:BCls K)(XF:ExG cE K)(YY:MethX P w K mg base "names" 1 ["self"] (spR K gQ))(Ya:MethX P w K mg base "sheet_of" 2 ["self","name"] (spR K aI)):FunX P w K mg base "_law_all_of" 3 ["_law_binder"] (spR K rC):=by
 obtain⟨fa,fd,Fu,hmg⟩:=D.ex;refine⟨fa,fd,hmg,Fu.kp,Fu.binds (λ_ _ _ _ _ _ us hl=>by obtain⟨_,rfl⟩:=a0J hl;rfl),a2d 1 0 Fu a7h rfl rfl (λcdv A outer s H E hr=>?_)⟩;have nd1:(["_law_name","_law_binder"]:T0q).Nodup:=by decide+kernel
 exact(aQ (aU (eF (b1v rfl) B0.b_dict boot_dict (aA (gC (N':=["_law_name","_law_binder"]) (cap:=[none,some 0]) rfl (eM (so:=aD pK) (NN:=["_law_binder"]) rfl rfl (by decide+kernel)) (gI (a0Y 0 BC YY hr.m)) rfl (λ_ _ _ _=>eK 0 nd1) (λ_ _ _ _=>nN) (λ_ _ _ _=>(dP (aA (aC 0) (aA (mQ 1 BC Ya hr.m (aA (aC 0) aF)) aF))))) aF))))
abbrev yD:Stmt:=top 46
noncomputable abbrev c3X:List Str:=["_law_script","_law_binder","_law_known","_law_k","_law_deed_here","_law_due","_law_told_here"]
theorem xA:FnScope c3X ["_law_script"] (aD yD):=fS
theorem c4C(Fu:Fun K "law" "law" yD fa fd)(B0:Blt mg)(BC:BCls K)(Yg:BMk P w K mg base 1)(XF:ExG cE K)(YK:a8A P w K mg base)(YH:a3J P w K mg base)(YL:FunX P w K mg base "_law_did" 10 ["_law_binder","_law_deed_here"] (spO K a0f))(YG:FunX P w K mg base "_law_all_of" 3 ["_law_binder"] (spR K rC))(YY:MethX P w K mg base "names" 1 ["self"] (spR K gQ))(YW:MethX P w K mg base "marks" 1 ["self"] (spR K oX)):FnOk P w K mg base CX0 11 fa fd ["_law_script"] (spD K λO d=>F_law O=some (.ok d)):=by refine b8W 7 1 Fu xA rfl rfl (λcdv A outer s H E hr=>?_);exact(c1J 1 2 rfl xA.nd Yg hr.m b3k (eJ (c1y u7.never rfl (b1w B0.b_range aG) (eK 3 xA.nd) (eJ (sM (fH 4 xA.nd (aZ YK hr.m (aA (aC 0) (aA (bB bV aG (bB sO aG (aC 3))) aF))))) (eJ (sM (c2I (aZ YH hr.m (aA (aC 2) (aA (aC 4) aF))) (a6z rfl (fI 2 xA.nd (fI 5 xA.nd a2f))))) (eJ (c1x 6 xA.nd (b4V 1 YL hr.m (aA (aC 4) aF))) (eJ (sM (dH (DW.dt (uT (aW (uQ hr.units) (aC 6) (aC 5)) (oF (aW (uQ hr.units) (gM B0.b_isinstance B0.b_bool boot_bool (aC 6)) (gM B0.b_isinstance B0.b_bool boot_bool (aC 5)))))) (aQ (aU nR)) bP)) (fW (sM (dH (DW.dt (uT (aW (c1S hr.units) (b6E 1 YG hr.m aF) (aC 2)) (oF (aW (uQ hr.units) (a0Y 1 BC YY hr.m) (dX (b3Y rfl) B0.b_sorted yt (aA (aC 2) aF)))))) (aQ (aU nR)) bP)))))))) (fW (sM (aU (b6D (iF hr.units) (aV (a0Y 1 BC YW hr.m) aG) aG))))))
end
theorem blt_mk{K:qB}{h:Heap}{t0:Tok}{t1:Tok}{t2:Tok}(X:K.In h)(G:h.Ns j7 mg)(z0:jA K j7 "ValueError"=some none)(z1:jA K j7 "all"=some none)(z2:jA K j7 "bool"=some none)(z3:jA K j7 "dict"=some none)(z4:jA K j7 "int"=some none)(z5:jA K j7 "isinstance"=some none)(z6:jA K j7 "len"=some none)(z7:jA K j7 "list"=some none)(z8:jA K j7 "range"=some none)(z9:jA K j7 "set"=some none)(z10:jA K j7 "sorted"=some none)(z11:jA K j7 "str"=some none)(z12:jA K j7 "tuple"=some none)(y0:jA K j7 "LAST_END"=some (some (.int 480 t0)))(y1:jA K j7 "LONGEST_NAME"=some (some (.int 4 t1)))(y2:jA K j7 "MOST_MEETINGS"=some (some (.int 16 t2))):Blt mg:=⟨jM X G z0,jM X G z1,jM X G z2,jM X G z3,jM X G z4,jM X G z5,jM X G z6,jM X G z7,jM X G z8,jM X G z9,jM X G z10,jM X G z11,jM X G z12,⟨_,kU X G y0⟩,⟨_,kU X G y1⟩,⟨_,kU X G y2⟩⟩
theorem law_mk{l:PySem.W.OpenLaw}{K:qB}{h:Heap}{f4:Addr}(X:K.In h)(G:h.Ns j7 mg)(hfa:mg "law"=some (.ref fa)){od4 an4:T0k}{sl4:Array (Option Value)}{oc4 kV4 dc4 pm4 cd4 ct4:Value}(B0:Blt mg)(XF:ExG cE K)(D0:Def K mg "_law_cell" a2E)(D1:Def K mg "_law_pick" a2C)(D2:Def K mg "_law_sheet" a0y)(D3:Def K mg "_law_deed" a2D)(D4:Def K mg "_law_made" hJ)(D5:Def K mg "_law_behind" pJ)(D6:Def K mg "_law_class" a0z)(D7:Def K mg "_law_told" a2B)(D8:MDef K "put" a5F)(D9:MDef K "carry_out" oB)(D10:Def K mg "is_whole" xB)(D11:Def K mg "are_times" sI)(D12:Def K mg "refuse_wrong_times" eV)(D13:Def K mg "names_of" pG)(D14:Def K mg "with_meeting" lB)(D15:Def K mg "is_name" uA)(D16:MDef K "sheet_of" pH)(D17:MDef K "add" a5H)(D18:Def K mg "meeting_of" nZ)(D19:Def K mg "without_meeting" eR)(D20:MDef K "drop" a2z)(D21:Def K mg "meeting_at" oA)(D22:Def K mg "later" a2A)(D23:Def K mg "shifted" pF)(D24:MDef K "shift" a0u)(D25:Def K mg "names_alone" iM)(D26:Def K mg "unlike_names" gZ)(D27:Def K mg "merged" tZ)(D28:MDef K "merge" a0w)(D29:Def K mg "is_rising" sH)(D30:Def K mg "is_meeting" pM)(D31:Def K mg "is_sheet" pL)(D32:MDef K "lay" a5G)(D33:MDef K "take" a2y)(D34:Def K mg "_law_did" pI)(D35:MDef K "marks" a0x)(D36:MDef K "names" a0v)(D37:Def K mg "_law_all_of" pK)(BC:BCls K)(BI:BIn K a7k)(tb0:kH K "_law_did"=some (410,406))(hC0:zX K 410 406=true)(a4:jA K j7 "law"=some (some (.ref f4)))(l4:K.lookup f4=some ⟨oc4,od4,.func (jg "law" "law" (fD yD) (bK yD) (aD yD) .none kV4 dc4 pm4 an4 cd4 ct4),sl4⟩)(c4:zD K cd4 "law"=true)(k4:jY K (.ref f4)=true):∃fd:wf,(∀(s:Shared)(v:Value),BindsTo s fd ⟨[v],[]⟩ [("_law_script",v)])/\∀base:Heap,K.In base->base.Ns j7 mg->BM mg base->FnOk l.prog w K mg base CX0 11 fa fd ["_law_script"] (spD K λO d=>F_law O=some (.ok d)):=by have e:=hfa.symm.trans (kU X G a4);cases e;refine⟨jg "law" "law" (fD yD) (bK yD) (aD yD) .none kV4 dc4 pm4 an4 cd4 ct4,λs v=>.of_eq rfl,λbase kb nb M=>?_⟩;have YI:=b6T l.prog w base D0 B0 XF;have YN:=b6Q l.prog w base D1 B0 XF YI;have YO:=b3u l.prog w base D2 B0 XF YN;have YK:=b6S l.prog w base D3 B0 XF YN YO;have YM:=b6R l.prog w base D4 B0 XF;have YH:=b0j l.prog w base D5 B0 XF YM;have YJ:=b3v l.prog w base D6 B0 XF;have YQ:=b6P l.prog w base D7 B0 XF YJ;have YZ:=b9I l.prog w base D8 B0 BC XF;have YT:=a4e l.prog w base D9 B0 BC XF YZ;have YF:=b0l l.prog w base D10 B0 XF;have YA:=a8t l.prog w base D11 B0 XF YF;have Yj:=rX l.prog w base D12 B0 XF YA;have Yi:=b0i l.prog w base D13 B0 XF;have Ym:=a1N l.prog w base D14 B0 XF Yi Yj;have YC:=b3w l.prog w base D15 B0 XF;have Ya:=a6I l.prog w base D16 B0 BC XF YC;have YS:=b9K l.prog w base D17 B0 BC XF YT Ya Ym;have Ye:=a4c l.prog w base D18 B0 XF;have Yn:=xQ l.prog w base D19 B0 XF Ye;have YU:=b6N l.prog w base D20 B0 BC XF YT Ya Yn;have Yd:=a4d l.prog w base D21 B0 XF Yj;have YR:=b6O l.prog w base D22 B0 XF YF;have Yk:=b0h l.prog w base D23 B0 XF YR Yd;have Yb:=b3q l.prog w base D24 B0 BC XF YT Ya Yk;have Yh:=a4b l.prog w base D25 B0 XF Yi;have Yl:=a3x l.prog w base D26 B0 XF Yi Yh;have Yf:=b3p l.prog w base D27 B0 XF Yl;have YX:=b3s l.prog w base D28 B0 BC XF YT Ya Yf;have YD:=a8s l.prog w base D29 B0 XF;have YB:=a6J l.prog w base D30 B0 XF YC YA;have YE:=b0m l.prog w base D31 B0 XF YB Yi YD;have YV:=b9J l.prog w base D32 B0 BC XF YC YE YT;have Yc:=b6M l.prog w base D33 B0 BC XF Ya YT;have YL:=b9L l.prog w base D34 B0 kb nb M tb0 hC0 BC XF YV Yc YQ YS YU Yb YX;have YW:=b3t l.prog w base D35 B0 BC XF;have YY:=b3r l.prog w base D36 B0 BC XF;have YG:=b0k l.prog w base D37 B0 BC XF YY Ya;have Yg:BMk l.prog w K mg base 1:=b9N X G BC BI b2k rfl rfl (λ_ _ _ _ _ _ us hl=>by obtain⟨_,rfl⟩:=a0J hl;rfl);exact c4C l.prog w base (a6r (st:=yD) l4 c4 k4) B0 BC Yg XF YK YH YL YG YY YW
end L2.L3
open PySem PySem.W PyProof.Rows
structure PySem.W.Fast:Prop where(tw11701993986116677507 tw9748898063608609295 tw17438787803982987248 tw14861558575609091481 tw17922224597522691274 tw15869870606579996105 tw12880251008004320823 tw17453273829784376498 tw5628657035687226573 tw7342386473532334031 tw15191409030534306992 tw12841220219186102999 tw16113093317895191105 tw16317724130838406526 tw17307466297842934793 tw3780019422116960186 tw9897026437098299287 tw16850273407991723849 tw1460916711571137791 tw12753044620754241820 tw12460526861764784510 tw12951680348550153411 tw5060410041986197973 tw5602805891659687540 tw5265383053491100162 tw1658025037676537045 tw12634153777889961334 tw2285861056309736422 tw12645085633317664604 tw5638015545658394193 tw11005758837976046258 tw16433806416690470222 tw10789115517351835153 tw347583394192345534 tw13311712488509581525 tw5097488047772178772 tw16794864793702518889 tw18059117543759915700 tw4803714322054608703 tw15300006536677917448 tw18167338831660626775 tw4513718024224213945 tw16160141642039367135 tw7892122982549860597 tw2387247785802261963 tw14279595047748542222 tw17292842673677493992 tw6889386639287702736 tw18147187683443583305 tw10155192688309438200 tw9674813246189911854 tw15874319066779348311 tw5796517269828154493 tw17142042082951818608 tw4792459133018265816 tw11073158816781994544 tw12720046586561170187 tw17771112491304494638 tw15624836721043932650 tw15321777155437640447 tw14130851621648270856 tw16494969382349230244 tw3984241946248827185 tw14019949587540153395 tw13403858541902249543 tw12568359572386097440 tw17535656109765436120 tw10549943299728644385 tw9848006403237909914 tw16539508936929123294 tw7525651589363806228 tw1184062248222112479 tw10076104819275566627 tw11829461439385888493 tw9814146360672580501 tw7643334737739594815 tw2070151059465643747 tw7150430441285353591 tw4155851239095275898 tw2808530285535567206 tw15608939617972950359 tw4883654059488620687 tw14040670853752230571 tw7609568036164330003 tw17039925222158322902 tw18183712352585140009 tw14586578549502378218 tw11153037246494081683:True)
set_option maxRecDepth 100000 in
set_option maxHeartbeats 0 in
theorem PySem.Challenge.cw_daysheet_k81_whole_binders_holds : PySem.Challenge.rw_daysheet_k81_whole_binders.Holds := by
 w_on;o_law;k_head;(case hw=>w_witness2);k_fill;refine L2.L3.walkL (l:=vF) (k:=11) (F:=L2.L3.F_law) (x:="_law_script") [(406,L2.L3.lamQ "_law_did")] rfl rfl ⟨rfl,by decide,by decide⟩ (λw h Y0=>PySem.W.km_in_of Y0) (λw h Y0=>PySem.W.km_tabs_of Y0) ?cd ?ts ?F (λns hl=>L2.L3.e_law ns hl);case cd=>exactλw=>L2.L3.all_cons ⟨⟨410,by kernel_rfl⟩,by kernel_rfl⟩ (λ_ h=>nomatch h)
 case ts=>exactλw=>L2.L3.lam_all (by kernel_rfl)
 case F=>intro w mg fa h KX G hmg;refine' L2.L3.law_mk KX G hmg ?B0 ?XF ?D0 ?D1 ?D2 ?D3 ?D4 ?D5 ?D6 ?D7 ?D8 ?D9 ?D10 ?D11 ?D12 ?D13 ?D14 ?D15 ?D16 ?D17 ?D18 ?D19 ?D20 ?D21 ?D22 ?D23 ?D24 ?D25 ?D26 ?D27 ?D28 ?D29 ?D30 ?D31 ?D32 ?D33 ?D34 ?D35 ?D36 ?D37 ?BC ?BI ?tb0 ?hC0 ?a4 ?l4 ?c4 ?k4;(case XF=>exact⟨by kernel_rfl⟩);(case tb0=>kernel_rfl);(case hC0=>kernel_rfl);(case a4=>k_is);(case l4=>k_is);(case c4=>k_is);(case k4=>k_is);(case B0=>(refine' L2.L3.blt_mk KX G ?z0 ?z1 ?z2 ?z3 ?z4 ?z5 ?z6 ?z7 ?z8 ?z9 ?z10 ?z11 ?z12 ?y0 ?y1 ?y2;(case z0=>k_is);(case z1=>k_is);(case z2=>k_is);(case z3=>k_is);(case z4=>k_is);(case z5=>k_is);(case z6=>k_is);(case z7=>k_is);(case z8=>k_is);(case z9=>k_is);(case z10=>k_is);(case z11=>k_is);(case z12=>k_is);(case y0=>k_is);(case y1=>k_is);(case y2=>k_is)));(case BC=>(refine' L2.L3.bcls_mk ?a0 ?c1 ?c2 ?c3 ?c4 ?n1 ?n2 ?n3;(case a0=>k_is);(case c1=>k_is);(case c2=>k_is);(case c3=>k_is);(case c4=>k_is);(case n1=>k_is);(case n2=>k_is);(case n3=>k_is)));(case BI=>(refine' L2.L3.bin_mk ?a0 ?k1 ?k2 ?k3 ?k4 ?l ?c ?k;(case a0=>k_is);(case k1=>k_is);(case k2=>k_is);(case k3=>k_is);(case k4=>k_is);(case l=>k_is);(case c=>k_is);(case k=>k_is)));(case D0|D1|D2|D3|D4|D5|D6|D7|D10|D11|D12|D13|D14|D15|D18|D19|D21|D22|D23|D25|D26|D27|D29|D30|D31|D34|D37=>(refine' L2.L3.def_mk KX G ?a ?l ?c ?k;(case a=>k_is);(case l=>k_is);(case c=>k_is);(case k=>k_is)));(case D8|D9|D16|D17|D20|D24|D28|D32|D33|D35|D36=>(refine' L2.L3.mdef_mk ?a0 ?a ?i ?l ?c ?k;(case a0=>k_is);(case a=>k_is);(case i=>k_is);(case l=>k_is);(case c=>k_is);(case k=>k_is)));
