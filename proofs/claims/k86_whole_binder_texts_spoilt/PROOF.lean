import PyProof.Rows.All
import Wide.All
import OpenK.AllK
import Wide.FinOn
import Lean
import PyProof.EqAt
import PyProof.EqKinds
import PyProof.TupleCall
import PySem.Challenge.RW_daysheet_k86_whole_binder_texts_spoilt
set_option Elab.async false
set_option linter.all false
set_option maxRecDepth 100000
set_option maxHeartbeats 4000000
set_option bootstrap.genMatcherCode false
set_option genSizeOf false
set_option compiler.extract_closed false
open Option renaming some->Qa,none->Qb
open Bool renaming true->Qc,false->Qd
open PySem renaming PyData->q8,wpAny_bind->j0,wpAny_pure->j3,starEach->j4,sizeLine->j5,mainGlobals->j6,strLen_append->j7,SetTable->j8,backTo->j9,wpAny_mono->v0,wpAny_Call_Name_kw->v1,attributeBase->v2,wpAny_holding->v3,cellsFrom->v4,wpAny_newObj_type->v5,foldedSetIterable->v6,rawInt->v7,compareOp->v9,swapsWith->wa,wpAny_call_entry->wb,keywordEach->wc,codeAny_builtin->we,codeAny_mono->wf,wpAny_execs_cons->wg,FuncData->wj,behindInMarks->wl,codeAny->wm,bootBuiltins->wn,wpAny_callSpecial?_slot->wo,wpAny_truthy_bool->wp,assignEach->wq,sysModules->wt,backToKw->wu,call_meets->wv,wpAny_setField_rec->ww,NameKind->wy,binaryOp->wz,sizeLine_eq->w5,pickOrder->w8,wpAny_askSetting->w9,plainId_quiet->yb,wpAny_attempt->yc,wpAny_standAt->yd,bindArgs->ye,newFunctionEnv->yf,sliceBounds->yg,wpAny_call->yh,wpAny_field->yi,wpAny_newFunctionEnv_cells->yj,wpAny_rule->yk,wpAny_typeOf->ym,wpAny_passesOwn->yo,tupleKind_room_in1->yp,typeIs_str->yq,boot_len->yr,wpAny_pyIter_list->yu,builtinLookup_eq_fast->yw,codeAny_call_function->yx,builtinsNs->yy,pyNext->yz,scanBound->y4,valueAt->y9,codeAny_call_builtin->ua,wpAny_of_eq->ub,setNext->ue,TriplesOk->uf,getMethod->ug,GenState->uh,firstArgMember->uj,recursionLimit->uk,setEntries->ul,wpAny_Return_some->uo,wpAny_loadPart_at->uq,wpAny_newList->ur,checkBuiltinCall->ut,codeAmong->uu,noFill_tuple_add->uw,noteFrame->ux,tupleKind->uy,wpAny_comp_letGo->uz,wpAny_isInstance->u0,closureFor->u7,compareChain->u8,concat_meets->u9,pyIter->QA,sliceRange->QB,IsPart->QC,JoinOk->QD,compEnvC->QE,callerA->QF,lastMarks->QG,pushCells->QH,standAt->QI
open PyProof.Rows renaming seqObj->v8,envOfC->wx,boot_tuple->ya,get?_update_seq->yn,subscriptTail_builtinR->yt,sortedHeap->y6,listUpdate_at->y7,AllBare->uc,listItems_at->ud,assignInOrder_cons->ui,StrsAre->um
open Option.some renaming inj->qA
open PySem.W renaming Frag->qB,nsIn->jF,findIn->jH,mg_none_of->jP,keepIn->jQ,kia_one->jV,fnOf->jY,callWith_K->jf,tabIn->jk,emptyDict->jz,codeHdIn->kO,mg_of->kR,instObj->kT,subIn->kr,codeIn->kz,cellsFrom_some->zL,kla_fn->zU,kitOne->zV,plainGet->zZ,hideAll_none->zc,hasDictIn->zz,isFn->vP,hideAll->vQ,tabObj->ve,lookIn->vf,plainGet_of->vi,hideAll_get->vj,of_hideAll->vt,codeRec_of->vv,plainOver->wF,methodObj->wG,kitx_list->wH,kitx_dict->wI,FnAt->wL
open PySem.Heap renaming get?_push_of_some->qC,get?_push_size->qP,lt_size->qQ,get?_update_other->qv,size_push->jr,get?_update_self->kY,SameBut->kZ,get?_update_ne->kh,get?_none_of_le->zF
open Bool renaming and_eq_true->qD,false_ne_true->qg,not_eq_true'->jX,false_eq_true->ke,eq_iff_iff->kq,noConfusion->zb,or_false->wD
open List renaming map_cons->qE,length_map->qF,mem_cons_of_mem->qG,mem_cons->qI,getElem?_eq_getElem->qN,length_cons->qO,mem_map->qR,getElem?_map->qS,size_toArray->qT,mem_append->qU,getElem?_eq_some_iff->qW,length_append->qY,map_map->qZ,flatten_cons->qe,mem_singleton->qf,mem_append_right->qi,range->qj,mem_cons_self->qr,getElem?_append_left->qt,all_eq_true->qu,replicate->qx,mem_filter->jA,not_mem_nil->jB,map_append->jD,getElem?_eq_none->jE,filter_cons_of_pos->jG,getElem?_set_ne->jK,getD_eq_getElem?_getD->jM,map_congr_left->jO,getElem?_append_right->jS,filter_cons_of_neg->jT,ext_getElem?->jW,length_filter_le->jZ,append_nil->ja,nodup_append->jc,append_assoc->jd,mem_append_left->je,pairwise_cons->jh,length_nil->jj,getElem_mem->jm,pairwise_map->jp,getElem?_replicate->jv,length_take->jw,mem_map_of_mem->kA,nodup_cons->kB,flatten_nil->kC,any_cons->kD,mem_range->kH,length_range->kJ,replicate_succ->kK,take_of_length_le->kM,getElem?_set_self->kN,lookup_cons->kP,length_drop->kQ,getElem?_take_of_lt->kW,getElem?_set->kX,find?_cons->kj,take_sublist->ku,length_reverse->zB,getElem?_range->zC,filterMap_cons->zD,find?_eq_none->zI,drop_of_length_le->zM,lookup->zS,getElem?_toArray->zX,mem_of_getElem?->zd,mem_iff_getElem->ze,all_cons->zi,of_mem_zip->zj,nil_append->zl,length->zm,flatten_append->zn,lookup_append->zu,getElem?_drop->zw,mem_of_find?_eq_some->zy,reverse_cons->vF,getD->vG,mem_flatten->vJ,range_succ->vT,map_nil->vU,Nodup->vY,mem_of_mem_take->vd,toList_toArray->vk,filter_sublist->vm,sum_cons->vz,mem_filterMap->wA,filterMap_map->wB,eraseIdx_eq_take_drop_succ->wJ,drop_sublist->wK,mem_reverse->wR,map_reverse->wS
open PySem.Str renaming ofString->qH,empty->qV,join->ju,length->vO
open PySem.Txt renaming split->qJ,partition->qh
open Option renaming map_eq_some_iff->qK,isSome_map->vC,isSome_iff_exists->vD,map_some->vS
open Nat renaming le_refl->qM,lt_of_lt_of_le->qX,ne_of_lt->qd,le_trans->qk,zero_le->jJ,le_of_lt->jg,lt_irrefl->jl,lt_succ_of_lt->kI,ne_of_gt->kc,le_succ->ki,lt_succ_self->za,lt_trans->zr,lt_of_le_of_lt->zt,not_lt_of_lt->wP,le_of_not_lt->wQ
open Array renaming length_toList->qa,getElem?_eq_getElem->jI,getElem?_toList->jt,getD->zT,getElem?_eq_some_iff->zq,any_toList->vK,toList_append->vo,toList->wO,toList_inj->wT
open PySem.PyData renaming str->qb,strOk->jN,int->jb,eqv->ji,eqvAll->kU,canLay0->ka,depth->zA,list->vA,bool->vb,tuple->vy
open PySem.SetTable renaming below->ql,grown->zH
open PySem.SeqAt renaming shaped->qm,canLay_of_shaped->vh
open PySem renaming mem_of_lookup->qw,SetTable->kS,strKind->zh,Builtin->vx
open False renaming elim->qy
open Or renaming inr->qz,inl->jU
open PySem.Value renaming ref->jC,bool->jy,none->kE,type->zf,str->vN,builtin->vZ
open Ne renaming symm->jL
open PySem.Builtin.Str renaming strSliceIndices->jR,occurrences->zY
open PySem.Around renaming under_plainId->jn
open Int renaming toNat_natCast->jq,emod_nonneg->km,emod_lt_of_pos->zJ,le_refl->zo,le_of_lt->wM
open PySem.Builtin.List renaming listExtendWith->jx,listTooLong->zP
open PySem.StrLaws renaming join_split->kF,partition_sum->vp,glued_eq_join->vq
open PySem.Obj renaming mapSeq->kG,data_mapFields->vI
open True renaming intro->kd
open PySem.NameKind renaming free->kg,cell->vc
open List.cons renaming injEq->kl,inj->wC
open PySem.Calls renaming spliced_cons->ky,spliced_nil->zE,evalArgs_plain->zx,call_function_entry->vL,callWith_builtin->vn
open Sum renaming inr->zG
open PySem.Builtin.Slice renaming slicePlaces->zK,sliceAdjust->vM
open PySem.F renaming called_set->zN,plainAttrs_list->vH,slot_dict_get->vR,slot_list_getattribute->vV,slot_list_count->vW,plain_list_iadd->vX,slot_str_split->vg
open PySem.Builtin.Tuple renaming tupleExact->zO
open Sum.inr renaming inj->zQ
open PyProof.Rows renaming slot_tuple_getitem->zR
open PySem.Challenge renaming rw_daysheet_k86_whole_binder_texts_spoilt->zW
open PySem.SetTable.below renaming go->zg
open PySem.PassesOwn renaming never->vB
open PySem.Shared renaming TypeIs->va
open PySem.SeqAt.EqAt renaming bool_bool->wE
open PyProof.Rows.F renaming plain_set_update_loop->wN
open PySem in abbrev T0a:=Value->Shared->Prop
open PySem in abbrev T0b:=List (Addr×Obj)
open PySem in abbrev T0d:=Str->Option Value
open PySem in abbrev T0e:=List (Option Nat)
open PySem in abbrev T0f:=List (Str×Addr)
open PySem in abbrev T0g:=List (Str×Value)
open PySem in abbrev T0k:=Option Addr
open PySem in abbrev T0l:=List q8
open PySem in abbrev T0m:=List Value
open PySem in abbrev T0n:=List Expr
open PySem in abbrev T0o:=List Addr
open PySem in abbrev T0p:=Option Value
open PySem in abbrev T0q:=List Str
open PySem in abbrev T0s:=List Int
open PySem in abbrev T0t:=List Nat
variable{a it C dx I:PySem.Addr}{o b e c tg iter value elt kx:PySem.Expr}{u doc pm cdv ct oc fl:PySem.Value}{P prog:PySem.Program}{w:PySem.World}{h' h1 base:PySem.Heap}{B:List (PySem.Addr×PySem.Obj)}{s:PySem.Shared}{t' i j k tk k0 ep f0:Nat}{d':PySem.Drawn}{ch fp:List PySem.Addr}{N ns ps ks N':List PySem.Str}{M:PySem.Model}{A:PySem.Around}{E Q:PySem.Value->PySem.Shared->Prop}{pos pos' px py p tpos apos p2 cpos spos ap cp p0 pos2 np lp p3 p1 q1 q2 xp:PySem.Pos}{op:PySem.CmpOp}{y name qual q z:PySem.Str}{st:PySem.Stmt}{es ifs pq:List PySem.Expr}{lo hi:Option PySem.Expr}{pl js:List Nat}{body:List PySem.Stmt}{g:List Bool}{its us:List PySem.Value}{mA mg:PySem.Str->Option PySem.Value}{kw:List (PySem.Str×PySem.Value)}{fd:wj}{O:List q8}{scope:PySem.Scope}{params:PySem.Arguments}{an od oa:Option PySem.Addr}{T:String}{sl:Array (Option PySem.Value)}{items:Array PySem.Value}{d da db dc:q8}{fr:PySem.Addr->Prop}{ops:List PySem.CmpOp}{led:Bool}{fps:List (List PySem.Addr)}
noncomputable section
open Lean Parser.Tactic in
def cvP:Nat->Term->MacroM (TSyntax `rcasesPat)|0,_=>Macro.throwUnsupported|n+1,p=>match p with|`(⟨$x,*⟩)=>do let y<-x.getElems.mapM (λt=>do let q<-cvP n t;`(rcasesPatLo|$q:rcasesPat));`(rcasesPat|⟨$y,*⟩)|`(_)=>`(rcasesPat|_)|`($i:ident)=>`(rcasesPat|$i:ident)|_=>Macro.throwUnsupported
local macro_rules|`(tactic|let $p:term:=$e)=>do let q<-cvP 9 p;`(tactic|obtain $q:rcasesPat:=$e)
local macro_rules|`(#[$x,*])=>`(⟨$x,*⟩)
namespace L2
open PySem PySem.Spec PyProof.Rows
noncomputable abbrev Key:=Sum Int Str
noncomputable def a2M:Key->Value->Bool|.inl k,v=>Value.isInt k v|.inr x,v=>Value.isStrOf x v
noncomputable def c7Q(w:World):Key->Int|.inl k=>hashInt k|.inr x=>hashStr w x
def Q0{a b c:Nat}(h:a<=b)(k:Nat.ble (b+1) c=Qc):a<c:=Nat.le_trans (Nat.succ_le_succ h)<|Nat.le_of_ble_eq_true k
def Q2{a b c:Nat}(h:a<=b)(k:Nat.ble b c=Qc):a<=c:=Nat.le_trans h<|Nat.le_of_ble_eq_true k
def Q3{a b c:Nat}(h:a<b)(k:Nat.ble b c=Qc):a<c:=Nat.le_trans h<|Nat.le_of_ble_eq_true k
def Q4{a b c:Nat}(h:a<b)(k:Nat.ble b (c+1)=Qc):a<=c:=Nat.le_of_lt_succ<|Nat.le_trans h<|Nat.le_of_ble_eq_true k
def Q5{a b c:Nat}(h:a=b)(k:b<c):a<c:=h▸k
def Q6{a b c:Nat}(h:a<=b)(k:b<c):a<c:=Nat.lt_of_le_of_lt h k
def dX:∀{k:Key}{v:Value},a2M k v=Qc->(∃i t,k=Sum.inl i/\v=Value.int i t)\/(∃x t,k=zG x/\v=vN x t)|.inl i,v,h=>by let⟨t,e⟩:=Value.isInt_shape (k:=i) (v:=v) h;exact .inl #[i,t,rfl,e]|.inr x,v,h=>by let⟨t,e⟩:=Value.isStrOf_shape (x:=x) (v:=v) h;exact .inr #[x,t,rfl,e]
def b4J i t:a2M (.inl i) (.int i t)=true:=by simp[a2M,Value.isInt]
def b4I x t:a2M (.inr x) (.str x t)=true:=by simp[a2M,Value.isStrOf]
def c4p a b:decide ((Sum.inl a:Key)=Sum.inl b)=(a==b):=by
 by_cases e:a=b;.subst e;simp
 .have h:¬(Sum.inl a:Key)=Sum.inl b:=λq=>e<|Sum.inl.inj q;rw[decide_eq_false h];exact(beq_eq_false_iff_ne.mpr e).symm
def c4m a b:decide ((zG a:Key)=zG b)=decide (a=b):=by
 by_cases e:a=b;.subst e;simp
 .have h:¬(zG a:Key)=zG b:=λq=>e<|zQ q;rw[decide_eq_false h,decide_eq_false e]
def c4o a b:decide ((Sum.inl a:Key)=zG b)=false:=decide_eq_false (λq=>nomatch q)
def c4n a b:decide ((zG a:Key)=Sum.inl b)=false:=decide_eq_false (λq=>nomatch q)
def cO(prog:Program)(w:World):PySem.KeyKind prog w Key where
 is:=a2M;hash:=c7Q w;inj:=λv a b ha hb=>by
  rcases dX ha with⟨i,t,rfl,rfl⟩|⟨x,t,rfl,rfl⟩
  .rcases dX hb with⟨j,u,rfl,e⟩|⟨y,u,rfl,e⟩;.injection e with e1 _;rw[e1]
   .exact nomatch e
  .rcases dX hb with⟨j,u,rfl,e⟩|⟨y,u,rfl,e⟩;.exact nomatch e
   .injection e with e1 _;rw[e1]
 byValue:=λk v h=>by rcases dX h with⟨i,t,rfl,rfl⟩|⟨x,t,rfl,rfl⟩<;>rfl
 pyHash:=λhv h=>by
  rcases dX hv with⟨i,t,rfl,rfl⟩|⟨x,t,rfl,rfl⟩;.exact wpAny_pyHash_int h
  .exact wpAny_pyHash_str h
 eqBool:=λhu hv h=>by
  rcases dX hu with⟨i,t,rfl,rfl⟩|⟨x,t,rfl,rfl⟩
  .rcases dX hv with⟨j,u,rfl,rfl⟩|⟨y,u,rfl,rfl⟩;.rw[c4p]at h;exact wpAny_eqBool_int h
   .rw[c4o]at h;exact SeqAt.EqAt.int_str i t y u _ _ _ _ h
  .rcases dX hv with⟨j,u,rfl,rfl⟩|⟨y,u,rfl,rfl⟩;.rw[c4n]at h;exact SeqAt.EqAt.str_int x t j u _ _ _ _ h
   .rw[c4m]at h;exact wpAny_eqBool_str h
 «strs»:=λk x t v h=>by
  rcases dX h with⟨i,u,rfl,e⟩|⟨y,u,rfl,e⟩;.exact nomatch e
  .injection e with e1 _;subst e1;cases v<;>rfl
def b1j prog w k v:(cO prog w).is k v=a2M k v:=rfl
def a2I prog w i t:(cO prog w).is (.inl i) (.int i t)=true:=b4J i t
def a2H prog w x t:(cO prog w).is (.inr x) (.str x t)=true:=b4I x t
inductive V where|non|bl(b:Bool)|int(i:Int)|str(x:Str)|byt(b:Array UInt8)|flt(b:UInt64)|ref(a:Addr)|ty(n:String)deriving DecidableEq
def RelV:V->Value->Prop|.non,u=>u=kE|.bl b,u=>u=jy b|.int i,u=>∃t,u=Value.int i t|.str x,u=>∃t,u=vN x t|.byt b,u=>∃t,u=Value.bytes b t|.flt b,u=>∃t,u=Value.float b t|.ref a,u=>u=jC a|.ty n,u=>u=zf n
abbrev bJ:List V->List Value->Prop:=Paired RelV
theorem bJ.length{Y:List V}{us:T0m}(r:bJ Y us):Y.length=us.length:=Paired.length r
theorem bJ.get:∀{Y:List V}{us:T0m}{i:Nat}{x:V},bJ Y us->Y[i]?=Qa x->∃u,us[i]?=Qa u/\RelV x u|_,_,_,_,.nil,e=>by simp at e|_,_,0,_,.cons r _,e=>by simp at e;subst e;exact#[_,rfl,r]|_,_,i+1,x,.cons _ t,e=>by let⟨u,b,a⟩:=bJ.get (i:=i) (x:=x) t (by simpa using e);exact#[u,by simpa using b,a]
theorem bJ.append:∀{Y ys:List V}{us a:T0m},bJ Y us->bJ ys a->bJ (Y++ys) (us++a)|_,_,_,_,.nil,s=>s|_,_,_,_,.cons r t,s=>.cons r<|bJ.append t s
theorem bJ.take:∀{Y:List V}{us:T0m} n,bJ Y us->bJ (Y.take n) (us.take n)|_,_,0,_=>.nil|_,_,_+1,.nil=>.nil|_,_,n+1,.cons r t=>.cons r<|bJ.take n t
theorem bJ.drop:∀{Y:List V}{us:T0m} n,bJ Y us->bJ (Y.drop n) (us.drop n)|_,_,0,r=>r|_,_,_+1,.nil=>.nil|_,_,n+1,.cons _ t=>bJ.drop n t
def xJ:Option V->Option Value->Prop|some v,Qa u=>RelV v u|none,Qb=>True|_,_=>False
def KV{κ:Type}:List (κ×V)->List (κ×Value)->Prop:=Paired λ p q=>p.1=q.1/\RelV p.2 q.2
noncomputable def kV:Key->V|.inl i=>.int i|.inr x=>.str x
inductive HO where|lst(Y:List V)|tup(Y:List V)|dK(kvs:List (Key×V))|dT(kvs:List (List Key×V))|set(S:Int->Bool)(n:Nat)|ins(C dx:Addr)(fs:List (Str×V))|own(x:Addr)|xd(fs:List (Str×V))|met(f x:Addr)|rng(lo hi:Int)|frz(o:Obj)(u:HO)|tbl(ps:Str×Array Value)|ext(φ:Heap->Prop)
noncomputable abbrev Hp:=Addr->Option HO
noncomputable def upd(H:Hp)(a:Addr)(o:HO):Hp:=λb=>if b=a then Qa o else H b
variable{H:Hp}{o:HO}
def aK:upd H a o a=Qa o:=by unfold upd;rw[if_pos rfl]
variable{b:Addr}
def aF(h:b≠a):upd H a o b=H b:=by unfold upd;rw[if_neg h]
def dI{u:HO}(h:H a=Qa o)(h':H b=Qa u)(d:o≠u):a≠b:=by intro e;subst e;rw[h]at h';exact d<|qA h'
def aP(h:H a=Qa o)(h':H b=Qb):a≠b:=by intro e;subst e;rw[h]at h';cases h'
section
variable(P:Program)(w:World)
def eB(H:Hp)(h:Heap)(a:Addr):HO->Prop|.lst Y=>Y.length<=j5/\∃its n,bJ Y its/\h.get? a=Qa {cls:=.type "list",data:=.seq its.toArray n}|.tup Y=>Y.length<=j5/\∃its:List Value,bJ Y its/\IsTup h a its.toArray|.dK kvs=>kvs.length<=j5/\(a==wt)=Qd/\∃vs,KV kvs vs/\h.DictOf (cO P w) a vs|.dT kvs=>kvs.length<=j5/\(a==wt)=Qd/\∃Y:List (List Key×Addr×Value),Paired (λ p q=>p.1=q.1/\H q.2.1=Qa (.tup<|p.1.map kV)/\RelV p.2 q.2.2) kvs Y/\∃o es ep,h.get? a=Qa o/\o.ExactDict/\o.data=.dict es ep/\es.toList=Y.map (entryOfKey<|uy<|cO P w)/\(Y.map (·.1)).Nodup|.set S n=>h.SetOf (intKind P w) a S n|.ins C dx fs=>H dx=Qa (.own a)/\fs.length<=1000/\dx≠a/\h.get? a=Qa (kT C dx)/\∃mA,h.Ns1 dx mA/\(∀f,xJ (fs.lookup f)<|mA f)/\PySem.Within mA (fs.map (·.1))|.own _=>∃o,h.get? a=Qa o|.xd fs=>∃mA,h.Ns1 a mA/\∀f,xJ (fs.lookup f) (mA f)|.rng lo hi=>∃t u v,h.get? a=Qa {cls:=.type "range",data:=.fields<|List.toArray [.int lo t,.int hi u,.int 1 v]}|.frz o u=>h.get? a=Qa o/\eB H h a u|.tbl ps=>h.get? a=Qa {cls:=.none,data:=.fields ps.2}|.met f x=>h.get? a=Qa (wG (.ref f)<|.ref x)|.ext φ=>φ h/\(∃o,h.get? a=Qa o)/\∀h1 h2:Heap,φ h1->(∀o,h1.get? a=Qa o->h2.get? a=Qa o)->φ h2
def HOk(H:Hp)(h:Heap):Prop:=∀a o,H a=Qa o->eB P w H h a o
end
variable{H':Hp}
section
variable{h:Heap}
theorem eB.lt(x:eB P w H h a o):a<h.objs.size:=by cases o with|lst Y=>let⟨_,_,_,_,e⟩:=x;exact qQ e|tup Y=>let⟨_,_,_,p⟩:=x;exact p.lt|dK b=>let⟨_,_,_,_,o,_,_,e,_⟩:=x;exact qQ e|dT b=>let⟨_,_,_,_,o,_,_,e,_⟩:=x;exact qQ e|set S n=>let⟨o,_,_,_,e,_⟩:=x;exact qQ e|ins C j fs=>let⟨_,_,_,e,_⟩:=x;exact qQ e|own y=>let⟨_,e⟩:=x;exact qQ e|xd fs=>let⟨_,⟨_,_,_,e,_⟩,_⟩:=x;exact qQ e|rng g i=>let⟨_,_,_,e⟩:=x;exact qQ e|frz ob u=>let⟨e,_⟩:=x;exact qQ e|tbl d=>exact qQ (show h.get? a=Qa _ from x)|met f y=>exact qQ (show h.get? a=Qa _ from x)|ext c=>let⟨_,⟨_,e⟩,_⟩:=x;exact qQ e
theorem Paired.mapP{F G:α->β->Prop}:∀{d:List α}{c:List β},Paired F d c->(∀a b,F a b->G a b)->Paired G d c|_,_,.nil,_=>.nil|_,_,.cons r t,f=>.cons (f _ _ r)<|Paired.mapP t f
def eB.stay(x:eB P w H h a o)(k:∀b u,(b=a\/H b=Qa (.own a))->h.get? b=Qa u->h'.get? b=Qa u)(J:∀b,H b=Qa (.own a)->H' b=Qa (.own a))(I:∀b Y,H b=Qa (.tup Y)->H' b=Qa (.tup Y)):eB P w H' h' a o:=by induction o with|lst Y=>let⟨z,j,n,r,e⟩:=x;exact#[z,j,n,r,k _ _ (.inl rfl) e]|tup Y=>let⟨z,j,r,ob,e,c⟩:=x;exact#[z,j,r,ob,k _ _ (.inl rfl) e,c]|dK D=>let⟨z,y,F,r,ob,g,i,e,c⟩:=x;exact#[z,y,F,r,ob,g,i,k _ _ (.inl rfl) e,c]|dT D=>let⟨z,y,Y,r,ob,g,i,e,c⟩:=x;exact#[z,y,Y,Paired.mapP r λp q z=>#[z.1,I _ _ z.2.1,z.2.2],ob,g,i,k _ _ (.inl rfl) e,c]|set S n=>let⟨ob,g,i,t,e,c⟩:=x;exact#[ob,g,i,t,k _ _ (.inl rfl) e,c]|ins C R fs=>let⟨d,z,ne,e,A,⟨s,g,i,K,c⟩,r⟩:=x;exact#[J _ d,z,ne,k _ _ (.inl rfl) e,A,#[s,g,i,k _ _ (.inr d) K,c],r]|own y=>let⟨ob,e⟩:=x;exact#[ob,k _ _ (.inl rfl) e]|xd fs=>let⟨A,⟨s,g,i,e,c⟩,r⟩:=x;exact#[A,#[s,g,i,k _ _ (.inl rfl) e,c],r]|rng N Q=>let⟨t,u,v,e⟩:=x;exact#[t,u,v,k _ _ (.inl rfl) e]|frz ob u G=>let⟨e,q⟩:=x;exact#[k _ _ (.inl rfl) e,G q]|tbl M=>have e:=x;exact k a _ (.inl rfl) e|met f y=>have e:=x;exact k a _ (.inl rfl) e|ext L=>let⟨p,⟨o,e⟩,E⟩:=x;exact#[E _ _ p λo q=>k _ _ (.inl rfl) q,#[o,k _ _ (.inl rfl) e],E]
theorem HOk.lt(x:HOk P w H h)(e:H a=Qa o):a<h.objs.size:=(x a o e).lt
def HOk.fresh(x:HOk P w H h)(e:h.objs.size<=a):H a=none:=by cases q:H a with|none=>rfl|some u=>exact absurd (qX (x.lt q) e)<|jl _
abbrev U9(h h':Heap):Prop:=∀b o,h.get? b=Qa o->h'.get? b=Qa o
def HOk.kept(x:HOk P w H h)(k:U9 h h'):HOk P w H h':=λa o e=>(x a o e).stay (λb u _ q=>k b u q) (λ_ q=>q) λ_ _ q=>q
def HOk.laid(x:HOk P w H h)(k:U9 h h')(i:h.objs.size<=a)(d:eB P w (upd H a o) h' a o):HOk P w (upd H a o) h':=λb u e=>by
 have f:=x.fresh i;by_cases g:b=a;.subst g;rw[aK]at e;cases e;exact d
 .rw[aF g]at e;exact(x b u e).stay (λc v _ q=>k c v q) (λc q=>by rwa[aF<|aP q f]) λc Y q=>by rwa[aF<|aP q f]
end
def Rd(H:Hp)(a:Addr)(u:HO):Prop:=H a=Qa u\/∃o,H a=Qa (.frz o u)
def Rd.ok{h:Heap}{u:HO}(r:Rd H a u)(x:HOk P w H h):eB P w H h a u:=by
 obtain r|⟨o,r⟩:=r;.exact x a u r
 .let⟨_,q⟩:=x a _ r;exact q
def Mut:Option HO->Prop|some (.lst _)=>True|some (.dK _)=>True|some (.dT _)=>True|some (.set _ _)=>True|some (.ins _ _ _)=>True|some (.ext _)=>True|_=>False
section
variable{h:Heap}{x e:Addr}{o':HO}
def HOk.write(ok:HOk P w H h)(s:Mut (H x))(t:e=x\/H e=Qa (.own x))(k:∀b u,b≠e->h.get? b=Qa u->h'.get? b=Qa u)(o:∃u,h'.get? e=Qa u)(j:eB P w (upd H x o') h' x o'):HOk P w (upd H x o') h':=λb u q=>by
 have d:∀c y,H c=Qa (.own y)->c≠x:=λc y r z=>by subst z;rwa[r]at s
 have f:∀c Y,H c=Qa (.tup Y)->c≠x:=λc Y r z=>by subst z;rwa[r]at s
 by_cases i:b=x;.subst i;rw[aK]at q;cases q;exact j
 .rw[aF i]at q;by_cases a:b=e
  .have p:H b=Qa (.own x):=by
    obtain z|z:=t;.exact absurd (a.trans z) i
    .rwa[a]
   rw[q]at p;cases p;let⟨v,A⟩:=o;exact#[v,by rwa[a]]
  .refine(ok b u q).stay (λc v g r=>k c v ?_ r) (λc r=>by rw[aF<|d c b r];exact r) λc Y r=>by rw[aF<|f c Y r];exact r
   obtain rfl|g:=g;.exact a
   .rintro rfl;obtain z|z:=t;.exact d c b g z
    .rw[g]at z;cases z;exact i rfl
end
structure Un(fs ex:T0o)(H H':Hp)(h h':Heap):Prop where
 keep:∀b o,h.get? b=Qa o->H b=Qb->b∉fs->b∉ex->h'.get? b=Qa o
 slot:∀b o,h.get? b=Qa o->H b=Qb->b∈fs->b∉ex->∃sl,h'.get? b=Qa {o with slots:=sl}free:∀b o,h.get? b=Qa o->H b=Qb->b∉ex->H' b=Qb
 there:∀b o,h.get? b=Qa o->b∉ex->∃o',h'.get? b=Qa o'
 tups:∀b Y,H b=Qa (.tup Y)->H' b=Qa (.tup Y)frzs:∀b o u,H b=Qa (.frz o u)->H' b=Qa (.frz o u)tbls:∀b ps,H b=Qa (.tbl ps)->∃more,H' b=Qa (.tbl (ps.1,ps.2++more))
section
variable{fs fs' ex ex':T0o}{H1 H2:Hp}{h h2:Heap}{x e:Addr}
def Un.any(u:Un fs ex H H1 h h1){ob:Obj}(q:h.get? b=Qa ob)(n:H b=Qb)(hx:b∉ex):∃sl,h1.get? b=Qa {ob with slots:=sl}:=by
 by_cases a:b∈fs;.exact u.slot b ob q n a hx
 .exact#[ob.slots,u.keep b ob q n a hx]
def Un.trans(a:Un fs ex H H1 h h1)(b:Un fs ex H1 H2 h1 h2):Un fs ex H H2 h h2 where
 keep:=λc ob q n f d=>b.keep c ob (a.keep c ob q n f d) (a.free c ob q n d) f d;slot:=λc ob q n f d=>by let⟨r,e⟩:=a.slot c ob q n f d;let⟨g,j⟩:=b.slot c _ e (a.free c ob q n d) f d;exact#[g,j]
 free:=λc ob q n d=>by let⟨i,e⟩:=a.there c ob q d;exact b.free c i e (a.free c ob q n d) d
 there:=λc ob q d=>by let⟨i,e⟩:=a.there c ob q d;exact b.there c i e d
 tups:=λc Y q=>b.tups c Y<|a.tups c Y q;frzs:=λc ob Y q=>b.frzs c ob Y<|a.frzs c ob Y q;tbls:=λc k q=>by let⟨p,e⟩:=a.tbls c k q;let⟨o,j⟩:=b.tbls c _ e;exact#[p++o,by rw[j];simp]
def Un.kept(k:U9 h h'):Un fs ex H H h h':=#[λb ob q _ _ _=>k b ob q,λb ob q _ _ _=>#[ob.slots,k b ob q],λ_ _ _ n _=>n,λb ob q _=>#[ob,k b ob q],λ_ _ q=>q,λ_ _ _ q=>q,λ_ a q=>#[(List.toArray []),by rw[q];simp]]
def Un.refl:Un fs ex H H h h:=Un.kept λ_ _ q=>q
def Un.laid(k:U9 h h')(d:h.objs.size<=a)(c:H a=Qb):Un fs ex H (upd H a o) h h' where
 keep:=λb u q _ _ _=>k b u q;slot:=λb u q _ _ _=>#[u.slots,k b u q];free:=λb u q n _=>by rwa[aF<|qd<|qX (qQ q) d]
 there:=λb u q _=>#[u,k b u q];tups:=λb Y q=>by rwa[aF<|aP q c]
 frzs:=λb u Y q=>by rwa[aF<|aP q c]
 tbls:=λb e q=>#[(List.toArray []),by rw[aF<|aP q c,q];simp]
def Un.write(c:Mut (H x))(j:e=x\/H e=Qa (.own x))(k:∀b u,b≠e->h.get? b=Qa u->h'.get? b=Qa u)(f:∃u,h'.get? e=Qa u):Un fs ex H (upd H x o) h h':=by
 have g:∀b,H b=Qb->b≠x:=λb n z=>by subst z;rwa[n]at c
 have i:∀b,H b=Qb->b≠e:=λb n z=>by
  subst z;obtain r|r:=j;.exact g b n r
  .rw[n]at r;cases r
 have d:∀b u,H b=Qa u->¬Mut (Qa u)->b≠x:=λb u q nm z=>by subst z;rw[q]at c;exact nm c
 refine#[λb u q n _ _=>k b u (i b n) q,λb u q n _ _=>#[u.slots,k b u (i b n) q],λb u q n _=>by rwa[aF<|g b n],λb u q _=>?_,λb Y q=>by rwa[aF<|d b _ q λz=>z],λb u Y q=>by rwa[aF<|d b _ q λz=>z],λb p q=>#[(List.toArray []),by rw[aF (d b _ q λz=>z),q];rfl]];by_cases a:b=e;.subst a;exact f
 .exact#[u,k b u a q]
def Un.mono(u:Un fs ex H H1 h h1)(c:∀b∈fs,b∈fs')(hx:∀b∈ex,b∈ex'):Un fs' ex' H H1 h h1:=#[λb ob q n d a=>u.keep b ob q n (λz=>d<|c b z) λz=>a<|hx b z,λ_ _ q n _ a=>u.any q n λz=>a<|hx _ z,λb ob q n a=>u.free b ob q n λz=>a<|hx b z,λb ob q a=>u.there b ob q λz=>a<|hx b z,u.tups,u.frzs,u.tbls]
end
noncomputable def trk(h:Heap)(H:Hp):List Addr:=(qj h.objs.size).filter λa=>(H a).isSome
def a5C(h:Heap)(H:Hp):Heap:=vQ h<|trk h H
def b4K h H:(a5C h H).objs.size=h.objs.size:=PySem.W.hideAll_size _ _
def b7y{h:Heap}{o:Obj}(e:h.get? b=Qa o)(n:H b=Qb):(a5C h H).get? b=Qa o:=vj _ e λa=>by have q:=(jA.mp a).2;rw[n]at q;simp at q
def c0l{h:Heap}{o:Obj}(e:(a5C h H).get? b=Qa o):h.get? b=Qa o/\H b=none:=by have a:=vt (trk h H) e;refine#[a,?_];cases q:H b with|none=>rfl|some x=>have c:b∈trk h H:=jA.mpr #[kH.mpr<|qQ a,by simp[q]];have z:(a5C h H).get? b=none:=zc (trk h H) c;rw[z]at e;cases e
noncomputable def c1Y(g h:Heap)(L:Addr):List (Addr×Obj):=(qj h.objs.size).filterMap λa=>if a=L\/(g.get? a).isSome=Qc then Qb else(h.get? a).map λo=>(a,o)
def rest(g h:Heap)(L d:Addr):List (Addr×Obj):=(c1Y g h L).filter λp=>decide (p.1≠d)
structure Mod(K:qB)(mg:T0d)(base:Heap):Prop where
 kin:K.In base
 glob:base.Ns j6 mg
 blt:∃mb,base.Ns yy mb/\∀x:Str,x≠"__name__"->mb x=wn x
 nolimit:base.NoLimit
structure Cx where
 prog:Program
 w:World
 K:qB
 mg:Str->Option Value
 base:Heap
 A:Around
 N:List Str
 s₀:Shared
 H₀:Hp
 env:Env
 outer:List Env
 stack:List Env
 ex:List Addr
 fn:Str->Bool
 calm:Bool
 pn:List (Addr×Obj)xe:Value->Shared->Prop
noncomputable def frs(l:List Env):List Addr:=l.filterMap (·.frame)
abbrev Cx.fs(X:Cx):List Addr:=frs X.outer
def Vis(sc:Scope)(x:Str):Prop:=sc.names.lookup x=Qa .local\/sc.names.lookup x=Qa .cell\/sc.names.lookup x=Qa .free
def Loc(sc:Scope)(x:Str):Prop:=sc.names.lookup x=Qa .local\/sc.names.lookup x=Qa .cell
def Look(env:Env)(h:Heap)(m:T0d)(x:Str)(u:Value):Prop:=(env.kindOf x=Qa .local/\m x=Qa u)\/((env.kindOf x=Qa .cell\/env.kindOf x=Qa .free)/\∃c,env.cells.lookup x=Qa c/\h.IsCell c (Qa u))
structure Cx.Ok(X:Cx):Prop where
 mod:Mod X.K X.mg X.base
 kind:X.env.scope.kind=.function
 glob:X.env.globals=j6
 blt:X.env.builtins=yy
 above:X.s₀.heap.objs.size<=X.env.locals
 inj:∀x y c,X.env.cells.lookup x=Qa c->X.env.cells.lookup y=Qa c->x=y
 has:∀x,(X.env.kindOf x=Qa .cell\/X.env.kindOf x=Qa .free)->∃c,X.env.cells.lookup x=Qa c
 cab:∀x c,X.fn x=Qc->X.env.cells.lookup x=Qa c->X.s₀.heap.objs.size<=c
 hd:X.calm=Qc->X.A.handled=Qb
 frames:X.A.frames=Qa X.stack
 stk:X.stack=X.outer\/(X.stack=X.env::X.outer/\X.env.frame=Qa X.env.locals)exf:∀b∈X.ex,b≠X.env.locals/\∀x c,X.env.cells.lookup x=Qa c->c≠b
 bs:∀b o,X.base.get? b=Qa o->X.s₀.heap.get? b=Qa o/\X.H₀ b=Qb
 bsz:X.base.objs.size<=X.s₀.heap.objs.size
 noex:∀b o,X.base.get? b=Qa o->b∉X.ex
 exfs:∀b∈X.ex,b∉X.fs
 funs:X.s₀.heap.FunFrames X.base X.outer
 frf:∀b∈X.fs,X.H₀ b=Qb
structure Inv(X:Cx)(B:T0b)(U:List (Option V))(H:Hp)(s:Shared):Prop where
 ok:X.Ok
 os:s.os=X.s₀.os
 bare:uc s.gens
 base:Un X.fs X.ex X.H₀ H X.s₀.heap s.heap
 loc:∃m,s.heap.Ns X.env.locals m/\∀(i:Nat) x v,X.N[i]?=Qa x->U[i]?=Qa (Qa v)->Vis X.env.scope x->∃u,RelV v u/\Look X.env s.heap m x u
 cell:∀x c,X.env.cells.lookup x=Qa c->∃v,s.heap.IsCell c v
 free:H X.env.locals=Qb
 freeC:∀x c,X.env.cells.lookup x=Qa c->H c=Qb
 pin:∀p∈X.pn++B,s.heap.get? p.1=Qa p.2/\H p.1=Qb/\p.1≠X.env.locals/\p.1∉X.fs/\∀v,p.2.data≠.cell v
 hok:HOk X.prog X.w H s.heap
 len:U.length=X.N.length
variable{X:Cx}{g':Array uh}{v:V}{s':Shared}
section
variable{U:List (Option V)}
def Cx.Ok.nofr(ok:X.Ok){o:Obj}(e:X.base.get? b=Qa o):b∉X.fs:=λa=>by have:=(ok.funs.mem a).1;rw[e]at this;cases this
theorem Inv.bs(I:Inv X B U H s):∀b o,X.base.get? b=Qa o->s.heap.get? b=Qa o/\H b=none:=λb o e=>#[I.base.keep b o (I.ok.bs b o e).1 (I.ok.bs b o e).2 (I.ok.nofr e)<|I.ok.noex b o e,I.base.free b o (I.ok.bs b o e).1 (I.ok.bs b o e).2<|I.ok.noex b o e]
def Inv.bk(I:Inv X B U H s):∀b o,X.base.get? b=Qa o->s.heap.get? b=Qa o:=λb o e=>(I.bs b o e).1
theorem Inv.mod(I:Inv X B U H s):Mod X.K X.mg X.base:=I.ok.mod
def Inv.kIn(I:Inv X B U H s):X.K.In s.heap:=I.ok.mod.kin.keeps I.bk
theorem Inv.lt(I:Inv X B U H s):X.env.locals<s.heap.objs.size:=let⟨_,hn,_⟩:=I.loc;hn.lt
def Inv.sz(I:Inv X B U H s):X.s₀.heap.objs.size<=s.heap.objs.size:=qk I.ok.above<|jg I.lt
def Inv.nofs(I:Inv X B U H s)(h:s.heap.objs.size<=a):a∉X.fs:=λc=>by let⟨_,o,b,_⟩:=I.ok.funs.mem c;exact absurd (qX (qQ b)<|qk I.sz h)<|jl _
def Inv.cne(I:Inv X B U H s):∀x c,X.env.cells.lookup x=Qa c->c≠X.env.locals:=λx c e z=>by let⟨v,o,d,f⟩:=I.cell x c e;let⟨m,⟨g,i,j,a,b,_⟩,_⟩:=I.loc;rw[z,a]at d;cases d;rw[b]at f;cases f
theorem Inv.funs(I:Inv X B U H s):s.heap.FunFrames X.base X.outer:=by
 have all:∀(l:List Env),(∀b∈frs l,b∈X.fs)->X.s₀.heap.FunFrames X.base l->s.heap.FunFrames X.base l:=by intro l;induction l with|nil=>intro _ _;trivial|cons t r g=>rintro f⟨p,⟨L,o,a,k,j,q⟩,i⟩;have d:=f L (by unfold frs;rw[zD,a];exact qr);let⟨u,e⟩:=I.base.slot L o j (I.ok.frf L d) d λz=>I.ok.exfs L z d;exact#[p,#[L,_,a,k,e,q],g (λb c=>f b<|by unfold frs;rw[zD,a];exact qG _ c) i]
 exact all X.outer (λ_ c=>c) I.ok.funs
theorem Inv.stack(I:Inv X B U H s):s.heap.FunFrames X.base X.stack:=by
 obtain e|⟨e,b⟩:=I.ok.stk;.rw[e];exact I.funs
 .rw[e];let⟨m,a,_⟩:=I.loc;exact .cons (by rw[I.ok.kind];decide) b a (zF<|qk I.ok.bsz I.ok.above) I.funs
def Inv.stkSub(I:Inv X B U H s):∀b∈frs X.stack,b∈X.env.locals::X.fs:=λb a=>by
 obtain e|⟨e,c⟩:=I.ok.stk;.rw[e]at a;exact qG _ a
 .rw[e]at a;unfold frs at a;rwa[zD,c]at a
def Inv.stkFree(I:Inv X B U H s):∀b∈frs X.stack,H b=none:=λb a=>by
 rcases qI.mp (I.stkSub b a)with e|a;.rw[e];exact I.free
 .let⟨_,o,c,_⟩:=I.ok.funs.mem a;exact I.base.free b o c (I.ok.frf b a) λz=>I.ok.exfs b z a
def Inv.step(I:Inv X B U H s)(g:∀b∈ch,(b∈X.ex\/X.s₀.heap.objs.size<=b)/\b≠X.env.locals/\(∀x c,X.env.cells.lookup x=Qa c->c≠b)/\∀p∈X.pn++B,p.1≠b)(keep:∀b o,b≠X.env.locals->b∉X.fs->b∉ch->s.heap.get? b=Qa o->H b=Qb->h'.get? b=Qa o)(y:∀b o,b≠X.env.locals->b∈X.fs->b∉ch->s.heap.get? b=Qa o->H b=Qb->∃sl,h'.get? b=Qa {o with slots:=sl})(free:∀b o,b∉ch->s.heap.get? b=Qa o->H b=Qb->H' b=Qb)(there:∀b o,b∉ch->s.heap.get? b=Qa o->∃o',h'.get? b=Qa o')(D:∀b Y,H b=Qa (.tup Y)->H' b=Qa (.tup Y))(G:∀b o u,H b=Qa (.frz o u)->H' b=Qa (.frz o u))(E:∀b ps,H b=Qa (.tbl ps)->∃more,H' b=Qa (.tbl (ps.1,ps.2++more)))(ns:∀m,s.heap.Ns X.env.locals m->h'.Ns X.env.locals m)(L:HOk X.prog X.w H' h')(hg:uc g'):Inv X B U H' {s with heap:=h',gens:=g',drawn:=d',toks:=t'}:=by
 have F:∀b o,X.s₀.heap.get? b=Qa o->b≠X.env.locals:=λb o e=>qd<|qX (qQ e) I.ok.above;have t:∀b o,X.s₀.heap.get? b=Qa o->b∉X.ex->b∉ch:=λb o e a A=>by
  rcases(g b A).1 with z|z;.exact a z
  .exact absurd (qX (qQ e) z) (jl _)
 have j:∀x c,X.env.cells.lookup x=Qa c->∀v,s.heap.IsCell c v->h'.IsCell c v:=by
  rintro x c e v⟨o,C,M⟩;have f:c∉ch:=λz=>(g c z).2.2.1 x c e rfl;by_cases Q:c∈X.fs;.let⟨sl,q⟩:=y c o (I.cne x c e) Q f C<|I.freeC x c e;exact#[_,q,M]
  .exact#[o,keep c o (I.cne x c e) Q f C<|I.freeC x c e,M]
 refine#[I.ok,I.os,hg,#[λb o e n A a=>?_,λb o e n A a=>?_,λb o e n a=>?_,λb o e a=>?_,λb Y e=>D b Y<|I.base.tups b Y e,λb o Y e=>G b o Y<|I.base.frzs b o Y e,λb ps e=>?_],?_,λx c e=>?_,?_,λx c e=>?_,λp P=>?_,L,I.len];.exact keep b o (F b o e) A (t b o e a) (I.base.keep b o e n A a) (I.base.free b o e n a)
 .let⟨sl,w⟩:=I.base.slot b o e n A a;let⟨K,J⟩:=y b _ (F b o e) A (t b o e a) w<|I.base.free b o e n a;exact#[K,J]
 .let⟨o',w⟩:=I.base.there b o e a;exact free b o' (t b o e a) w (I.base.free b o e n a)
 .let⟨o',w⟩:=I.base.there b o e a;exact there b o' (t b o e a) w
 .let⟨S,w⟩:=I.base.tbls b ps e;let⟨R,J⟩:=E b _ w;exact#[S++R,by rw[J];simp]
 .let⟨m,T,hl⟩:=I.loc;refine#[m,ns m T,λi x v w J e3=>?_];let⟨u,r,l⟩:=hl i x v w J e3;refine#[u,r,?_];obtain l|⟨k,c,e,z⟩:=l;.exact .inl l
  .exact .inr #[k,c,e,j x c e _ z]
 .let⟨v,z⟩:=I.cell x c e;exact#[v,j x c e v z]
 .let⟨m,⟨o,_,_,C,_⟩,_⟩:=I.loc;exact free _ o (λz=>(g _ z).2.1 rfl) C I.free
 .let⟨v,o,C,M⟩:=I.cell x c e;exact free c o (λz=>(g c z).2.2.1 x c e rfl) C (I.freeC x c e)
 .let⟨e,n,ne,N,d⟩:=I.pin p P;have f:p.1∉ch:=λz=>(g p.1 z).2.2.2 p P rfl;exact#[keep p.1 p.2 ne N f e n,free p.1 p.2 f e n,ne,N,d]
def Inv.un(I:Inv X B U H s)(u:Un X.fs [] H H' s.heap h')(c:HOk X.prog X.w H' h'):Inv X B U H' {s with heap:=h',toks:=t'}:=by let⟨m,⟨o,w,y,i,r⟩,_⟩:=id I.loc;let⟨q,p⟩:=u.any i I.free (by simp);exact I.step (g':=s.gens) (d':=s.drawn) (ch:=[]) (λ_ z=>nomatch z) (λb o _ d _ e n=>u.keep b o e n d<|by simp) (λb o _ d _ e n=>u.slot b o e n d<|by simp) (λb o _ e n=>u.free b o e n<|by simp) (λb o _ e=>u.there b o e<|by simp) u.tups u.frzs u.tbls (λv k=>by let⟨t,f,g,a,j⟩:=k;rw[i]at a;cases a;exact#[_,f,g,p,j]) c I.bare
def Inv.call(I:Inv X B U H s)(u:Un (frs X.stack) ch H H' s.heap h')(g:HOk X.prog X.w H' h')(w:uc g')(f:∀b∈ch,(b∈X.ex\/X.s₀.heap.objs.size<=b)/\b≠X.env.locals/\(∀x c,X.env.cells.lookup x=Qa c->c≠b)/\∀p∈X.pn++B,p.1≠b):Inv X B U H' {s with heap:=h',gens:=g',drawn:=d',toks:=t'}:=by let⟨m,⟨o,E,F,q,r⟩,_⟩:=id I.loc;let⟨A,i⟩:=u.any q I.free λz=>(f _ z).2.1 rfl;exact I.step (ch:=ch) f (λb o i y a e n=>u.keep b o e n (λz=>(qI.mp<|I.stkSub b z).elim i y) a) (λb o _ _ a e n=>u.any e n a) (λb o a e n=>u.free b o e n a) (λb o a e=>u.there b o e a) u.tups u.frzs u.tbls (λD v=>by let⟨C,j,k,d,t⟩:=v;rw[q]at d;cases d;exact#[_,j,k,i,t]) g w
def Inv.turned(I:Inv X B U H s)(k:∀b o,b≠it->s.heap.get? b=Qa o->h'.get? b=Qa o)(i:H it=Qb)(f:it≠X.env.locals)(A:it∈X.ex\/X.s₀.heap.objs.size<=it)(y:∀x c,X.env.cells.lookup x=Qa c->c≠it)(w:∀p∈X.pn++B,p.1≠it):Inv X B U H {s with heap:=h',toks:=t'}:=by
 have d:∀b u,H b=Qa u->b≠it:=λb u e z=>by rw[z,i]at e;cases e
 refine I.step (g':=s.gens) (d':=s.drawn) (ch:=[it]) (λb t=>?_) (λb o _ _ a e _=>k b o (λz=>a<|by simp[z]) e) (λb o _ _ a e _=>#[o.slots,k b o (λz=>a<|by simp[z]) e]) (λ_ _ _ _ n=>n)
  (λb o a e=>#[o,k b o (λz=>a<|by simp[z]) e]) (λ_ _ e=>e) (λ_ _ _ e=>e) (λb E e=>#[(List.toArray []),by rw[e];simp]) (λm j=>?_) (λb u e=>?_) I.bare
 .have e:b=it:=by simpa using t
  subst e;exact#[A,f,y,w]
 .let⟨o,C,D,g,r⟩:=j;exact#[o,C,D,k _ o (jL f) g,r]
 .refine(I.hok b u e).stay (λc v a q=>k c v ?_ q) (λ_ q=>q) λ_ _ q=>q;obtain z|z:=a;.rw[z];exact d b u e
  .exact d c _ z
def Inv.tok(I:Inv X B U H s) t:Inv X B U H {s with toks:=t}:=I.un (h':=s.heap) (t':=t) Un.refl I.hok
theorem Inv.kept{t':Nat}(I:Inv X B U H s)(k:U9 s.heap h'):Inv X B U H {s with heap:=h',toks:=t'}:=I.un (Un.kept k)<|I.hok.kept k
theorem Inv.laid{a:Addr}{o:HO}{t':Nat}(I:Inv X B U H s)(k:U9 s.heap h')(c:s.heap.objs.size<=a)(b:eB X.prog X.w (upd H a o) h' a o):Inv X B U (upd H a o) {s with heap:=h',toks:=t'}:=I.un (Un.laid k c<|I.hok.fresh c)<|I.hok.laid k c b
theorem Inv.write{x e:Addr}{o:HO}{t':Nat}(I:Inv X B U H s)(d:Mut (H x))(f:e=x\/H e=Qa (.own x))(k:∀b u,b≠e->s.heap.get? b=Qa u->h'.get? b=Qa u)(a:∃u,h'.get? e=Qa u)(c:eB X.prog X.w (upd H x o) h' x o):Inv X B U (upd H x o) {s with heap:=h',toks:=t'}:=I.un (Un.write d f k a)<|I.hok.write d f k a c
def Inv.pins_of(I:Inv X B U H s)(h:∀p∈pins',s.heap.get? p.1=Qa p.2/\H p.1=Qb/\p.1≠X.env.locals/\p.1∉X.fs/\∀v,p.2.data≠.cell v):Inv X pins' U H s:=#[I.ok,I.os,I.bare,I.base,I.loc,I.cell,I.free,I.freeC,λp a=>(qU.mp a).elim (λz=>I.pin p<|je _ z)<|h p,I.hok,I.len]
def a4k(c:N.Nodup){x:Str}(a:N[i]?=Qa x)(b:N[j]?=Qa x):i=j:=by let⟨g,e⟩:=qW.mp a;let⟨f,d⟩:=qW.mp b;exact(List.getElem_inj c).mp<|e.trans d.symm
abbrev U7(X:Cx)(x:Str):Prop:=X.fn x=Qc\/X.env.scope.names.lookup x=Qa .local
def a6a{x:Str}{Q:Unit->Shared->Prop}(I:Inv X B U H s)(hN:X.N.Nodup)(hi:X.N[i]?=Qa x)(hx:Loc X.env.scope x)(r:RelV v u)(h:∀s',Inv X B (U.set i<|Qa v) H s'->(∃a,kZ a s.heap s'.heap/\(a=X.env.locals\/X.env.cells.lookup x=Qa a))->Q () s')(hf:U7 X x:=by first|exact .inl rfl|exact .inr rfl|assumption):wpAny M A (storeName X.env x u) Q E s:=by
 let⟨m,hn,hl⟩:=id I.loc;have R:(X.env.scope.kind==.class||(X.env.scope.kind==.module&&X.env.locals !=X.env.globals))=false:=by rw[I.ok.kind];rfl
 have G:i<U.length:=by rw[I.len];exact(qW.mp hi).1
 have cne:=I.cne;have g:∀{a:Addr}{N:Heap},(∃o,s.heap.get? a=Qa o/\H a=Qb)->kZ a s.heap N->HOk X.prog X.w H N:=λ{a N}ha f b ob e=>by
  let⟨_,_,C⟩:=ha;refine(I.hok b ob e).stay (λc w' w q=>(f.2 c ?_).trans q) (λ_ q=>q) λ_ _ q=>q;rintro rfl;obtain rfl|w:=w;.rw[C]at e;cases e
  .rw[C]at w;cases w
 obtain F|F:=hx
 .refine wpAny_storeName_local F hn (λN hn' f=>?_) R;let⟨oL,_,_,hoL,_⟩:=id hn;refine h _ #[I.ok,I.os,I.bare,#[λb o e n L hx=>?_,λb o e n L hx=>?_,I.base.free,λb o e hx=>?_,I.base.tups,I.base.frzs,I.base.tbls],#[_,hn',λj y v' t D e3=>?_],λy c e=>?_,I.free,I.freeC,λp hp=>?_,g #[oL,hoL,I.free] f,by simpa using I.len] #[_,f,.inl rfl];.exact(f.2 b<|qd<|qX (qQ e) I.ok.above).trans (I.base.keep b o e n L hx)
  .let⟨sl,t⟩:=I.base.slot b o e n L hx;exact#[sl,(f.2 b<|qd<|qX (qQ e) I.ok.above).trans t]
  .let⟨o',t⟩:=I.base.there b o e hx;exact#[o',(f.2 b<|qd<|qX (qQ e) I.ok.above).trans t]
  .by_cases J:j=i;.subst J;rw[hi]at t;cases t;rw[kN G]at D;cases D;exact#[u,r,.inl #[F,by simp]]
   .rw[jK<|jL J]at D;let⟨u',r',q⟩:=hl j y v' t D e3;refine#[u',r',?_];obtain⟨k,e⟩|⟨k,c,e,z⟩:=q;.refine .inl #[k,?_];have:y≠x:=λe=>J<|a4k hN t<|e▸hi;simp[this,e]
    .exact .inr #[k,c,e,z.sameBut f<|cne y c e]
  .let⟨w',z⟩:=I.cell y c e;exact#[w',z.sameBut f<|cne y c e]
  .let⟨e,n,ne,nf,d⟩:=I.pin p hp;exact#[(f.2 p.1 ne).trans e,n,ne,nf,d]
 .have K:X.fn x=true:=by
   obtain z|z:=hf;.exact z
   .rw[z]at F;cases F
  let⟨c,w⟩:=I.ok.has x<|.inl F;let⟨w',z⟩:=I.cell x c w;refine wpAny_storeName_cell I.ok.kind F w z (λN T f=>?_);let⟨oc,P,hocd⟩:=id z;refine h {s with heap:=N} #[I.ok,I.os,I.bare,#[λb o e n L hx=>?_,λb o e n L hx=>?_,I.base.free,λb o e hx=>?_,I.base.tups,I.base.frzs,I.base.tbls],#[m,hn.sameBut f<|jL<|cne x c w,λj y v' t D e3=>?_],λy c' e=>?_,I.free,I.freeC,λp hp=>?_,g #[oc,P,I.freeC x c w] f,by simpa using I.len] #[c,f,.inr w];.exact(f.2 b<|qd<|qX (qQ e)<|I.ok.cab x c K w).trans (I.base.keep b o e n L hx)
  .let⟨sl,t⟩:=I.base.slot b o e n L hx;exact#[sl,(f.2 b<|qd<|qX (qQ e)<|I.ok.cab x c K w).trans t]
  .let⟨o',t⟩:=I.base.there b o e hx;exact#[o',(f.2 b<|qd<|qX (qQ e)<|I.ok.cab x c K w).trans t]
  .by_cases J:j=i;.subst J;rw[hi]at t;cases t;rw[kN G]at D;cases D;exact#[u,r,.inr #[.inl F,c,w,T]]
   .rw[jK<|jL J]at D;let⟨u',r',q⟩:=hl j y v' t D e3;refine#[u',r',?_];obtain q|⟨k,c',e,z'⟩:=q;.exact .inl q
    .refine .inr #[k,c',e,z'.sameBut f ?_];rintro rfl;exact J (a4k hN t<|I.ok.inj _ _ _ e w▸hi)
  .by_cases S:c'=c;.subst S;exact#[_,T]
   .let⟨w2,z2⟩:=I.cell y c' e;exact#[w2,z2.sameBut f S]
  .let⟨e,n,ne,nf,d⟩:=I.pin p hp;refine#[(f.2 p.1 ?_).trans e,n,ne,nf,d];intro q;rw[q,P]at e;have q':=qA e;exact d w' (by rwa[<-q'])
def uS{x:Str}{Q:Unit->Shared->Prop}(I:Inv X B U H s)(b:X.N.Nodup)(hi:X.N[i]?=Qa x)(hx:Loc X.env.scope x)(r:RelV v u)(h:∀s',Inv X B (U.set i<|Qa v) H s'->Q () s')(a:U7 X x:=by first|exact .inl rfl|exact .inr rfl|assumption):wpAny M A (storeName X.env x u) Q E s:=a6a I b hi hx r (λs' c _=>h s' c) a
def Inv.call'(I:Inv X B U H s)(f:s'.os=s.os)(u:Un (frs X.stack) ch H H' s.heap s'.heap)(a:HOk X.prog X.w H' s'.heap)(g:uc s'.gens)(d:∀b∈ch,(b∈X.ex\/X.s₀.heap.objs.size<=b)/\b≠X.env.locals/\(∀x c,X.env.cells.lookup x=Qa c->c≠b)/\∀p∈X.pn++B,p.1≠b):Inv X B U H' s':=by let⟨j,g',d',t',i⟩:=s';have e:=f;subst e;exact I.call (g':=g') (t':=t') (d':=d') u a g d
end
abbrev XK:=Value->Option Addr->Hp->Prop
noncomputable abbrev St:=List<|Option V
abbrev VK:=V->Hp->Prop
abbrev TE:=St->Hp->VK->Prop
abbrev TT:=St->Hp->(Bool->Hp->Prop)->Prop
abbrev TA:=St->Hp->(List V->Hp->Prop)->Prop
structure Ends where
 nx:St->Hp->Prop
 rt:VK
 bk:St->Hp->Prop:=λ_ _=>False
 ct:St->Hp->Prop:=λ_ _=>False
abbrev TS:=Ends->St->Hp->Prop
def EP(X:Cx)(B:T0b)(U:St)(Q:VK)(u:Value)(s':Shared):Prop:=∃v H',Inv X B U H' s'/\RelV v u/\Q v H'
def TP(X:Cx)(B:T0b)(U:St)(Q:Bool->Hp->Prop)(b:Bool)(s':Shared):Prop:=∃H',Inv X B U H' s'/\Q b H'
def AP(X:Cx)(B:T0b)(U:St)(Q:List V->Hp->Prop)(us:T0m)(s':Shared):Prop:=∃vs H',Inv X B U H' s'/\bJ vs us/\Q vs H'
def SP(X:Cx)(B:T0b)(D:Ends)(f:Flow)(s':Shared):Prop:=match f with|.next=>∃σ' H',Inv X B σ' H' s'/\D.nx σ' H'|.brk=>∃σ' H',Inv X B σ' H' s'/\D.bk σ' H'|.cont=>∃σ' H',Inv X B σ' H' s'/\D.ct σ' H'|.ret u=>∃v σ' H',Inv X B σ' H' s'/\RelV v u/\D.rt v H'
def PE(X:Cx)(e:Expr)(t:TE):Prop:=∀ B s(U:St) H Q,Inv X B U H s->t U H Q->wpAny (model X.prog X.w) X.A (eval e X.env) (EP X B U Q) X.xe s
def PT(X:Cx)(e:Expr)(t:TT):Prop:=∀ B s(U:St) H Q,Inv X B U H s->t U H Q->wpAny (model X.prog X.w) X.A (isTrue e X.env<|eval e X.env) (TP X B U Q) X.xe s
def PW(X:Cx)(e:Expr)(t:TT):Prop:=∀ whole B s(U:St) H Q,Inv X B U H s->t U H Q->wpAny (model X.prog X.w) X.A (isTrue e X.env whole) (TP X B U Q) X.xe s
def PA(X:Cx)(es:T0n)(t:TA):Prop:=∀ pos B s(U:St) H Q,Inv X B U H s->t U H Q->wpAny (model X.prog X.w) X.A (spliced<|j9 pos<|j4 es X.env) (AP X B U Q) X.xe s
def PS(X:Cx)(st:Stmt)(t:TS):Prop:=∀ B s(U:St) H D,Inv X B U H s->t D U H->wpAny (model X.prog X.w) X.A (exec st X.env) (SP X B D) X.xe s
def PSs(X:Cx)(st:List Stmt)(t:TS):Prop:=∀ B s(U:St) H D,Inv X B U H s->t D U H->wpAny (model X.prog X.w) X.A (execs st X.env) (SP X B D) X.xe s
def thn{t:Sem α}{Q b:α->Shared->Prop}(h:wpAny M A t Q E s)(c:∀a s,Q a s->b a s):wpAny M A t b E s:=v0 h c λ_ _ x=>x
variable{U:St}{ta tb:TE}
section
noncomputable def c5A(i:Nat):TE:=λU H Q=>∃v,U[i]?=Qa (Qa v)/\Q v H
noncomputable def tC(v:V):TE:=λ_ H Q=>Q v H
abbrev U2(x:Str):Prop:=(x==("__debug__":Str))=Qd
abbrev U3(x:Str):Prop:=(x==("__classdict__":Str))=Qd
def dF{x:Str}(t:X.N[i]?=Qa x)(k:Vis X.env.scope x)(f:U2 x:=by decide)(g:U3 x:=by decide):PE X (.Name x pos) (c5A i):=by
 rintro B s U H Q I⟨v,e,h⟩;let⟨m,o,q⟩:=I.loc;let⟨u,r,l⟩:=q i x v t e k;have d:EP X B U Q u s:=#[v,H,I,r,h];obtain⟨b,p⟩|⟨b,c,j,a⟩:=l;.exact wpAny_Name (wpAny_loadName_local I.ok.kind b o p d) f
 .obtain b|b:=b;.exact wpAny_Name (wpAny_loadName_cell I.ok.kind b j a d) f
  .exact wpAny_Name (wpAny_loadName_free I.ok.kind b j a d g) f
def c3A{i j pos:_}:PE X (.Constant (.int i) j pos) (tC<|.int i):=λ_ _ _ H _ I h=>wpAny_Constant_int #[.int i,H,I.tok _,#[_,rfl],h]
def c5Y{b j pos:_}:PE X (.Constant (.bool b) j pos) (tC<|.bl b):=λ_ _ _ H _ I h=>Constant_bool #[.bl b,H,I,rfl,h]
def c3z{j pos:_}:PE X (.Constant .none j pos) (tC .non):=λ_ _ _ H _ I h=>Constant_none #[.non,H,I,rfl,h]
def b6v{x j pos:_}:PE X (.Constant (.str x) j pos) (tC<|.str x):=λ_ _ _ H _ I h=>Calls.Constant_str #[.str x,H,I.tok _,#[_,rfl],h]
def Gl(X:Cx)(x:Str):Prop:=X.env.kindOf x=Qa .globalImplicit
def gT{x:Str}(I:Inv X B U H s)(b:Gl X x)(a:X.mg x=Qa u)(h:Q u s)(c:U2 x:=by decide):wpAny (model X.prog X.w) X.A (eval (.Name x pos) X.env) Q E s:=Calls.Name_function_global I.ok.kind b (Calls.loadGlobal_global (by rw[I.ok.glob];exact I.mod.glob.keeps I.bk) a h) c
def a1T{x:Str}(I:Inv X B U H s)(d:Gl X x)(c:X.mg x=Qb)(a:wn x=Qa u)(h:Q u s)(b:x≠"__name__":=by decide)(e:U2 x:=by decide):wpAny (model X.prog X.w) X.A (eval (.Name x pos) X.env) Q E s:=by let⟨i,g,f⟩:=I.mod.blt;exact Calls.Name_function_global I.ok.kind d (Calls.loadGlobal_builtin (by rw[I.ok.glob];exact I.mod.glob.keeps I.bk) c (by rw[I.ok.blt];exact g.keeps I.bk) ((f x b).trans a) h) e
def b2G{x:Str}(b:Gl X x)(a:X.mg x=Qa u)(r:RelV v u)(c:U2 x:=by decide):PE X (.Name x pos) (tC v):=λ_ _ _ H _ I h=>gT I b a #[v,H,I,r,h] c
def b2J{x:Str}(d:Gl X x)(c:X.mg x=Qb)(a:wn x=Qa u)(r:RelV v u)(b:x≠"__name__":=by decide)(e:U2 x:=by decide):PE X (.Name x pos) (tC v):=λ_ _ _ H _ I h=>a1T I d c a #[v,H,I,r,h] b e
variable{a b:Expr}
def PC(X:Cx)(op:CmpOp)(a b:Expr)(t:TE):Prop:=∀ B s(U:St) H Q,Inv X B U H s->t U H Q->wpAny (model X.prog X.w) X.A (eval a X.env) (λv s1z=>wpAny (model X.prog X.w) X.A (eval b X.env) (λu s2z=>wpAny (model X.prog X.w) X.A (v9 op v u) (EP X B U Q) X.xe s2z) X.xe s1z) X.xe s
def a9u b(h:op≠.In)(a:op≠.NotIn):wl op b=false:=by
 have d:(op==CmpOp.In)=false:=by cases op<;>first|rfl|exact absurd rfl h
 have c:(op==CmpOp.NotIn)=false:=by cases op<;>first|rfl|exact absurd rfl a
 cases b<;>simp[wl,d,c]
noncomputable def tB(t:TE):TT:=λU H Q=>t U H λx H1=>∃c,x=.bl c/\Q c H1
def c3B{t:TE}(h:PC X op a b t)(d:wl op b=false:=by first|exact a9u _ (by decide) (by decide)|rfl):PE X (.Compare a [op] [b] pos) t:=λB s U H Q I c=>wpAny_Compare1 (h B s U H Q I c) d
def c3s{t:TE}(h:PC X op a b t)(e:wl op b=false:=by first|exact a9u _ (by decide) (by decide)|rfl):PT X (.Compare a [op] [b] pos) (tB t):=by intro B s U H Q I i;refine wpAny_isTrue_Compare1 (thn (h B s U H _ I i) ?_) e;rintro v w e;refine thn e ?_;rintro u r j;refine thn j ?_;rintro c p⟨x,o,k,f,g⟩;let⟨d,rfl,q⟩:=g;cases f;exact wp #[o,k,q]
variable{tA tB':TT}{rest:T0n}
noncomputable def c7p(t u:TT):TT:=λU H Q=>t U H λc H1=>if c=Qc then u U H1 Q else Q Qd H1
noncomputable def tOr(t u:TT):TT:=λU H Q=>t U H λc H1=>if c=Qc then Q Qc H1 else u U H1 Q
noncomputable def c7i(t:TT):TT:=λU H Q=>t U H λc H1=>Q (!c) H1
def b9F(b:PT X a tA):PW X (.BoolOp .And [a] pos) tA:=by intro d B s U H Q I h;refine isTrue_and (thn (b B s U H Q I h) λc f e=>?_);cases c with|true=>exact isTrue_and_nil e|false=>exact e
def c3m(b:PT X a tA):PW X (.BoolOp .Or [a] pos) tA:=by intro d B s U H Q I h;refine isTrue_or (thn (b B s U H Q I h) λc f e=>?_);cases c with|false=>exact isTrue_or_nil e|true=>exact e
def c3n(k:PT X a tA)(j:PW X (.BoolOp .And (b::rest) pos) tB'):PW X (.BoolOp .And (a::b::rest) pos) (c7p tA tB'):=by intro g B s U H Q I h;refine isTrue_and<|thn (k B s U H _ I h) ?_;rintro c i⟨f,e,d⟩;cases c with|true=>exact j g B i U f Q e d|false=>exact#[f,e,d]
def c5W(k:PT X a tA)(j:PW X (.BoolOp .Or (b::rest) pos) tB'):PW X (.BoolOp .Or (a::b::rest) pos) (tOr tA tB'):=by intro g B s U H Q I h;refine isTrue_or<|thn (k B s U H _ I h) ?_;rintro c i⟨f,e,d⟩;cases c with|true=>exact#[f,e,d]|false=>exact j g B i U f Q e d
def c3r(b:PT X a tA):PT X (.UnaryOp .Not a pos) (c7i tA):=λB s U H Q I h=>isTrue_not<|b B s U H (λc d=>Q (!c) d) I h
noncomputable def c5I(ta tb:TE):TE:=λU H Q=>ta U H λx H1=>∃c,x=.bl c/\if c=Qc then tb U H1 Q else Q (.bl Qd) H1
noncomputable def c5D(ta:TE):TE:=λU H Q=>ta U H λx H1=>∃c,x=.bl c/\Q (.bl<|!c) H1
def c3x{b:_}{t:TE}(h:PE X a t):PE X (.BoolOp b [a] pos) t:=λB s U H Q I c=>BoolOp_one<|h B s U H Q I c
def c3C(k:PE X a ta)(j:PE X (.BoolOp .And (b::rest) pos) tb):PE X (.BoolOp .And (a::b::rest) pos) (c5I ta tb):=by intro B s U H Q I h;refine BoolOp_and<|thn (k B s U H _ I h) ?_;rintro v g⟨x,f,e,i,d⟩;let⟨c,rfl,d⟩:=d;cases i;refine wp ?_;cases c with|true=>exact j B g U f Q e d|false=>exact#[.bl Qd,f,e,rfl,d]
def c3y(e:PE X a ta):PE X (.UnaryOp .Not a pos) (c5D ta):=by intro B s U H Q I h;refine UnaryOp_<|thn (e B s U H _ I h) ?_;rintro v i⟨x,g,f,d,b⟩;let⟨c,rfl,b⟩:=b;cases d;exact not_of<|wp #[.bl<|!c,g,f,rfl,b]
noncomputable def tIf(t:TT)(ta tb:TE):TE:=λU H Q=>t U H λc H1=>if c=Qc then ta U H1 Q else tb U H1 Q
def b6y(j:PT X c tA)(o:PE X a ta)(k:PE X b tb):PE X (.IfExp c a b pos) (tIf tA ta tb):=by intro B s U H Q I h;refine wpAny_IfExp<|thn (j B s U H _ I h) ?_;rintro d e⟨i,g,f⟩;cases d with|true=>exact o B e U i Q g f|false=>exact k B e U i Q g f
end
def SqL(K:qB)(H:Hp)(a:Addr)(Y:List V):Prop:=Rd H a (.lst Y)\/∃o its n,K.lookup a=Qa o/\o.cls=.type "list"/\o.dict=Qb/\o.data=.seq its n/\its.size<=j5/\bJ Y its.toList
def SqT(K:qB)(H:Hp)(a:Addr)(Y:List V):Prop:=Rd H a (.tup Y)\/∃o its n,K.lookup a=Qa o/\o.cls=.type "tuple"/\o.data=.seq its n/\its.size<=j5/\bJ Y its.toList
noncomputable def c8f:Value->Option V|.none=>Qa .non|.bool b=>Qa (.bl b)|.int i _=>Qa (.int i)|.str x _=>Qa (.str x)|.bytes b _=>Qa (.byt b)|.float b _=>Qa (.flt b)|.ref a=>Qa (.ref a)|.type n=>Qa (.ty n)|_=>Qb
def RelV.abs{x:V}(r:RelV x u):c8f u=Qa x:=by cases x with|non=>cases r;rfl|bl _=>cases r;rfl|int _=>let⟨t,rfl⟩:=r;rfl|str _=>let⟨t,rfl⟩:=r;rfl|byt _=>let⟨t,rfl⟩:=r;rfl|flt _=>let⟨t,rfl⟩:=r;rfl|ref _=>cases r;rfl|ty _=>cases r;rfl
variable{y:V}
def RelV.inj{x:V}(r:RelV x u)(q:RelV y u):x=y:=qA<|r.abs.symm.trans q.abs
theorem bJ.inj:∀{Y ys:List V}{us:T0m},bJ Y us->bJ ys us->Y=ys|_,_,_,.nil,.nil=>rfl|_,_,_,.cons r t,.cons r' t'=>by rw[r.inj r',bJ.inj t t']
variable{Y:List V}
section
variable{ys:List V}
def SqL.of{K:qB}(h:H a=Qa (.lst Y)):SqL K H a Y:=.inl<|.inl h
def SqT.of{K:qB}(h:H a=Qa (.tup Y)):SqT K H a Y:=.inl<|.inl h
def Inv.list(I:Inv X B U H s)(h:SqL X.K H a Y):∃its:List Value,bJ Y its/\PlainL s.heap a its.toArray/\Y.length<=j5:=by
 obtain h|⟨o,its,n,c,f,d,b,g,r⟩:=h;.let⟨z,its,n,r,e⟩:=h.ok I.hok;exact#[its,r,#[_,n,e,rfl,rfl,rfl],z]
 .refine#[its.toList,r,#[o,n,I.kIn a o c,f,d,by simpa using b],?_];have e:=r.length;simp only[qa]at e;lia
def Inv.tuple(I:Inv X B U H s)(h:SqT X.K H a Y):∃its:List Value,bJ Y its/\IsTup s.heap a its.toArray/\Y.length<=j5:=by
 obtain h|⟨o,its,n,c,d,b,f,r⟩:=h;.let⟨z,its,r,p⟩:=h.ok I.hok;exact#[its,r,p,z]
 .refine#[its.toList,r,#[o,I.kIn a o c,d,n,by simpa using b],?_];have e:=r.length;simp only[qa]at e;lia
def Inv.list_inj(I:Inv X B U H s)(h:SqL X.K H a Y)(h':SqL X.K H a ys):Y=ys:=by
 let⟨c,r,⟨o,n,e,_,_,d⟩,_⟩:=I.list h;let⟨b,i,⟨j,k,f,_,_,g⟩,_⟩:=I.list h';rw[e]at f;cases f;rw[d]at g;injection g with d1 _;have:c=b:=by simpa using congrArg wO d1
 subst this;exact r.inj i
def Inv.tuple_inj(I:Inv X B U H s)(h:SqT X.K H a Y)(h':SqT X.K H a ys):Y=ys:=by
 let⟨c,r,⟨o,e,_,n,d⟩,_⟩:=I.tuple h;let⟨b,i,⟨j,f,_,k,g⟩,_⟩:=I.tuple h';rw[e]at f;cases f;rw[d]at g;injection g with d1 _;have:c=b:=by simpa using congrArg wO d1
 subst this;exact r.inj i
end
noncomputable abbrev Cx.wish(X:Cx)(E:T0a):Cx:={X with xe:=E}
abbrev Cx.nox(X:Cx):Cx:=X.wish λ_ _=>False
theorem Cx.Ok.wish{X:Cx}(ok:X.Ok) E:(X.wish E).Ok:=#[ok.mod,ok.kind,ok.glob,ok.blt,ok.above,ok.inj,ok.has,ok.cab,ok.hd,ok.frames,ok.stk,ok.exf,ok.bs,ok.bsz,ok.noex,ok.exfs,ok.funs,ok.frf]
def Cx.Ok.unwish(ok:(X.wish E).Ok):X.Ok:=#[ok.mod,ok.kind,ok.glob,ok.blt,ok.above,ok.inj,ok.has,ok.cab,ok.hd,ok.frames,ok.stk,ok.exf,ok.bs,ok.bsz,ok.noex,ok.exfs,ok.funs,ok.frf]
theorem Inv.wish(I:Inv X B U H s) E:Inv (X.wish E) B U H s:=#[I.ok.wish E,I.os,I.bare,I.base,I.loc,I.cell,I.free,I.freeC,I.pin,I.hok,I.len]
theorem Inv.unwish(I:Inv (X.wish E) B U H s):Inv X B U H s:=#[I.ok.unwish,I.os,I.bare,I.base,I.loc,I.cell,I.free,I.freeC,I.pin,I.hok,I.len]
theorem SP.unwish{f:Flow}{c:Shared}(h:SP (X.wish E) B D f c):SP X B D f c:=by cases f with|next=>let⟨a,b,I,q⟩:=h;exact#[a,b,I.unwish,q]|brk=>let⟨a,b,I,q⟩:=h;exact#[a,b,I.unwish,q]|cont=>let⟨a,b,I,q⟩:=h;exact#[a,b,I.unwish,q]|ret u=>let⟨v,a,b,I,r,q⟩:=h;exact#[v,a,b,I.unwish,r,q]
theorem PSs.nox{st:List Stmt}{t:TS}(h:PSs X.nox st t):PSs X st t:=λB s U H D I a=>v0 (h B s U H D (I.wish _) a) (λ_ _ q=>q.unwish) λ_ _ z=>qy z
variable{te:TE}
section
variable{rest:List Stmt}{t u:TS}
noncomputable def c5E:TS:=λD U H=>D.nx U H
noncomputable def c7f(t u:TS):TS:=λD U H=>t {D with nx:=u D} U H
def b2C:PSs X [] c5E:=λ_ _ U H _ I h=>wpAny_execs_nil #[U,H,I,h]
def sC(d:PS X st t)(c:PSs X rest u):PSs X (st::rest) (c7f t u):=by intro B s U H D I h;refine wg (thn (d B s U H {D with nx:=u D} I h) λf b q=>?_);cases f with|next=>let⟨a,g,e,q⟩:=q;exact c B b a g D e q|ret v=>exact q|brk=>exact q|cont=>exact q
def a3g(a:PS X st t):PSs X [st] t:=by intro B s U H D I h;refine wg (thn (a B s U H D I h) λf b q=>?_);cases f with|next=>exact wpAny_execs_nil q|ret v=>exact q|brk=>exact q|cont=>exact q
def Inv.quiet(I:Inv X B U H s):interactive X.env=false:=by simp[interactive,I.ok.kind]
noncomputable def c5F(te:TE):TS:=λD U H=>te U H λ_ H1=>D.nx U H1
def xW(c:PE X e te)(b:wa e Qb pos.line X.env=pure false:=by rfl):PS X (.Expr e pos) (c5F te):=λB s U H D I h=>wpAny_Expr_any (thn (c B s U H _ I h)<|by rintro v g⟨x,f,d,i,a⟩;exact#[U,f,d,a]) I.quiet b
noncomputable def c7g(te:TE):TS:=λD U H=>te U H D.rt
def b0U(c:PE X e te):PS X (.Return (Qa e) pos) (c7g te):=λB s U H D I h=>uo<|thn (c B s U H _ I h) (by rintro v g⟨x,f,d,a,b⟩;exact#[x,U,f,d,a,b])
noncomputable def c7k(c:TT)(t u:TS):TS:=λD U H=>c U H λb H1=>if b=Qc then t D U H1 else u D U H1
def c2i{a b:List Stmt}{tc:TT}(j:PT X c tc)(o:PSs X a t)(k:PSs X b u):PS X (.If c a b pos) (c7k tc t u):=by intro B s U H D I h;refine wpAny_If<|thn (j B s U H _ I h) ?_;rintro d e⟨i,g,f⟩;cases d with|true=>exact o B e U i D g f|false=>exact k B e U i D g f
end
abbrev TG:=V->St->Hp->(St->Hp->Prop)->Prop
abbrev TGs:=List V->St->Hp->(St->Hp->Prop)->Prop
def PG(X:Cx)(target:Expr)(t:TG):Prop:=∀ B s(U:St) H v u(Q:St->Hp->Prop),Inv X B U H s->RelV v u->t v U H Q->wpAny (model X.prog X.w) X.A (assign target X.env u) (λ_ s'=>∃σ' H',Inv X B σ' H' s'/\Q σ' H') X.xe s
def PGs(X:Cx)(ts:T0n)(t:TGs):Prop:=∀ B s(U:St) H(vs:List V)(us:T0m)(Q:St->Hp->Prop),Inv X B U H s->bJ vs us->t vs U H Q->wpAny (model X.prog X.w) X.A (assignInOrder ((wq ts X.env).map (·.2)) us) (λ_ s'=>∃σ' H',Inv X B σ' H' s'/\Q σ' H') X.xe s
noncomputable def b7J(i:Nat):TG:=λv U H Q=>Q (U.set i<|Qa v) H
def b9S{x:Str}(b:X.N.Nodup)(hi:X.N[i]?=Qa x)(hx:Loc X.env.scope x)(a:U7 X x:=by first|exact .inl rfl|exact .inr rfl|assumption):PG X (.Name x pos) (b7J i):=λB s U H v u Q I r h=>wpAny_assign_Name<|uS I b hi hx r (λd c=>#[_,H,c,h]) a
noncomputable def c8b:TGs:=λvs U H Q=>vs=[]/\Q U H
noncomputable def c6A(t:TG)(u:TGs):TGs:=λvs U H Q=>∃v r,vs=v::r/\t v U H λσ' H'=>u r σ' H' Q
def b9Q:PGs X [] c8b:=by rintro B s U H a b Q I r⟨e,h⟩;subst e;cases r;exact assignInOrder_nil #[U,H,I,h]
def b6u{e:Expr}{t:TG}{u:TGs}(i:PG X e t)(g:PGs X es u)(f:(wq (e::es) X.env).map (·.2)=assign e X.env::(wq es X.env).map (·.2):=by rfl):PGs X (e::es) (c6A t u):=by rintro B s U H p w Q I r⟨v,q,j,h⟩;subst j;cases r with|cons r c=>rw[f];exact ui<|thn (i B s U H _ _ _ I r h) (by rintro _ b⟨a,o,k,d⟩;exact g B b a o _ _ Q k c d)
noncomputable def c8a(K:qB)(n:Nat)(t:TGs):TG:=λv U H Q=>∃a Y,v=.ref a/\SqT K H a Y/\Y.length=n/\t Y U H Q
def c3u{t:TGs}{n:Nat}(y:X.calm=Qc)(h:PGs X es t)(q:(wq es X.env).length=n:=by rfl)(c:(wq es X.env).findIdx? (·.1)=none:=by rfl):PG X (.Tuple es k pos) (c8a X.K n t):=by rintro B s U H v u Q I r⟨a,Y,z,p,w,i⟩;subst z;cases r;let⟨f,d,j,C⟩:=I.tuple p;refine assign_Tuple_tuple (I.ok.hd y) j (by simp[q,<-w,d.length]) c λD g=>?_;have A:=I.kept (t':=s.toks) λb o e=>g b o (qd<|qQ e) e;exact h B _ U H Y _ Q A (by simpa using d) i
noncomputable def c5H(te:TE)(g:TG):TS:=λD U H=>te U H λx H1=>g x U H1 D.nx
def a4b{x:Str}(g:X.N.Nodup)(hi:X.N[i]?=Qa x)(hx:Loc X.env.scope x)(f:PE X e te)(c:wa e (Qa<|.Name x pos') pos.line X.env=pure false:=by rfl)(d:U7 X x:=by first|exact .inl rfl|exact .inr rfl|assumption):PS X (.Assign [.Name x pos'] e pos) (c5H te<|b7J i):=by intro B s U H D I h;exact wpAny_Assign_Name (thn (f B s U H _ I h)<|by rintro v q⟨y,o,k,a,b⟩;exact uS k g hi hx a (λp j=>#[_,o,j,b]) d) c
noncomputable def c7h(i j:Nat)(ta:TA):TS:=λD U H=>ta U H λvs H1=>∃v w,vs=[v,w]/\D.nx ((U.set i<|Qa v).set j<|Qa w) H1
def b6n{x y:Str}{a b:Expr}{A:TA}{pt:Pos}{t k2 c:_}(S:X.calm=Qc)(E:X.N.Nodup)(hi:X.N[i]?=Qa x)(R:X.N[j]?=Qa y)(z:i≠j)(hx:X.env.scope.names.lookup x=Qa .local)(C:X.env.scope.names.lookup y=Qa .local)(T:PA X [a,b] A)(P:swappedStores [.Tuple [.Name x px,.Name y py] t pt] (.Tuple [a,b] k2 c) X.env=pure (Qa [x,y]))(Q:swapsWithSole [.Tuple [.Name x px,.Name y py] t pt] (.Tuple [a,b] k2 c) pos.line X.env=pure false:=by rfl):PS X (.Assign [.Tuple [.Name x px,.Name y py] t pt] (.Tuple [a,b] k2 c) pos) (c7h i j A):=by
 intro B s U H D I h;rw[exec_Assign_arm];refine j0<|yd ?_;rw[Q];refine j0<|j3 ?_;rw[if_neg<|by decide];refine j0<|Tuple_<|thn (T _ B s U H _ I h) ?_;rintro J g⟨vs,G,I1,L,r⟩;let⟨v,w,e1,r⟩:=r;subst e1;obtain⟨f,d,rfl,K,k⟩:∃f d,J=[f,d]/\RelV v f/\RelV w d:=by cases L with|cons p q=>cases q with|cons N M=>cases M;exact#[_,_,rfl,p,N]
 refine v5 ?_ (by show 2<=j5;decide);have I2:Inv X B U G {g with heap:=g.heap.push {cls:=.type "tuple",data:=.seq [f,d].toArray}}:=I1.kept (t':=g.toks) λb o e=>qC _ e;rw[P];refine j0<|j3 ?_;refine j0<|yk<|j0 (unpackItems_tuple (items:=(List.toArray [f,d])) (I.ok.hd S) (IsTup.new g.heap _) λh' u=>?_);have I3:=I2.kept (h':=h') (t':=g.toks) λb o e=>u b o (qd<|qQ e) e;refine j0<|ui<|wpAny_bindName<|uS I3 E R (.inl C) k (λs2 I4=>?_)<|.inr C;refine ui<|wpAny_bindName<|uS I4 E hi (.inl hx) K (λs3 F=>assignInOrder_nil<|j3 ?_)<|.inr hx;rw[List.set_comm _ _<|jL z]at F;exact#[_,G,F,r]
structure It where
 go:Nat->Hp->Prop
 yld:Nat->Hp->V->Hp->Prop
 stop:Nat->Hp->Prop
def a2w(X:Cx)(B:T0b)(H:Hp)(b:Addr):Prop:=H b=Qb/\b≠X.env.locals/\b∉X.fs/\(b∈X.ex\/X.s₀.heap.objs.size<=b)/\(∀x c,X.env.cells.lookup x=Qa c->c≠b)/\∀p∈X.pn++B,p.1≠b
def Inv.fpOk(I:Inv X B U H s)(a:s.heap.objs.size<=b)(f:H' b=Qb):a2w X B H' b:=by
 refine#[f,kc<|qX I.lt a,I.nofs a,.inr<|qk I.sz a,λx c e z=>?_,λp d z=>?_];.let⟨v,q⟩:=I.cell x c e;exact absurd (qX q.lt<|by rwa[z]) (jl _)
 .exact absurd (qX (qQ (I.pin p d).1)<|by rwa[z])<|jl _
structure Turn(P:Program)(w:World)(K:qB)(tg:Expr)(J:It)(fp:T0o)(it:Addr)(tn:Nat->Heap->Prop):Prop where
 mem:it∈fp
 obj:∀i h,tn i h->∀b∈fp,∃o,h.get? b=Qa o/\∀v,o.data≠.cell v
 keep:∀i h h',tn i h->(∀b∈fp,∀o,h.get? b=Qa o->h'.get? b=Qa o)->tn i h'
 item:∀(X:Cx),X.prog=P->X.w=w->X.K=K->X.calm=Qc->∀ i B s(U:St) H(E:T0a),Inv X B U H s->(∀b∈fp,a2w X B H b)->tn i s.heap->J.go i H->wpAny (model P w) X.A (yz (.ref it)) (λr s1=>∃u,r=Qa u/\wpAny (model P w) X.A (letOwnedTupleGo tg (.ref it) u) (λ_ s2=>∃x H',Inv X B U H' s2/\RelV x u/\J.yld i H x H'/\tn (i+1) s2.heap/\∀b∈fp,H' b=Qb) E s1) E s
 done:∀ X,X.prog=P->X.w=w->X.K=K->X.calm=Qc->∀ i B s(U:St) H(E:T0a),Inv X B U H s->(∀b∈fp,a2w X B H b)->tn i s.heap->J.stop i H->wpAny (model P w) X.A (yz (.ref it)) (λr s1=>r=Qb/\Inv X B U H s1) E s
 self:∀ A i s(Q:T0a)(E:T0a),tn i s.heap->Q (.ref it) s->wpAny (model P w) A (QA (.ref it)) Q E s
abbrev TI:=St->Hp->(It->Hp->Prop)->Prop
def PIE(X:Cx)(B:T0b)(U:St)(tg:Expr)(R:It->Hp->Prop)(itv:Value)(s2:Shared):Prop:=∃it fp tn J H',itv=.ref it/\Inv X B U H' s2/\Turn X.prog X.w X.K tg J fp it tn/\tn 0 s2.heap/\(∀b∈fp,a2w X B H' b)/\R J H'
def PI(X:Cx)(tg iter:Expr)(wi:TI):Prop:=∀ B s(U:St) H R,Inv X B U H s->wi U H R->wpAny (model X.prog X.w) X.A (eval iter X.env) (λv s1=>wpAny (model X.prog X.w) X.A (QA v) (PIE X B U tg R) X.xe s1) X.xe s
def b7D{o:Obj}{n:String}{vs:Array Value}{Q:Unit->Shared->Prop}(b:s.heap.get? it=Qa o)(e:o.cls=.type n)(d:o.data=.fields vs)(c:["enumerate","zip","dict_itemiterator","dict_reverseitemiterator","odict_iterator","itertools.zip_longest","itertools.pairwise"].contains n=Qd)(a:Q () s):wpAny M A (letOwnedTupleGo tg (.ref it) u) Q E s:=by cases tg<;>first|exact j3 a|(cases u<;>first|exact j3 a|(refine j0<|wpAny_load b ?_;rw[e,d];show wpAny M A (if(["enumerate","zip","dict_itemiterator","dict_reverseitemiterator","odict_iterator","itertools.zip_longest","itertools.pairwise"].contains n&&vs[0]?==Qa (v7 _))=Qc then _ else _) Q E s;rw[if_neg<|by intro h;rw[c,Bool.false_and]at h;cases h];exact j3 a))
noncomputable def Itl(K:qB)(a:Addr):It:=#[λi H=>∃Y x,SqL K H a Y/\Y[i]?=Qa x,λi H x H'=>H'=H/\∀Y,SqL K H a Y->Y[i]?=Qa x,λi H=>∃Y,SqL K H a Y/\Y.length<=i]
noncomputable def Itt(K:qB)(a:Addr):It:=#[λi H=>∃Y x,SqT K H a Y/\Y[i]?=Qa x,λi H x H'=>H'=H/\∀Y,SqT K H a Y->Y[i]?=Qa x,λi H=>∃Y,SqT K H a Y/\Y.length<=i]
noncomputable def Itr(lo:Int)(n:Nat):It:=#[λi _=>i<n,λi H x H'=>H'=H/\x=.int (lo+i),λi _=>n<=i]
def b3E{K:qB} a it:Turn P w K tg (Itl K a) [it] it (λi h=>h.IsListIter it a i)where
 mem:=by simp
 obj:=λi h f b g=>by
  have e:b=it:=by simpa using g
  subst e;let⟨o,e,c,d⟩:=f;exact#[o,e,λv z=>by rw[d]at z;cases z]
 keep:=λi h G f k=>f.at λo e=>k it (by simp) o e;item:=by intro X D A F S i B s U H E I r f C;subst D A F;let⟨Y,x,q,R⟩:=C;let⟨y,t,p,hz⟩:=I.list q;let⟨u,hu,ru⟩:=t.get R;let⟨Q,N,f2,M,L,J⟩:=r it (by simp);refine wpAny_pyNext_list_item f p.isList (x:=u) (by simpa using hu) λG j T=>?_;have I1:=I.turned (t':=s.toks) (λb o g e=>(T.2 b g).trans e) Q N M L J;let⟨o,e,c,d⟩:=id j;exact#[u,rfl,b7D (s:={s with heap:=G}) e c d (by decide) #[x,H,I1,ru,#[rfl,λys hy=>by rwa[I.list_inj hy q]],j,λb g=>(r b g).1]]
 done:=by intro X D A F S i B s U H E I r f C;subst D A F;let⟨Y,q,R⟩:=C;let⟨y,t,p,hz⟩:=I.list q;let⟨Q,N,f2,M,L,J⟩:=r it (by simp);have hl:=t.length;exact wpAny_pyNext_list_end (I.ok.hd S) f p.isList (by simp;lia) λG eb=>#[rfl,I.turned (t':=s.toks) (λb o g e=>eb b o g e) Q N M L J]
 self:=λ_ _ _ _ _ f h=>wpAny_pyIter_listiter f h
def b0y{K:qB} a it:Turn P w K tg (Itt K a) [it] it (λi h=>h.IsTupleIter it a i)where
 mem:=by simp
 obj:=λi h f b j=>by
  have e:b=it:=by simpa using j
  subst e;let⟨o,e,c,d⟩:=f;exact#[o,e,λv z=>by rw[d]at z;cases z]
 keep:=λi h G f k=>f.at λo e=>k it (by simp) o e;item:=by intro X D A F S i B s U H E I t f C;subst D A F;let⟨Y,x,r,R⟩:=C;let⟨g,y,p,hz⟩:=I.tuple r;let⟨u,hu,ru⟩:=y.get R;let⟨Q,N,f2,M,L,J⟩:=t it (by simp);refine wpAny_pyNext_tuple_item f (show s.heap.IsTuple a g.toArray from p) (x:=u) (by simpa using hu) λG q T=>?_;have I1:=I.turned (t':=s.toks) (λb o j e=>(T.2 b j).trans e) Q N M L J;let⟨o,e,c,d⟩:=id q;exact#[u,rfl,b7D (s:={s with heap:=G}) e c d (by decide) #[x,H,I1,ru,#[rfl,λys hy=>by rwa[I.tuple_inj hy r]],q,λb j=>(t b j).1]]
 done:=by intro X D A F S i B s U H E I t f C;subst D A F;let⟨Y,r,R⟩:=C;let⟨g,y,p,hz⟩:=I.tuple r;let⟨Q,N,f2,M,L,J⟩:=t it (by simp);have hl:=y.length;exact wpAny_pyNext_tuple_end (I.ok.hd S) f (show s.heap.IsTuple a g.toArray from p) (by simp;lia) λG eb=>#[rfl,I.turned (t':=s.toks) (λb o j e=>eb b o j e) Q N M L J]
 self:=λ_ _ _ _ _ f h=>wpAny_pyIter_tupleiter f h
def b0z{K:qB} it lo n:Turn P w K tg (Itr lo n) [it] it (λi h=>IsRangeIter h it (lo+(i:Nat)*1) ((n:Int)-(i:Nat)) 1)where
 mem:=by simp
 obj:=λi h a b c=>by
  have e:b=it:=by simpa using c
  subst e;exact#[_,a,λv z=>by have J:=z;cases J]
 keep:=λi h g a k=>k it (by simp) _ a;item:=by intro X r j u q i B s U H E I f a p;subst r j u;let⟨F,D,N,C,A,y⟩:=f it (by simp);have W:=Walks.range (prog:=X.prog) (w:=X.w) (I.ok.hd q) it lo 1 n;refine W.item i s _ _ p a λv g G M d L=>?_;let⟨t,rfl⟩:=M;have R:Inv X B U H {s with heap:=g,toks:=G}:=I.turned (λb o c e=>L b o (by simpa using c) e) F D C A y;refine#[_,rfl,b7D (s:={s with heap:=g,toks:=G}) (n:="range_iterator") d rfl rfl (by decide) #[.int<|lo+i,H,R,#[t,?_],#[rfl,rfl],d,λb c=>(f b c).1]];rw[Int.mul_one]
 done:=by intro X r j u q i B s U H E I f a p;subst r j u;let⟨F,D,N,C,A,y⟩:=f it (by simp);exact wpAny_pyNext_range_end (I.ok.hd q) a (by have:n<=i:=p;lia) λg Q=>#[rfl,I.turned (t':=s.toks) (λb o c e=>Q b o c e) F D C A y]
 self:=λ_ _ _ _ _ a h=>wpAny_pyIter_rangeiter a h
variable{tl:TE}
def c6v(K:qB)(tl:TE):TI:=λU H R=>tl U H λx H1=>∃a,x=.ref a/\(∃Y,SqL K H1 a Y)/\R (Itl K a) H1
def c7Z(K:qB)(tl:TE):TI:=λU H R=>tl U H λx H1=>∃a,x=.ref a/\(∃Y,SqT K H1 a Y)/\R (Itt K a) H1
def a7x{l:Expr}(k:PE X l tl):PI X tg l (c6v X.K tl):=by
 intro B s U H R I h;refine thn (k B s U H _ I h) ?_;rintro v c⟨x,t,d,f,g⟩;let⟨a,e,⟨Y,j⟩,q⟩:=g;subst e;cases f;let⟨i,u,p,w⟩:=d.list j;refine yu p.isList ?_;refine#[c.heap.objs.size,[c.heap.objs.size],_,_,t,rfl,d.kept (t':=c.toks) λb o e=>qC _ e,b3E a _,#[_,qP _ rfl,rfl,rfl],λb r=>?_,q];have e:b=c.heap.objs.size:=by simpa using r
 subst e;exact d.fpOk (qM _)<|d.hok.fresh<|qM _
def c3t{l:Expr}(k:PE X l tl):PI X tg l (c7Z X.K tl):=by
 intro B s U H R I h;refine thn (k B s U H _ I h) ?_;rintro v c⟨x,t,d,g,i⟩;let⟨a,e,⟨Y,j⟩,q⟩:=i;subst e;cases g;let⟨f,u,p,w⟩:=d.tuple j;refine wpAny_pyIter_tuple (show c.heap.IsTuple a f.toArray from p) ?_;refine#[c.heap.objs.size,[c.heap.objs.size],_,_,t,rfl,d.kept (t':=c.toks) λb o e=>qC _ e,b0y a _,#[_,qP _ rfl,rfl,rfl],λb r=>?_,q];have e:b=c.heap.objs.size:=by simpa using r
 subst e;exact d.fpOk (qM _)<|d.hok.fresh<|qM _
def b6h{R:It->Hp->Prop}{lo hi:Int}{t u v:Tok}(I:Inv X B U H s)(i:-(2^62)<=lo)(g:lo<2^62)(f:-(2^62)<=hi)(d:hi<2^62)(q:R (Itr lo (hi-lo).toNat) H):wpAny (model X.prog X.w) X.A (QA<|.ref s.heap.objs.size) (PIE X B U tg R) E {s with heap:=s.heap.push {cls:=.type "range",data:=.fields<|List.toArray [.int lo t,.int hi u,.int 1 v]},toks:=tk}:=by
 refine wpAny_pyIter_range (IsRange.new ..) (small_one i g f d) ?_;have a:Inv X B U H {s with heap:=s.heap.push {cls:=.type "range",data:=.fields<|List.toArray [.int lo t,.int hi u,.int 1 v]},toks:=tk}:=I.kept λb o e=>qC _ e;refine#[(s.heap.push {cls:=.type "range",data:=.fields<|List.toArray [.int lo t,.int hi u,.int 1 v]}).objs.size,[(s.heap.push {cls:=.type "range",data:=.fields<|List.toArray [.int lo t,.int hi u,.int 1 v]}).objs.size],_,_,H,rfl,a.kept (t':=tk) λb o e=>qC _ e,b0z _ lo (hi-lo).toNat,?_,λb c=>?_,q]
 .have k:lo+((0:Nat):Int)*1=lo:=by simp
  have j:(((hi-lo).toNat:Nat):Int)-((0:Nat):Int)=Builtin.Range.rangeSize lo hi 1:=by rw[rangeSize_one];split<;>lia
  rw[k,j];exact qP _ rfl
 .have e:b=(s.heap.push {cls:=.type "range",data:=.fields<|List.toArray [.int lo t,.int hi u,.int 1 v]}).objs.size:=by simpa using c
  subst e;exact a.fpOk (qM _)<|a.hok.fresh<|qM _
def c6u(ta:TA):TI:=λU H R=>ta U H λvs H1=>∃j:Int,vs=[.int j]/\-(2^62)<=j/\j<2^62/\R (Itr 0 j.toNat) H1
def b4j{a:Expr}{c:TA}(o:Gl X "range")(k:X.mg "range"=Qb)(u:PA X [a] c)(i:j4 [a] X.env=[(Qd,eval a X.env)]:=by rfl):PI X tg (.Call (.Name "range" p) [a] [] pos) (c6u c):=by intro B s U H R I h;refine Call_<|a1T I o k boot_range<|PyProof.Rows.callWith_type1 (thn (u pos B s U H _ I h) ?_) i rfl;rintro y z⟨w,A,v,f,b⟩;let⟨j,e,b,g,q⟩:=b;subst e;cases f with|cons r d=>cases d;let⟨t,rfl⟩:=r;exact call_range_1<|b6h v (by lia) (by lia) b g (by simpa using q)
def c7m(wi:TI)(g:TG)(tb:TS):TS:=λD U H=>wi U H λJ H1=>∃W:Nat->Nat->St->Hp->Prop,(∃m,W 0 m U H1)/\∀i m U H,W i m U H->(J.stop i H/\D.nx U H)\/(J.go i H/\∃N:St->Hp->Prop,(∀σ' H',N σ' H'->∃m',m'<m/\W (i+1) m' σ' H')/\∀x H',J.yld i H x H'->g x U H' λσ2 H2=>tb {D with nx:=N,ct:=N,bk:=D.nx} σ2 H2)
noncomputable def a4d(fp:T0o)(h:Heap):List (Addr×Obj):=fp.filterMap λb=>(h.get? b).map λo=>(b,o)
def tI{h:Heap}{o:Obj}(a:b∈fp)(e:h.get? b=Qa o):(b,o)∈a4d fp h:=wA.mpr #[b,a,by rw[e];rfl]
def b4m{h:Heap}{p:Addr×Obj}(a:p∈a4d fp h):p.1∈fp/\h.get? p.1=Qa p.2:=by let⟨b,c,e⟩:=wA.mp a;cases q:h.get? b with|none=>rw[q]at e;cases e|some o=>rw[q]at e;have d:=qA e;subst d;exact#[c,q]
def Inv.pinned(I:Inv X B U H s)(i:∀b∈fp,a2w X B H b)(g:∀b∈fp,∃o,s.heap.get? b=Qa o/\∀v,o.data≠.cell v):Inv X (B++a4d fp s.heap) U H s:=I.pins_of λp f=>(qU.mp f).elim (λz=>I.pin p<|qi _ z) λz=>by let⟨a,e⟩:=b4m z;let⟨q,k,j,_⟩:=i p.1 a;let⟨o,c,d⟩:=g p.1 a;rw[e]at c;cases c;exact#[e,q,k,j,d]
def Inv.unpinned{pl:T0b}(I:Inv X (B++pl) U H s):Inv X B U H s:=I.pins_of λp a=>I.pin p<|qi _<|je _ a
def b6o{g:TG}{tb:TS}(K:PassesOwn (model X.prog X.w) X.A X.env X.xe)(hc:X.calm=Qc)(hi:PI X tg iter wi)(hg:PG X tg g)(p:PSs X body tb)(hs:∀x,v6 iter X.env x=pure x:=by intro _;rfl):PS X (.For tg iter body [] pos) (c7m wi g tb):=by
 intro B s U H D I h;refine wpAny_For (thn (hi B s U H _ I h) λv s1 h1=>thn h1 λitv s2 h2=>?_) hs;let⟨it,M,tn,J,H2,e,I2,T,R,f2,W,⟨m0,w0⟩,C⟩:=h2;subst e--what stays Qc of the iterator's objects through the loop
 have k:∀{y:Hp},(∀b∈M,y b=Qb)->∀b∈M,a2w X B y b:=λhn b p=>#[hn b p,(f2 b p).2];refine codeAny_forLoop_any (λn s'=>∃i j y,Inv X B j y s'/\tn i s'.heap/\(∀b∈M,y b=Qb)/\W i n j y) ?_ m0 #[0,U,H2,I2,R,λb p=>(f2 b p).1,w0];rintro n s3⟨i,c,P,I3,F,L,w3⟩;obtain⟨E,qn⟩|⟨go,N,hN,step⟩:=C i n c P w3;.refine yo K<|thn (T.done X rfl rfl rfl hc i B s3 c P X.xe I3 (k L) F E) ?_;rintro r s4⟨hr,I4⟩;subst hr;exact wpAny_execs_nil #[c,P,I4,qn]
 .refine yo K<|thn (T.item X rfl rfl rfl hc i B s3 c P X.xe I3 (k L) F go) ?_;rintro r s4⟨u,hr,h4⟩;subst hr;refine yo K<|thn h4 ?_;rintro _ s5⟨x,H5,I5,r5,y5,A,fr5⟩;have I5':=I5.pinned (k fr5)<|T.obj _ _ A;refine yo K<|thn (hg _ s5 c H5 x u _ I5' r5<|step x H5 y5) ?_;rintro _ s6⟨Q,H6,I6,q6⟩;refine yo K (thn (p _ s6 Q H6 _ I6 q6) λf S z=>?_);have q:∀{a:St}{w:Hp},Inv X (B++a4d M s5.heap) a w S->N a w->∃m,m<n/\∃i j y,Inv X B j y S/\tn i S.heap/\(∀b∈M,y b=Qb)/\W i m j y:=λ{a w}t G=>by let⟨m',hm,w7⟩:=hN a w G;refine#[m',hm,i+1,a,w,t.unpinned,T.keep _ _ _ A λb p o e=>(t.pin (b,o)<|qi _<|qi _<|tI p e).1,λb p=>?_,w7];let⟨o,e,d⟩:=T.obj _ _ A b p;exact(t.pin (b,o)<|qi _<|qi _<|tI p e).2.1
  cases f with|next=>let⟨a,w,t,G⟩:=z;exact q t G|cont=>let⟨a,w,t,G⟩:=z;exact q t G|brk=>let⟨a,w,t,z⟩:=z;exact#[a,w,t.unpinned,z]|ret v=>let⟨x7,a,w,t,r7,z⟩:=z;exact#[x7,a,w,t.unpinned,r7,z]
abbrev R2:=V->V->Hp->VK->Prop
def OpR(X:Cx)(f:Value->Value->Sem Value)(r:R2):Prop:=∀ B s(U:St) H x y v u Q,Inv X B U H s->RelV x v->RelV y u->r x y H Q->wpAny (model X.prog X.w) X.A (f v u) (EP X B U Q) X.xe s
def UnR(X:Cx)(f:Value->Sem Value)(r:V->Hp->VK->Prop):Prop:=∀ B s(U:St) H x v Q,Inv X B U H s->RelV x v->r x H Q->wpAny (model X.prog X.w) X.A (f v) (EP X B U Q) X.xe s
def pC(X:Cx)(f:Value)(r:List V->Hp->VK->Prop):Prop:=∀ B s(U:St) H Y(us:T0m) Q,Inv X B U H s->bJ Y us->r Y H Q->wpAny (model X.prog X.w) X.A (call f us) (EP X B U Q) X.xe s
def c8g(X:Cx)(r:V->Hp->(Bool->Hp->Prop)->Prop):Prop:=∀ B s(U:St) H x v Q,Inv X B U H s->RelV x v->r x H Q->wpAny (model X.prog X.w) X.A (truthy v) (TP X B U Q) X.xe s
noncomputable def tOp(r:R2)(ta tb:TE):TE:=λU H Q=>ta U H λx H1=>tb U H1 λy H2=>r x y H2 Q
noncomputable def tUn(r:V->Hp->VK->Prop)(ta:TE):TE:=λU H Q=>ta U H λx H1=>r x H1 Q
noncomputable def rI(C:Int->Int->Prop)(g:Int->Int->V):R2:=λx y H Q=>∃i j,x=.int i/\y=.int j/\C i j/\Q (g i j) H
noncomputable def rI0(g:Int->Int->V):R2:=λx y H Q=>∃i j,x=.int i/\y=.int j/\Q (g i j) H
def rU(g:Int->V):V->Hp->VK->Prop:=λx H Q=>∃i,x=.int i/\Q (g i) H
variable{tc:TE}{r:R2}{g:Int->Int->Int}
section
variable{a b:Expr}
def c5i(q:PE X a ta)(p:PE X b tb){R:V->V->Hp->Prop}(I:Inv X B U H s)(h:ta U H λx H1=>tb U H1 λy H2=>R x y H2){f:Value->Value->Sem Value}(o:∀v u c x y H2,Inv X B U H2 c->RelV x v->RelV y u->R x y H2->wpAny (model X.prog X.w) X.A (f v u) Q X.xe c):wpAny (model X.prog X.w) X.A (eval a X.env) (λv e=>wpAny (model X.prog X.w) X.A (eval b X.env) (λu d=>wpAny (model X.prog X.w) X.A (f v u) Q X.xe d) X.xe e) X.xe s:=by refine thn (q B s U H _ I h) ?_;rintro v g⟨x,H1,t,i,k⟩;exact thn (p B g U H1 _ t k) (by rintro u c⟨y,H2,r,r2,j⟩;exact o v u c x y H2 r i r2 j)
def b6x{c:Operator}(g:OpR X (wz c) r)(j:PE X a ta)(i:PE X b tb):PE X (.BinOp a c b pos) (tOp r ta tb):=λB s U H Q I h=>wpAny_BinOp (c5i j i I h λv u d x y o k f e q=>g B d U o x y v u Q k f e q)
def c5X{b:UnaryOp}{r:V->Hp->VK->Prop}(f:UnR X (unaryOp b) r)(g:PE X a ta):PE X (.UnaryOp b a pos) (tUn r ta):=λB s U H Q I h=>UnaryOp_<|thn (g B s U H _ I h) (by rintro v c⟨x,j,i,d,e⟩;exact f B c U j x v Q i d e)
def opI{f:Value->Value->Sem Value}{C:Int->Int->Prop}(a:∀ i j t u s(Q:T0a)(E:T0a),C i j->Q (.int (g i j) s.toks) {s with toks:=s.toks+1}->wpAny (model X.prog X.w) X.A (f (.int i t)<|.int j u) Q E s):OpR X f (rI C λi j=>.int<|g i j):=by rintro B s U H x y v u Q I d c⟨i,j,rfl,rfl,e,q⟩;let⟨t,rfl⟩:=d;let⟨b,rfl⟩:=c;exact a i j t b s _ _ e #[.int<|g i j,H,I.tok _,#[_,rfl],q]
def c6d{f:Value->Value->Sem Value}(a:∀ i j t u s(Q:T0a)(E:T0a),Q (.int (g i j) s.toks) {s with toks:=s.toks+1}->wpAny (model X.prog X.w) X.A (f (.int i t)<|.int j u) Q E s):OpR X f (rI0 λi j=>.int<|g i j):=by rintro B s U H x y v u Q I d c⟨i,j,rfl,rfl,q⟩;let⟨t,rfl⟩:=d;let⟨b,rfl⟩:=c;exact a i j t b s _ _ #[.int<|g i j,H,I.tok _,#[_,rfl],q]
def c0i{f:Value->Value->Sem Value}{g:Int->Int->Bool}(a:∀ i j t u s(Q:T0a)(E:T0a),Q (.bool<|g i j) s->wpAny (model X.prog X.w) X.A (f (.int i t)<|.int j u) Q E s):OpR X f (rI0 λi j=>.bl<|g i j):=by rintro B s U H x y v u Q I d c⟨i,j,rfl,rfl,q⟩;let⟨t,rfl⟩:=d;let⟨b,rfl⟩:=c;exact a i j t b s _ _ #[.bl<|g i j,H,I,rfl,q]
def c8m(i j:Int):Prop:=0<j/\j<1073741824
def c5r(i j:Int):Prop:=(-(2^64)<i/\i<2^64)\/(-(2^64)<j/\j<2^64)
def c5r.ok{i j:Int}(h:c5r i j):IntMulOk i j:=by
 obtain⟨b,a⟩|⟨b,a⟩:=h;.exact .of_left (intBits_le_64 b a)
 .exact .of_right<|intBits_le_64 b a
def c3T:OpR X (wz .Add) (rI0 λi j=>.int<|i+j):=c6d λ_ _ _ _ _ _ _ q=>add_int q
def c3K:OpR X (wz .Sub) (rI0 λi j=>.int<|i-j):=c6d λ_ _ _ _ _ _ _ q=>sub_int q
def c3N:OpR X (wz .Mult) (rI c5r λi j=>.int<|i*j):=opI λ_ _ _ _ _ _ _ a q=>mul_int q a.ok
def c0f:OpR X (wz .FloorDiv) (rI c8m λi j=>.int<|i/j):=opI λi j _ _ _ _ _ a q=>by have c:=a.1;have b:=a.2;exact floordiv_int (by lia) (by rwa[Int.fdiv_eq_ediv_of_nonneg i<|by lia])<|.inl<|PyProof.noPylong_small (by omega)
def c3O:OpR X (wz .Mod) (rI (λ_ j=>0<j) λi j=>.int<|i%j):=opI λi j _ _ _ _ _ a q=>by have b:=a;exact mod_int' (by lia) (by rwa[Int.fmod_eq_emod_of_nonneg i<|by lia])
def unI{f:Value->Sem Value}{g:Int->Int}(a:∀ i t s(Q:T0a)(E:T0a),Q (.int (g i) s.toks) {s with toks:=s.toks+1}->wpAny (model X.prog X.w) X.A (f<|.int i t) Q E s):UnR X f (rU λi=>.int<|g i):=by rintro B s U H x v Q I b⟨i,rfl,q⟩;let⟨t,rfl⟩:=b;exact a i t s _ _ #[.int<|g i,H,I.tok _,#[_,rfl],q]
def c2K:UnR X (unaryOp .USub) (rU λi=>.int<|-i):=unI λ_ _ _ _ _ q=>neg_int q
end
noncomputable def c5J:V->V->Bool|.non,.non=>Qc|.non,.int _=>Qc|.int _,.non=>Qc|.non,.bl _=>Qc|.bl _,.non=>Qc|.non,.str _=>Qc|.str _,.non=>Qc|.int _,.int _=>Qc|.bl _,.bl _=>Qc|.str _,.str _=>Qc|.byt _,.byt _=>Qc|.int _,.str _=>Qc|.str _,.int _=>Qc|.bl _,.str _=>Qc|.str _,.bl _=>Qc|_,_=>Qd
def rEq:R2:=λx y H Q=>c5J x y=Qc/\Q (.bl<|decide (x=y)) H
def rNe:R2:=λx y H Q=>c5J x y=Qc/\Q (.bl<|!decide (x=y)) H
def b3p{i j:Int}:decide (V.int i=V.int j)=(i==j):=by rw[kq];simp
def b8y{i j:Bool}:decide (V.bl i=V.bl j)=(i==j):=by rw[kq];simp
def b3o{i j:Str}:decide (V.str i=V.str j)=(i==j):=by rw[kq];simp
def b3q{i j:Array UInt8}:decide (V.byt i=V.byt j)=(i.toList==j.toList):=by rw[kq];cases i;cases j;simp
section
variable{a b:Expr}
def cK{Q:VK}{k a:Bool}(I:Inv X B U H s)(q:Q (.bl k) H)(e:k=a):EP X B U Q (.bool a) s:=by subst e;exact#[.bl k,H,I,rfl,q]
def b6H:OpR X (v9 .Eq) rEq:=by rintro B s U H x y v u Q I d a⟨c,q⟩;cases x with
 |non=>cases d;cases y with|non=>cases a;exact PySem.EqNone.eq_none_none (cK I q<|by simp)|bl j=>cases a;exact PySem.EqNone.eq_none_bool (cK I q<|by simp)|int j=>let⟨b,rfl⟩:=a;exact PySem.EqNone.eq_none_int (cK I q<|by simp)|str j=>let⟨b,rfl⟩:=a;exact PySem.EqNone.eq_none_str (cK I q<|by simp)|_=>exact absurd (show Qd=Qc from c) qg
 |bl i=>cases d;cases y with|non=>cases a;exact PySem.EqNone.eq_bool_none (cK I q<|by simp)|bl j=>cases a;exact eq_bool (cK I q b8y)|str j=>let⟨b,rfl⟩:=a;exact PySem.EqMixed.eq_bool_str (cK I q<|by simp)|_=>exact absurd (show Qd=Qc from c) qg
 |int i=>let⟨t,rfl⟩:=d;cases y with|non=>cases a;exact PySem.EqNone.eq_int_none (cK I q<|by simp)|int j=>let⟨b,rfl⟩:=a;exact eq_int (cK I q b3p)|str j=>let⟨b,rfl⟩:=a;exact PySem.EqMixed.eq_int_str (cK I q<|by simp)|_=>exact absurd (show Qd=Qc from c) qg
 |str i=>let⟨t,rfl⟩:=d;cases y with|non=>cases a;exact PySem.EqNone.eq_str_none (cK I q<|by simp)|bl j=>cases a;exact PySem.EqMixed.eq_str_bool (cK I q<|by simp)|int j=>let⟨b,rfl⟩:=a;exact PySem.EqMixed.eq_str_int (cK I q<|by simp)|str j=>let⟨b,rfl⟩:=a;exact eq_str (cK I q b3o)|_=>exact absurd (show Qd=Qc from c) qg
 |byt i=>let⟨t,rfl⟩:=d;cases y with|byt j=>let⟨b,rfl⟩:=a;exact PySem.W.eq_bytes (cK I q b3q)|_=>exact absurd (show Qd=Qc from c) qg
 |_=>cases y<;>exact absurd (show Qd=Qc from c) qg
def b6G:OpR X (v9 .NotEq) rNe:=by rintro B s U H x y v u Q I d a⟨c,q⟩;cases x with
 |non=>cases d;cases y with|non=>cases a;exact PySem.EqNone.ne_none_none (cK I q<|by rfl)|bl j=>cases a;exact PySem.EqNone.ne_none_bool (cK I q<|by assumption)|int j=>let⟨b,rfl⟩:=a;exact PySem.EqNone.ne_none_int (cK I q<|by assumption)|str j=>let⟨b,rfl⟩:=a;exact PySem.EqNone.ne_none_str (cK I q<|by assumption)|_=>exact absurd (show Qd=Qc from c) qg
 |bl i=>cases d;cases y with|non=>cases a;exact PySem.EqNone.ne_bool_none (cK I q<|by assumption)|bl j=>cases a;exact ne_bool (cK I q<|congrArg not b8y)|str j=>let⟨b,rfl⟩:=a;exact PySem.EqMixed.ne_bool_str (cK I q<|by assumption)|_=>exact absurd (show Qd=Qc from c) qg
 |int i=>let⟨t,rfl⟩:=d;cases y with|non=>cases a;exact PySem.EqNone.ne_int_none (cK I q<|by assumption)|int j=>let⟨b,rfl⟩:=a;exact ne_int (cK I q<|congrArg not b3p)|str j=>let⟨b,rfl⟩:=a;exact PySem.EqMixed.ne_int_str (cK I q<|by assumption)|_=>exact absurd (show Qd=Qc from c) qg
 |str i=>let⟨t,rfl⟩:=d;cases y with|non=>cases a;exact PySem.EqNone.ne_str_none (cK I q<|by assumption)|bl j=>cases a;exact PySem.EqMixed.ne_str_bool (cK I q<|by assumption)|int j=>let⟨b,rfl⟩:=a;exact PySem.EqMixed.ne_str_int (cK I q<|by assumption)|str j=>let⟨b,rfl⟩:=a;exact ne_str (cK I q<|congrArg not b3o)|_=>exact absurd (show Qd=Qc from c) qg
 |byt i=>let⟨t,rfl⟩:=d;cases y with|byt j=>let⟨b,rfl⟩:=a;exact PySem.W.ne_bytes (cK I q<|congrArg not b3q)|_=>exact absurd (show Qd=Qc from c) qg
 |_=>cases y<;>exact absurd (show Qd=Qc from c) qg
def c5Z:OpR X (v9 .Lt) (rI0 λi j=>.bl<|decide (i<j)):=c0i λ_ _ _ _ _ _ _ q=>lt_int q
def c6a:OpR X (v9 .LtE) (rI0 λi j=>.bl<|decide (i<=j)):=c0i λ_ _ _ _ _ _ _ q=>le_int q
def c6b:OpR X (v9 .Gt) (rI0 λi j=>.bl<|decide (j<i)):=c0i λ_ _ _ _ _ _ _ q=>gt_int q
def c6c:OpR X (v9 .GtE) (rI0 λi j=>.bl<|decide (j<=i)):=c0i λ_ _ _ _ _ _ _ q=>ge_int q
def c3P:OpR X (v9 .Is) (λx y H Q=>y=.non/\Q (.bl<|decide (x=.non)) H):=by rintro B s U H x y v u Q I a b⟨rfl,q⟩;cases b;refine is_none_gen<|cK I q ?_;cases x<;>first|(cases a;rfl)|(let⟨t,rfl⟩:=a;rfl)
def b6O b(h:op≠.In:=by decide)(a:op≠.NotIn:=by decide):wl op b=false:=by
 have d:(op==CmpOp.In)=false:=by cases op<;>first|rfl|exact absurd rfl h
 have c:(op==CmpOp.NotIn)=false:=by cases op<;>first|rfl|exact absurd rfl a
 cases b<;>simp[wl,d,c]
def b9T(f:OpR X (v9 op) r)(j:PE X a ta)(i:PE X b tb)(g:wl op b=Qd):PE X (.Compare a [op] [b] pos) (tOp r ta tb):=λB s U H Q I h=>wpAny_Compare1 (c5i j i I h λv u c x y o k e d q=>f B c U o x y v u Q k e d q) g
noncomputable def c5B(t:TE):TT:=λU H Q=>t U H λx H'=>∃k,x=.bl k/\Q k H'
def b9K(p:OpR X (v9 op) r)(w:PE X a ta)(t:PE X b tb)(q:wl op b=Qd):PT X (.Compare a [op] [b] pos) (c5B<|tOp r ta tb):=by intro B s U H Q I h;refine wpAny_isTrue_Compare1 (thn (w B s U H _ I h) ?_) q;rintro v f⟨x,G,D,g,o⟩;refine thn (t B f U G _ D o) ?_;rintro u d⟨y,F,C,r2,j⟩;refine thn (p B d U F x y v u _ C g r2 j) ?_;rintro c J⟨z,E,A,r3,k,e,i⟩;subst e;cases r3;exact wp #[E,A,i]
def c5n(K:qB)(x:V)(H:Hp)(k:Bool):Prop:=match x with|.non=>k=Qd|.bl b=>k=b|.int i=>k=(i !=0)|.str y=>y.length<=j5/\k=((y.length:Int)!=0)|.byt y=>y.size<=j5/\k=((y.size:Int)!=0)|.ref p=>(∃Y,SqL K H p Y/\k=!Y.isEmpty)\/(∃Y,SqT K H p Y/\k=!Y.isEmpty)\/∃kvs,H p=Qa (.dK kvs)/\k=!kvs.isEmpty|_=>False
def b1v{κ:Type}{kvs:List (κ×V)}{vs:List (κ×Value)}(r:KV kvs vs):(!vs.isEmpty)=!kvs.isEmpty:=by cases r<;>rfl
def a4B(r:bJ Y its):(!its.toArray.isEmpty)=!Y.isEmpty:=by cases r<;>rfl
def a1R:(j5:Nat)<2^63:=by rw[w5];decide
def c2M:c8g X (λx H Q=>∃k,c5n X.K x H k/\Q k H):=by rintro B s U H x v Q I rx⟨k,e,q⟩;have hl:=a1R;have hs:=w5;cases x with|non=>cases rx;have e':=e;subst e';exact truthy_none #[H,I,q]|bl b=>cases rx;have e':=e;subst e';exact wp #[H,I,q]|int i=>let⟨t,rfl⟩:=rx;have e':=e;subst e';exact PySem.P.truthy_int #[H,I,q]|str y=>let⟨t,rfl⟩:=rx;obtain⟨hy,e'⟩:y.length<=j5/\k=((y.length:Int)!=0):=e;subst e';exact PySem.P.truthy_str (by lia) #[H,I.tok _,q]|byt y=>let⟨t,rfl⟩:=rx;obtain⟨hy,e'⟩:y.size<=j5/\k=((y.size:Int)!=0):=e;subst e';exact PySem.W.truthy_bytes (by exact Q2 ‹_› rfl) #[H,I.tok _,q]|ref p=>
  cases rx;have e':=e;obtain⟨Y,hx,e'⟩|⟨Y,hx,e'⟩|⟨kvs,hx,e'⟩:=e';.subst e';let⟨its,r,pl,hz⟩:=I.list hx;have hlen:=r.length;exact wpAny_truthy_list pl.isList (by simp only[qT];omega) #[H,I.tok _,by rwa[a4B r]]
  .subst e';let⟨its,r,pl,hz⟩:=I.tuple hx;have hlen:=r.length;exact truthy_tuple pl (by simp only[qT];omega) #[H,I.tok _,by rwa[a4B r]]
  .subst e';obtain⟨hz,hS,vs,r,m⟩:kvs.length<=j5/\(p==wt)=Qd/\∃vs,KV kvs vs/\s.heap.DictOf (cO X.prog X.w) p vs:=I.hok p _ hx;have hlen:=Paired.length r;exact wpAny_truthy_dict hS m (by lia) #[H,I.tok _,by rwa[b1v r]]|_=>exact(show False from e).elim
def b6l(f:PE X a ta)(e:∀whole,isTrue a X.env whole=(do let v<-whole;QI a.pos;holding [v]<|truthy v)):PT X a (λU H Q=>ta U H λx H'=>∃k,c5n X.K x H' k/\Q k H'):=λB s U H Q I h=>isTrue_plain (thn (f B s U H _ I h)<|by rintro v b⟨x,i,g,c,d⟩;exact c2M B b U i x v Q g c d)<|e _
def b1b:OpR X (wz .Add) (λx y H Q=>∃i j,x=.str i/\y=.str j/\i.length+j.length<=j5/\Q (.str<|i++j) H):=by rintro B s U H x y v u Q I c b⟨i,j,rfl,rfl,d,q⟩;let⟨t,rfl⟩:=c;let⟨a,rfl⟩:=b;exact add_str (λa e=>#[.str<|i++j,H,I.tok _,#[_,rfl],q]) d
def vals1{x:V}(r:bJ [x] us):∃u,us=[u]/\RelV x u:=by cases r with|cons a r2=>cases r2;exact#[_,rfl,a]
def vals2{x:V}(r:bJ [x,y] us):∃u a,us=[u,a]/\RelV x u/\RelV y a:=by cases r with|cons c r2=>cases r2 with|cons r3 b=>cases b;exact#[_,_,rfl,c,r3]
end
structure ObjM(h:Heap)(x dx C:Addr)(mA:T0d):Prop where
 obj:h.get? x=Qa (kT C dx)ns:h.Ns1 dx mA
 ne:dx≠x
def b4F{h:Heap}(n:h.Ns1 dx mA):∃od,h.get? dx=Qa od/\∀name,vf name od=Qa (mA name):=by
 let⟨o,c,p,f,j,i,_,g⟩:=n;refine#[o,f,λname=>?_];have e:=g name;unfold nsFind findBy at e;rw[<-Array.find?_toList]at e;unfold vf;rw[j];dsimp only;split;.rename_i y q;rw[q]at e;exact congrArg Qa e
 .rename_i q;rw[q]at e;have a:c.toList.any (·.refKey)=false:=by rw[List.any_eq_false];intro y d;let⟨z,t,b⟩:=i y<|Array.mem_toList_iff.mp d;simp[DictEntry.refKey,b]
  have k:¬c.toList.any (·.refKey)=true:=by rw[a];exact qg
  rw[if_neg k];exact congrArg Qa e
def ObjM.look{h:Heap}{x:Addr}(I:ObjM h x dx C mA):∃od,PySem.W.InstAt h x (kT C dx) C (Qa od)/\∀name,vf name od=Qa (mA name):=let⟨od,ho,hl⟩:=b4F I.ns;#[od,#[I.obj,rfl,rfl,ho],hl]
variable{f:Addr}
section
variable{K:qB}{x:Addr}{v:Value}
def c0V(X:K.In s.heap)(I:ObjM s.heap x dx C mA)(e:zZ K C name=Qc)(d:zz K C=Qc)(f:jH K (.ref C) name=Qa Qb)(b:mA name=Qa v)(a:PySem.W.handedIn v=Qc)(h:Q v {s with toks:=s.toks+1}):wpAny (model prog w) A (getAttr (.ref x) name expr) Q E s:=by let⟨g,J,c⟩:=I.look;exact PySem.W.get_value X J (vi e).1 (PySem.W.findObj_own d f rfl<|by rw[c,b]) a h
def b7H{pl:Sem Bool}{Q:Value×List Value->Shared->Prop}(X:K.In s.heap)(I:ObjM s.heap x dx C mA)(a:zZ K C name=Qc)(g:jH K (.ref C) name=Qa (Qa<|.ref f))(d:vP K (.ref f)=Qc)(c:mA name=Qb)(h:Q (.ref f,[.ref x]) s):wpAny (model prog w) A (ug (.ref x) name pl) Q E s:=by let⟨b,J,e⟩:=I.look;exact PySem.W.method_fn X J (vi a).1 (vi a).2 g (beq_iff_eq.mp d) (by show(vf name b).map (·.isSome)=Qa Qd;rw[e,c];rfl) h
def b9w{Q:Unit->Shared->Prop}(X:K.In s.heap)(I:ObjM s.heap x dx C mA)(p:jH K (.ref C) "__setattr__"=Qa (Qa<|.builtin "object.__setattr__"))(q:wF K C=Qc)(o:PySem.W.takerIn K C name=Qa Qb)(t:zz K C=Qc)(k:PySem.Within mA ns)(hsz:ns.length<=j5)(h:∀h',ObjM h' x dx C (λy=>if y=name then Qa v else mA y)->kZ dx s.heap h'->Q () {s with heap:=h',toks:=s.toks+2}):wpAny (model prog w) A (setAttr (.ref x) name v) Q E s:=by let⟨F,J,H⟩:=I.look;refine PySem.W.set_plain X J p (PySem.W.osa_open (s:={s with toks:=s.toks+1}) (r:=Qb) X J q o λb=>?_);let⟨L,u,g⟩:=PySem.W.any_some t;have j:=I.obj;refine j0<|j3<|j0<|j0<|wpAny_loadPart j<|j0<|PySem.W.Looks.here (s:={s with toks:=s.toks+1}) (PySem.W.looks_clsIn X u) ?_;rw[g];refine j3 (a:=Qa dx)<|j0<|j3<|j0 ?_;refine wpAny_nsSet1 (s:={s with toks:=s.toks+1}) I.ns λh' d c=>?_;let⟨G,z,D,e,f,i⟩:=d.count<|PySem.Within.cons name v k;exact j0<|wpAny_lookBehind e (by rw[f];exact pastItsLine_dict<|qk i<|by rw[qO];exact Q0 ‹_› rfl)<|j3<|h _ #[(c.2 _<|jL I.ne).trans I.obj,d,I.ne] c
def b7i{R:Result->Shared->Prop}{vs:T0m}(X:K.In s.heap)(b:PySem.W.makesIn K C=Qc)(hi:jH K (.ref C) "__init__"=Qa (Qa<|.ref f))(c:PySem.W.typeIn K (.ref f)=Qa (.type "function"))(h:wm (model prog w) (A.under<|.builtin "type.__call__" #[.ref C::vs,kw]) (.call (.ref f) #[.ref (s.heap.objs.size+1)::vs,kw]) (PySem.W.InitBack (s.heap.objs.size+1) R)
   {s with heap:=(s.heap.push jz).push<|kT C s.heap.objs.size}):wm (model prog w) A (.call (.ref C) #[vs,kw]) R s:=by let⟨i,g,d,t,e⟩:=s;exact PySem.W.make_core (PySem.W.makes_of X b) (PySem.W.looks_findIn X hi) (λa=>PySem.W.bind_fn X a c) (.inl rfl) h
end
noncomputable def nF(f:Str)(v:V):List (Str×V)->List (Str×V)|[]=>[(f,v)]|(g,x)::r=>if g=f then(g,v)::r else(g,x)::nF f v r
theorem a2J f g v:∀fs:List (Str×V),(nF f v fs).lookup g=if g=f then Qa v else fs.lookup g
 |[]=>by
  show zS g [(f,v)]=_;by_cases h:g=f;.have a:=beq_iff_eq.mpr h;simp only[zS,a,if_pos h]
  .have a:=beq_eq_false_iff_ne.mpr h;simp only[zS,a,if_neg h]|(k,x)::r=>by
  have c:=a2J f g v r;rw[show nF f v ((k,x)::r)=(if k=f then(k,v)::r else(k,x)::nF f v r)from rfl];by_cases b:k=f
  .rw[if_pos b];by_cases h:g=k;.have a:=beq_iff_eq.mpr h;simp only[zS,a,if_pos<|h.trans b]
   .have a:=beq_eq_false_iff_ne.mpr h;simp only[zS,a,if_neg (λe:g=f=>h<|e.trans b.symm)]
  .rw[if_neg b];by_cases h:g=k;.have a:=beq_iff_eq.mpr h;simp only[zS,a,if_neg (λe:g=f=>b<|h.symm.trans e)]
   .have a:=beq_eq_false_iff_ne.mpr h;simp only[zS,a];exact c
theorem a1U f v:∀fs:List (Str×V),f∈(nF f v fs).map (·.1)/\∀g,g∈fs.map (·.1)->g∈(nF f v fs).map (·.1)
 |[]=>#[by simp[nF],λg h=>by simp at h]|(k,x)::r=>by
  let⟨c,b⟩:=a1U f v r;rw[show nF f v ((k,x)::r)=(if k=f then(k,v)::r else(k,x)::nF f v r)from rfl];by_cases a:k=f;.rw[if_pos a];subst a;exact#[by simp,λg h=>by exact h]
  .rw[if_neg a];refine#[?_,λg h=>?_];.rw[qE];exact qG _ c
   .rw[qE]at h⊢;obtain e|e:=qI.mp h;.exact qI.mpr (.inl e)
    .exact qG _<|b g e
theorem a2L f v:∀fs:List (Str×V),(nF f v fs).length<=fs.length+1
 |[]=>by simp[nF]|(k,x)::r=>by
  have b:=a2L f v r;rw[show nF f v ((k,x)::r)=(if k=f then(k,v)::r else(k,x)::nF f v r)from rfl];by_cases a:k=f;.rw[if_pos a,qO,qO];lia
  .rw[if_neg a,qO,qO];lia
def xJ.some_of{o:T0p}(r:xJ (Qa v) o):∃u,o=Qa u/\RelV v u:=by cases o with|none=>exact(show False from r).elim|some u=>exact#[u,rfl,r]
def xJ.none_of{o:T0p}(r:xJ Qb o):o=none:=by cases o with|none=>rfl|some u=>exact(show False from r).elim
def b4L(r:RelV v u):PySem.W.handedIn u=true:=by cases v with|non=>cases(show u=kE from r);rfl|bl b=>cases(show u=jy b from r);rfl|int i=>let⟨t,e⟩:=(show∃t,u=Value.int i t from r);cases e;rfl|str x=>let⟨t,e⟩:=(show∃t,u=vN x t from r);cases e;rfl|byt b=>let⟨t,e⟩:=(show∃t,u=Value.bytes b t from r);cases e;rfl|flt b=>let⟨t,e⟩:=(show∃t,u=Value.float b t from r);cases e;rfl|ref a=>cases(show u=jC a from r);rfl|ty n=>cases(show u=zf n from r);rfl
section
variable{h:Heap}{fs fs':List (Str×V)}
def a3m(b:HOk P w H h)(e:H a=Qa (.ins C dx fs)):∃mA,ObjM h a dx C mA/\(∀f,xJ (fs.lookup f)<|mA f)/\PySem.Within mA (fs.map (·.1))/\fs.length<=1000/\H dx=Qa (.own a):=by let⟨d,z,ne,ob,mA,n,r,q⟩:=(show eB P w H h a (.ins C dx fs)from b a _ e);exact#[mA,#[ob,n,ne],r,q,z,d]
end
structure Cls(K:qB)(C:Addr):Prop where
 pg:zZ K C qV=Qc
 hd:zz K C=Qc
 po:wF K C=Qc
 sa:jH K (.ref C) "__setattr__"=Qa (Qa (.builtin "object.__setattr__"))
def Cls.get{K:qB}(c:Cls K C) f:zZ K C f=true:=c.pg
def rV(K:qB)(C:Addr)(f:Str):Prop:=jH K (.ref C) f=Qa Qb
def rV.taker{K:qB}{f:Str}(n:rV K C f):PySem.W.takerIn K C f=Qa none:=by unfold PySem.W.takerIn;rw[show jH K (.ref C) f=Qa Qb from n];rfl
structure Meth(K:qB)(C:Addr)(m:Str)(f:Addr):Prop where
 at_:jH K (.ref C) m=Qa (Qa (.ref f))fn:vP K (.ref f)=Qc
 kp:jQ K (.ref f)=Qc
section
variable{fs:List (Str×V)}{f:Str}
def b1z{b:Bool}(I:Inv X B U H s)(e:H a=Qa (.ins C dx fs))(c:Cls X.K C)(n:rV X.K C f)(l:fs.lookup f=Qa v)(h:∀u s',Inv X B U H s'->RelV v u->Q u s'):wpAny (model X.prog X.w) A (getAttr (.ref a) f b) Q E s:=by let⟨g,j,r,_,_,_⟩:=a3m I.hok e;let⟨u,i,d⟩:=xJ.some_of (v:=v) (o:=g f) (by rw[<-l];exact r f);exact c0V I.kIn j (c.get f) c.hd n i (b4L d)<|h u _ (I.tok _) d
def a4F{m:Str}{g:Addr}{pl:Sem Bool}{Q:Value×List Value->Shared->Prop}(I:Inv X B U H s)(e:H a=Qa (.ins C dx fs))(c:Cls X.K C)(k:Meth X.K C m g)(l:fs.lookup m=Qb)(h:Q (.ref g,[.ref a]) s):wpAny (model X.prog X.w) A (ug (.ref a) m pl) Q E s:=by let⟨f,d,r,_,_,_⟩:=a3m I.hok e;have b:=xJ.none_of (by rw[<-l];exact r m);exact b7H I.kIn d (c.get m) k.at_ k.fn b h
def b0M{Q:Unit->Shared->Prop}(I:Inv X B U H s)(e:H a=Qa (.ins C dx fs))(c:Cls X.K C)(n:rV X.K C f)(K:fs.length<1000)(J:RelV y u)(h:∀s',Inv X B U (upd H a<|.ins C dx<|nF f y fs) s'->Q () s'):wpAny (model X.prog X.w) A (setAttr (.ref a) f u) Q E s:=by
 let⟨p,d,r,j,_,v⟩:=a3m I.hok e;have t:(fs.map (·.1)).length<=j5:=by rw[qF,w5];exact Q2 ‹_› rfl
 refine b9w I.kIn d c.sa c.po n.taker c.hd j t λG i k=>h _ ?_;have D:∃o,G.get? dx=Qa o:=let⟨o,_,_,e',_⟩:=i.ns;#[o,e'];refine I.write (x:=a) (e:=dx) (by rw[e];exact kd) (.inr v) (λb q F z=>(k.2 b F).trans z) D ?_;refine#[by rwa[aF d.ne],?_,d.ne,i.obj,_,i.ns,λg=>?_,λg w=>?_];.have:=a2L f y fs;lia
 .rw[a2J];by_cases q:g=f;.rwa[if_pos q,if_pos q]
  .rw[if_neg q,if_neg q];exact r g
 .by_cases q:g=f;.rw[q];exact(a1U f y fs).1
  .refine(a1U f y fs).2 g (j g λz=>w ?_);show(if g=f then Qa u else p g)=Qb;rwa[if_neg q]
def Inv.made(I:Inv X B U H s):Inv X B U (upd (upd H s.heap.objs.size<|.own<|s.heap.objs.size+1) (s.heap.objs.size+1)<|.ins C s.heap.objs.size [])
  {s with heap:=(s.heap.push jz).push<|kT C s.heap.objs.size}:=by
 have c:(s.heap.push jz).get? s.heap.objs.size=Qa jz:=qP s.heap rfl;have i:((s.heap.push jz).push<|kT C s.heap.objs.size).get? (s.heap.objs.size+1)=Qa (kT C s.heap.objs.size):=by have:=qP (s.heap.push jz) (o:=kT C s.heap.objs.size) rfl;rwa[jr]at this
 have g:(s.heap.push jz).Ns s.heap.objs.size (λ_=>Qb):=#[jz,(List.toArray []),_,c,rfl,(λe f=>absurd f<|by simp),λ_=>rfl];have j:=I.laid (a:=s.heap.objs.size) (o:=.own<|s.heap.objs.size+1) (h':=s.heap.push jz) (t':=s.toks) (λb u q=>qC _ q) (qM _) #[_,c];refine j.laid (a:=s.heap.objs.size+1) (o:=.ins C s.heap.objs.size []) (t':=s.toks) (λb u q=>qC _ q) (Nat.le_of_eq<|jr _ _) ?_;have ne:s.heap.objs.size≠s.heap.objs.size+1:=qd<|za _;refine#[by rw[aF ne,aK],jJ _,ne,i,λ_=>Qb,(Heap.Ns1.of_empty g).at λo q=>qC _ q,λ_=>kd,λy d=>absurd rfl d]
def c1V{f:Str}(b:v2 e f env (eval e env)=eval e env)(h:wpAny (model prog w) A (eval e env) (λo a=>wpAny (model prog w) A (getAttr o f Qc) Q E a) E s):wpAny (model prog w) A (eval (.Attribute e f pos) env) Q E s:=Attribute_any_ h (by rw[arm_eval_Attribute,b])
end
def c7n(K:qB)(ta:TE)(f:Str):TE:=λU H Q=>ta U H λx H1=>∃a C dx fs v,x=.ref a/\H1 a=Qa (.ins C dx fs)/\Cls K C/\rV K C f/\fs.lookup f=Qa v/\Q v H1
def c7y(K:qB)(ta tv:TE)(f:Str):TS:=λD U H=>tv U H λy H1=>ta U H1 λx H2=>∃a C dx fs,x=.ref a/\H2 a=Qa (.ins C dx fs)/\Cls K C/\rV K C f/\fs.length<1000/\D.nx U (upd H2 a<|.ins C dx<|nF f y fs)
section
variable{o:Expr}{f:Str}{tv:TE}
abbrev U8(X:Cx)(e:Expr)(m:Str):Prop:=v2 e m X.env (eval e X.env)=eval e X.env
def uW(he:PE X e ta)(hb:U8 X e f):PE X (.Attribute e f pos) (c7n X.K ta f):=by intro B s U H Q I h;refine c1V hb<|thn (he B s U H _ I h) ?_;rintro u s1⟨x,H1,I1,rx,a,C,dx,fs,v,ex,ea,c,n,l,q⟩;subst ex;obtain rfl:u=jC a:=rx;exact b1z I1 ea c n l λu' s2 I2 ru=>#[v,H1,I2,ru,q]
def a4c(ha:PE X o ta)(hv:PE X value tv)(hs:wa value (Qa<|.Attribute o f pos') pos.line X.env=pure Qd):PS X (.Assign [.Attribute o f pos'] value pos) (c7y X.K ta tv f):=by intro B s U H D I h;refine plainObj_wpAny_Assign_Attribute (thn (hv B s U H _ I h) ?_) hs;rintro u s1⟨y,H1,I1,ry,q⟩;refine thn (ha B s1 U H1 _ I1 q) ?_;rintro ov s2⟨x,H2,I2,rx,a,C,dx,fs,ex,ea,c,n,l,q2⟩;subst ex;obtain rfl:ov=jC a:=rx;exact b0M I2 ea c n l ry λs3 I3=>#[U,_,I3,q2]
end
section
variable{c:Value}{b:Bool}
inductive TyOf(K:qB)(H:Hp):V->Value->Prop where|non:TyOf K H .non (.type "NoneType")|bl(x:Bool):TyOf K H (.bl x) (.type "bool")|int(i:Int):TyOf K H (.int i) (.type "int")|str(x:Str):TyOf K H (.str x) (.type "str")|flt(x:UInt64):TyOf K H (.flt x) (.type "float")|lst{a:Addr}{Y:List V}(e:H a=Qa (.lst Y)):TyOf K H (.ref a) (.type "list")|frz{a:Addr}{o:Obj}{Y:List V}(e:H a=Qa (.frz o (.lst Y))):TyOf K H (.ref a) (.type "list")|tup{a:Addr}{Y:List V}(e:H a=Qa (.tup Y)):TyOf K H (.ref a) (.type "tuple")|dK{a:Addr}{kvs:List (Key×V)}(e:H a=Qa (.dK kvs)):TyOf K H (.ref a) (.type "dict")|dT{a:Addr}{kvs:List (List Key×V)}(e:H a=Qa (.dT kvs)):TyOf K H (.ref a) (.type "dict")|ins{a C dx:Addr}{fs:List (Str×V)}(e:H a=Qa (.ins C dx fs))(cl:Cls K C)(ha:jH K (.ref C) "__class__"=Qa (Qa (.builtin "object.__class__")))(hn:PySem.W.specialIn K (.builtin "object.__class__") "__get__"=Qa (Qa (.builtin "getset_descriptor.__get__")))(htk:PySem.W.takesIn K (.builtin "object.__class__")=Qa Qc)(hm:PySem.W.mroIn K C (.type "object")=Qa Qc):TyOf K H (.ref a) (.ref C)
def yA{x:V}{t:Value}(I:Inv X B U H s)(d:RelV x u)(ty:TyOf X.K H x t)(e:zV X.K t c=Qa b)(h:∀tk,Q (.bool b) {s with toks:=tk}):wpAny (model X.prog X.w) A (call (.builtin "isinstance") [u,c]) Q E s:=by cases ty with|non=>cases(show u=kE from d);exact jV PySem.W.kitx_none I.kIn kd e (λz=>nomatch z) h|bl y=>cases(show u=jy y from d);exact jV PySem.W.kitx_bool I.kIn kd e (λz=>nomatch z) h|int i=>let⟨t,q⟩:=(show∃t,u=Value.int i t from d);cases q;exact jV PySem.W.kitx_int I.kIn kd e (λz=>nomatch z) h|str y=>let⟨t,q⟩:=(show∃t,u=vN y t from d);cases q;exact jV PySem.W.kitx_str I.kIn kd e (λz=>nomatch z) h|flt y=>let⟨t,q⟩:=(show∃t,u=Value.float y t from d);cases q;exact jV PySem.W.kitx_float I.kIn kd e (λz=>nomatch z) h|@lst a Y f=>cases(show u=jC a from d);let⟨_,_,n,_,g⟩:=(show eB X.prog X.w H s.heap a (.lst Y)from I.hok a _ f);exact jV wH I.kIn #[_,g,rfl] e (λz=>nomatch z) h|@frz a ob Y f=>cases(show u=jC a from d);let⟨_,_,_,n,_,g⟩:=(show eB X.prog X.w H s.heap a (.frz ob<|.lst Y)from I.hok a _ f);exact jV wH I.kIn #[_,g,rfl] e (λz=>nomatch z) h|@tup a Y f=>cases(show u=jC a from d);let⟨_,_,_,p⟩:=(show eB X.prog X.w H s.heap a (.tup Y)from I.hok a _ f);let⟨o,g,k,_⟩:=p;exact jV PySem.W.kitx_tuple I.kIn #[o,g,k] e (λz=>nomatch z) h|@dK a j f=>cases(show u=jC a from d);let⟨_,_,L,_,p⟩:=(show eB X.prog X.w H s.heap a (.dK j)from I.hok a _ f);let⟨o,F,G,g,k,_⟩:=p;exact jV wI I.kIn #[o,g,k.1] e (λz=>nomatch z) h|@dT a j f=>cases(show u=jC a from d);let⟨_,_,Y,_,o,F,G,g,k,_⟩:=(show eB X.prog X.w H s.heap a (.dT j)from I.hok a _ f);exact jV wI I.kIn #[o,g,k.1] e (λz=>nomatch z) h|@ins a C P fs f cl D v r w=>cases(show u=jC a from d);let⟨N,K,_⟩:=a3m I.hok f;let⟨M,J,_⟩:=K.look;exact jV (PySem.W.kitx_own (cl.get _) cl.hd D v r w) I.kIn J e (λz=>nomatch z) h
end
structure Room(k:Nat)(A:Around):Prop where
 hd:A.handled=Qb
 dp:A.depth+3*k+5<uk
 un:A.units+16*k+200<cLine
def Room.mono(r:Room k A)(h:j<=k):Room j A:=#[r.hd,by have:=r.dp;lia,by have:=r.un;lia]
theorem Room.deeper{k:Nat}{A:Around}(r:Room (k+1) A) a:Room k (A.deeper a):=#[r.hd,by have:=r.dp;show A.depth+1+3*k+5<_;lia,by have:=r.un;show A.units+3+16*k+200<_;lia]
def b1n:(A.under<|.builtin "type.__call__" #[.ref C::us,kw]).depth=A.depth+1:=by first|rfl|simp[guardIds]
def b1m:(A.under<|.builtin "type.__call__" #[.ref C::us,kw]).units=A.units+1:=by first|rfl|simp[Code.isFrame]
def Room.make(r:Room (k+1) A) C(us:T0m)(a:T0g):Room k (A.under<|.builtin "type.__call__" #[.ref C::us,a]):=#[r.hd,by have:=r.dp;rw[b1n];lia,by have:=r.un;rw[b1m];lia]
theorem Room.depth{k:Nat}{A:Around}(r:Room k A):A.depth<uk:=by have:=r.dp;lia
theorem Room.units{k:Nat}{A:Around}(r:Room k A):A.units+64<cLine:=by have:=r.un;lia
noncomputable def b5K:TA:=λ_ H Q=>Q [] H
noncomputable def b2m(ta:TE)(tr:TA):TA:=λU H Q=>ta U H λx H1=>tr U H1 λY H2=>Q (x::Y) H2
variable{t:TA}
def gE:PA X [] b5K:=λ_ _ _ _ H Q I h=>zE #[[],H,I,.nil,h]
abbrev U5(X:Cx)(e:Expr)(l:List Expr):Prop:=j4 (e::l) X.env=(Qd,eval e X.env)::j4 l X.env
def dR(j:PE X e te)(i:PA X es t)(g:U5 X e es:=by rfl):PA X (e::es) (b2m te t):=by intro a B s U H Q I h;rw[g];exact ky<|thn (j B s U H _ I h) (by rintro u b⟨x,q,o,c,f⟩;exact thn (i a B b U q _ o f) λr v⟨Y,p,k,r2,d⟩=>#[x::Y,p,k,.cons c r2,d])
def c7e(t:TA):TE:=λU H Q=>t U H λY H1=>Y.length<=j5/\∀p,H1 p=Qb->Q (.ref p) (upd H1 p<|.tup Y)
def c7j(t:TA):TE:=λU H Q=>t U H λY H1=>Y.length<=j5/\∀p,H1 p=Qb->Q (.ref p) (upd H1 p<|.lst Y)
def c3v(h:PA X es t):PE X (.Tuple es x1 pos) (c7e t):=by intro B s U H Q I f;refine wpAny_Tuple_spliced<|thn (h pos B s U H _ I f) ?_;rintro d a⟨Y,i,c,r,z,q⟩;refine#[by rwa[<-r.length],?_];have g:=c.hok.fresh<|qM _;exact#[.ref a.heap.objs.size,upd i a.heap.objs.size<|.tup Y,c.laid (t':=a.toks) (λb u e=>qC _ e) (qM _) #[z,d,r,#[_,qP _ rfl,rfl,_,rfl]],rfl,q _ g]
def a0k(h:PA X es t):PE X (.List es pos) (c7j t):=by intro B s U H Q I f;refine wpAny_List_spliced<|thn (h pos B s U H _ I f) ?_;rintro d a⟨Y,i,c,r,z,q⟩;refine#[by rwa[<-r.length],?_];have g:=c.hok.fresh<|qM _;exact#[.ref a.heap.objs.size,upd i a.heap.objs.size<|.lst Y,c.laid (t':=a.toks) (λb u e=>qC _ e) (qM _) #[z,d,0,r,qP _ rfl],rfl,q _ g]
abbrev Sp:=List V->Hp->VK->XK->Prop
abbrev CXT:=List Env->Hp->Shared->XK->Value->Shared->Prop
structure Env0(P:Program)(w:World)(K:qB)(mg:T0d)(base:Heap)(A:Around)(outer:List Env)(s:Shared)(H:Hp):Prop where
 frames:A.frames=Qa outer
 mod:Mod K mg base
 bs:∀b o,base.get? b=Qa o->s.heap.get? b=Qa o/\H b=Qb
 bsz:base.objs.size<=s.heap.objs.size
 funs:s.heap.FunFrames base outer
 frf:∀b∈frs outer,H b=Qb
 hok:HOk P w H s.heap
 bare:uc s.gens
def CE(outer:List Env)(P:Program)(w:World)(H:Hp)(s:Shared)(Q:VK)(u:Value)(s':Shared):Prop:=∃v H',s'.os=s.os/\uc s'.gens/\Un (frs outer) [] H H' s.heap s'.heap/\HOk P w H' s'.heap/\RelV v u/\Q v H'
def CR(CX:CXT)(outer:List Env)(P:Program)(w:World)(H:Hp)(s:Shared)(Q:VK)(E:XK)(r:Result)(s':Shared):Prop:=match r with|.ok (.ret u)=>CE outer P w H s Q u s'|.ok _=>False|.error e=>CX outer H s E e s'
structure FnOk(P:Program)(w:World)(K:qB)(mg:T0d)(base:Heap)(CX:CXT)(k:Nat)(f:Addr)(fd:wj)(ps:T0q)(sp:Sp):Prop where
 len:∀vs H Q E,sp vs H Q E->vs.length=ps.length
 run:∀ A outer s H args(us:T0m) vs Q E,Room k A->Env0 P w K mg base A outer s H->BindsTo s fd args (ps.zip us)->bJ vs us->sp vs H Q E->wm (model P w) A (.call (.ref f) args) (CR CX outer P w H s Q E) s
def Env0.make{K:qB}{outer:List Env}(e:Env0 P w K mg base A outer s H) C(us:T0m)(a:T0g):Env0 P w K mg base (A.under<|.builtin "type.__call__" #[.ref C::us,a]) outer s H:=#[by first|exact e.frames|(simpa[pushEnvs]using e.frames),e.mod,e.bs,e.bsz,e.funs,e.frf,e.hok,e.bare]
def Inv.env0(I:Inv X B U H s):Env0 X.prog X.w X.K X.mg X.base X.A X.stack s H:=#[I.ok.frames,I.ok.mod,I.bs,qk I.ok.bsz I.sz,I.stack,I.stkFree,I.hok,I.bare]
def Inv.after{Q:VK}(I:Inv X B U H s)(h:CE X.stack X.prog X.w H s Q u s'):EP X B U Q u s':=by let⟨v,j,f,a,un,e,r,q⟩:=h;let⟨i,g,d,t,c⟩:=s';obtain rfl:c=s.os:=f;exact#[v,j,I.call (h':=i) (g':=g) (d':=d) (t':=t) (ch:=[]) un e a (λb z=>absurd z<|by simp),r,q]
noncomputable def c5G(sp:Sp)(dvs:List V)(E:XK)(t:TA):TE:=λU H Q=>t U H λvs H1=>sp (vs++dvs) H1 Q E
def b5L(C:Addr)(sp:Sp)(dvs:List V)(E:XK)(t:TA):TE:=λU H Q=>t U H λvs H1=>∀x dx,H1 x=Qb->H1 dx=Qb->dx≠x->sp (.ref x::(vs++dvs)) (upd (upd H1 dx<|.own x) x<|.ins C dx []) (λv H2=>v=.non/\Q (.ref x) H2) E
def Binds(K:qB)(fd:wj)(ps:T0q)(O:T0m):Prop:=∀ s us,K.In s.heap->(us++O).length=ps.length->BindsTo s fd #[us,[]] (ps.zip<|us++O)
def Binds.all{K:qB}(h:∀us:List Value,us.length=ps.length->ye fd #[us,[]]=pure (ps.zip us)):Binds K fd ps []:=λs us _ a=>by rw[ja]at a⊢;exact .of_eq<|h us a
def a5h(CX:CXT)(X:Cx)(E:XK):Prop:=∀ B(U:St) H s e s',Inv X B U H s->CX X.stack H s E e s'->X.xe e s'
variable{CX:CXT}{vs:List V}
section
variable{sp:Sp}{dvs:List V}{O:T0m}{E:XK}{x m:Str}{o:Expr}
def c3d{Q:VK}(F:FnOk X.prog X.w X.K X.mg X.base CX k f fd ps sp)(c:Room k X.A)(i:Binds X.K fd ps O)(g:bJ dvs O)(hx:a5h CX X E)(I:Inv X B U H s)(r:bJ vs us)(h:sp (vs++dvs) H Q E):wpAny (model X.prog X.w) X.A (call (.ref f) us) (EP X B U Q) X.xe s:=by
 have r2:=r.append g;have d:(us++O).length=ps.length:=by rw[<-r2.length];exact F.len _ _ _ _ h
 refine yh (wf (F.run X.A X.stack s H #[us,[]] (us++O) (vs++dvs) Q E c I.env0 (i s us I.kIn d) r2 h) λr b a=>?_);cases r with|error e=>exact hx B U H s e b I a|ok j=>cases j with|ret u=>exact I.after a|next=>exact qy a|brk=>exact qy a|cont=>exact qy a
abbrev U6(X:Cx)(p:Pos)(l:List Expr):Prop:=(j9 p<|j4 l X.env).any (·.1)=Qd
def b9U(F:FnOk X.prog X.w X.K X.mg X.base CX k f fd ps sp)(d:Room k X.A)(j:Gl X x)(g:X.mg x=Qa (.ref f))(i:jQ X.K (.ref f)=Qc)(v:Binds X.K fd ps O)(u:bJ dvs O)(hx:a5h CX X E)(w:PA X (e::es) t)(b:U2 x:=by decide)(o:U5 X e es:=by rfl)(a:U6 X pos es:=by rfl):PE X (.Call (.Name x p) (e::es) [] pos) (c5G sp dvs E t):=by intro B s U H Q I h;refine v1<|gT I j g ?_ b;exact jf (h₀:=X.base) I.ok.mod.kin i (thn (w pos B s U H _ I h)<|by rintro z A⟨y,C,c,r,q⟩;exact#[c.kIn,c3d F d v u hx c r q]) o a
structure Mk(K:qB)(C f:Addr):Prop where
 makes:PySem.W.makesIn K C=Qc
 init:jH K (.ref C) "__init__"=Qa (Qa (.ref f))fn:vP K (.ref f)=Qc
 kp:jQ K (.ref C)=Qc
def b6a{Q:VK}(M:Mk X.K C f)(F:FnOk X.prog X.w X.K X.mg X.base CX k f fd ps sp)(j:Room (k+1) X.A)(q:Binds X.K fd ps O)(p:bJ dvs O)(hx:a5h CX X E)(I:Inv X B U H s)(r:bJ vs us)(h:∀x dx,H x=Qb->H dx=Qb->dx≠x->sp (.ref x::(vs++dvs)) (upd (upd H dx<|.own x) x<|.ins C dx []) (λv H2=>v=.non/\Q (.ref x) H2) E):wpAny (model X.prog X.w) X.A (call (.ref C) us) (EP X B U Q) X.xe s:=by
 have c:=h (s.heap.objs.size+1) s.heap.objs.size (I.hok.fresh<|ki _) (I.hok.fresh<|qM _)<|qd<|za _;have b:=Inv.made (C:=C) I;have r2:bJ (V.ref (s.heap.objs.size+1)::(vs++dvs)) (jC (s.heap.objs.size+1)::(us++O)):=.cons rfl<|r.append p;have o:(jC (s.heap.objs.size+1)::us++O).length=ps.length:=by have e:=r2.length;rw[F.len _ _ _ _ c]at e;exact e.symm
 refine yh (b7i (f:=f) I.kIn M.makes M.init (beq_iff_eq.mp M.fn) (wf (F.run _ X.stack _ _ #[jC (s.heap.objs.size+1)::us,[]] (jC (s.heap.objs.size+1)::(us++O)) _ _ E (j.make C us [])
  (b.env0.make C us []) (q _ (jC (s.heap.objs.size+1)::us) b.kIn o) r2 c) λr d a=>?_));cases r with|error e=>exact hx B U _ _ e d b a|ok t=>cases t with|ret u=>let⟨v,z,y,g,w,i⟩:=b.after a;subst w;exact#[g,#[V.ref<|s.heap.objs.size+1,z,y,rfl,i]]|next=>exact qy a|brk=>exact qy a|cont=>exact qy a
def a9j(M:Mk X.K C f)(F:FnOk X.prog X.w X.K X.mg X.base CX k f fd ps sp)(b:Room (k+1) X.A)(d:Gl X x)(c:X.mg x=Qa (.ref C))(g:Binds X.K fd ps O)(e:bJ dvs O)(hx:a5h CX X E)(a:U2 x:=by decide):PE X (.Call (.Name x p) [] [] pos) (b5L C sp dvs E b5K):=by intro B s U H Q I h;exact v1<|gT I d c (PySem.W.callWith_K0 I.kIn M.kp<|b6a (us:=[]) M F b g e hx I .nil h) a
end
section
variable{sp:Sp}{E:XK}{x m:Str}{kpos:Pos}{o:Expr}{kws:List Keyword}{tk:TA}{nm:Option Str}
variable{g:List Value->List Value->List Value}{gV:List V->List V->List V}
end
structure FnScope(N P:T0q)(sc:Scope):Prop where
 kind:sc.kind=.function
 co:sc.isCoroutine=Qd
 gen:sc.isGenerator=Qd
 nd:N.Nodup
 pre:N.take P.length=P
 par:∀x∈P,sc.names.lookup x=Qa .local\/sc.names.lookup x=Qa .cell
 nofree:∀y∈sc.names,y.2≠.free
theorem a6T{a:Str->Option wy}{x:Str}:∀{binds:T0g}{m:T0d},(∀v,(x,v)∉binds)->bindL a binds m x=m x
 |[],_,_=>rfl|(n,v)::r,m,h=>by
  unfold bindL;rw[a6T λw b=>h w<|qG _ b];split
  .have:x≠n:=by rintro rfl;exact h v qr
   simp[this]
  .rfl
theorem a6V{a:Str->Option wy}{x:Str}:∀{binds:T0g}{m:T0d},(∀v,(x,v)∉binds)->bindC a binds m x=m x
 |[],_,_=>rfl|(n,v)::r,m,h=>by
  unfold bindC;rw[a6V λw b=>h w<|qG _ b];split;.rfl
  .have:x≠n:=by rintro rfl;exact h v qr
   simp[this]
theorem a6U{a:Str->Option wy}{x:Str}{v:Value}:∀{P:T0q}{vs:T0m}{i:Nat}{m:T0d},P.Nodup->P[i]?=Qa x->vs[i]?=Qa v->a x=Qa .local->bindL a (P.zip vs) m x=Qa v|[],_,_,_,_,h,_,_=>by simp at h|_::_,[],_,_,_,_,h,_=>by simp at h|p::P,w::vs,0,m,nd,h1,h2,hk=>by simp at h1 h2;subst h1;subst h2;show bindL a ((p,w)::P.zip vs) m p=_;unfold bindL;rw[a6T λv b=>(kB.mp nd).1 (zj b).1,if_pos hk];simp|p::P,w::vs,i+1,m,nd,h1,h2,hk=>by unfold bindL;exact a6U (i:=i) (kB.mp nd).2 (by simpa using h1) (by simpa using h2) hk
theorem a6W{a:Str->Option wy}{x:Str}{v:Value}:∀{P:T0q}{vs:T0m}{i:Nat}{m:T0d},P.Nodup->P[i]?=Qa x->vs[i]?=Qa v->a x≠Qa .local->bindC a (P.zip vs) m x=Qa v|[],_,_,_,_,h,_,_=>by simp at h|_::_,[],_,_,_,_,h,_=>by simp at h|p::P,w::vs,0,m,nd,h1,h2,hk=>by simp at h1 h2;subst h1;subst h2;show bindC a ((p,w)::P.zip vs) m p=_;unfold bindC;rw[a6V λv b=>(kB.mp nd).1 (zj b).1,if_neg hk];simp|p::P,w::vs,i+1,m,nd,h1,h2,hk=>by unfold bindC;exact a6W (i:=i) (kB.mp nd).2 (by simpa using h1) (by simpa using h2) hk
noncomputable def start(N:T0q)(vs:List V):St:=vs.map Qa++qx (N.length-vs.length) Qb
noncomputable def a2i(CX:CXT)(P:Program)(w:World)(K:qB)(mg:T0d)(base:Heap)(N:T0q)(qual:Str)(scope:Scope)(f:Addr)(cd:Value)(A:Around)(outer:List Env)(s:Shared)(H:Hp)(E:XK):Cx where prog:=P;w:=w;K:=K;mg:=mg;base:=base;A:=A.deeper<|wx qual scope s.heap.objs.size f cd;N:=N;s₀:=s;H₀:=H;env:=wx qual scope s.heap.objs.size f cd;outer:=outer;stack:=wx qual scope s.heap.objs.size f cd::outer;ex:=[];calm:=Qc;fn:=λ_=>Qc;pn:=[];xe:=λe s'=>wpAny (model P w) (A.deeper<|wx qual scope s.heap.objs.size f cd) (leaving (wx qual scope s.heap.objs.size f cd) e) (λ_ s''=>CX outer H s E e s'') (λe' s''=>CX outer H s E e' s'') s'
def a1e{sc:Scope}{n:Nat}{x:Str}(h:sc.names.lookup x=Qa .cell):∃c,(v4 n sc.names []).lookup x=Qa c:=by have q:=zL sc.names n []<|.inl h;exact vD.mp q
def a1W{K:qB}{F:Value}{outer:List Env}{I:Shared}{E:XK}(S:FnScope N ps scope)(R:A.handled=Qb)(g:Env0 P w K mg base A outer s H)(hl:vs.length=ps.length)(r:bJ vs us)(x:InCallC s s.heap.objs.size (bindL (wx qual scope s.heap.objs.size f F).kindOf (ps.zip us) λ_=>Qb) (v4 (s.heap.objs.size+1) scope.names []) (bindC (wx qual scope s.heap.objs.size f F).kindOf (ps.zip us) λ_=>Qb) I):Inv (a2i CX P w K mg base N qual scope f F A outer s H E) [] (start N vs) H I:=by
 have Q:ps.length<=N.length:=by have:=congrArg zm S.pre;rw[jw]at this;lia
 let⟨G,X,rfl,L⟩:=x.done;have j:∀b:Addr,b∉(a2i CX P w K mg base N qual scope f F A outer s H E).ex:=λb z=>absurd (show b∈([]:T0o)from z) (by simp);refine#[#[g.mod,S.kind,rfl,rfl,qM _,λy z c G d=>?_,λy o=>?_,λy c _ h=>?_,λ_=>R,Around.frames_deeper g.frames,.inr #[rfl,rfl],λb z=>absurd z<|j b,g.bs,g.bsz,λb _ _=>j b,λb z=>absurd z<|j b,g.funs,g.frf],rfl,g.bare,Un.kept L,#[_,x.toInCall.ns,λi y v G d h3=>?_],λy c h=>#[_,x.cell y c h],g.hok.fresh<|qM _,λy c h=>?_,λp C=>absurd (show p∈([]:T0b)from C) (by simp),g.hok.kept L,?_];.exact name_of_addr x.apart (qw G) (qw d)
 .have o:=o;obtain o|o:=o;.exact a1e o
  .exact absurd rfl (S.nofree _<|qw o)
 .exact jg (x.above y c<|qw h)
 .have D:i<vs.length:=by
   unfold start at d;by_cases D:i<vs.length;.exact D
   .rw[jS<|by simpa using D]at d;rw[jv]at d;split at d<;>cases d
  have T:vs[i]?=Qa v:=by unfold start at d;rw[qt (by simpa using D),qS]at d;cases e:vs[i]? with|none=>rw[e]at d;cases d|some a=>rw[e]at d;cases d;rfl
  let⟨u,J,M⟩:=r.get T;have C:ps[i]?=Qa y:=by rwa[<-S.pre,kW<|by lia]
  have t:ps.Nodup:=by rw[<-S.pre];exact S.nd.sublist (ku _ _)
  refine#[u,M,?_];rcases S.par y (zd C)with k|k;.exact .inl #[k,a6U t C J k]
  .let⟨c,e⟩:=a1e (n:=s.heap.objs.size+1) k;refine .inr #[.inl k,c,e,?_];have q:=x.cell y c e;rwa[a6W t C J<|by show scope.names.lookup y≠_;rw[k];decide]at q
 .exact g.hok.fresh (jg<|x.above y c<|qw h)
 .unfold start;show _=N.length;rw[qY,qF,List.length_replicate];lia
def a4I{K:qB}{T kV:Value}{F:Array (Option Value)}{sp:Sp}(lk:K.lookup f=Qa #[oc,od,.func<|jY name qual params body scope T kV doc pm an cdv ct,F])(M:kz K cdv qual=Qc)(S:FnScope N ps scope)(len:∀vs H Q E,sp vs H Q E->vs.length=ps.length)(g:∀(A:Around)(a:List Env) s H(vs:List V) Q E,Room k (A.deeper<|wx qual scope s.heap.objs.size f cdv)->sp vs H Q E->∃t,PSs (a2i CX P w K mg base N qual scope f cdv A a s H E) body t/\t {nx:=λ_ H'=>Q .non H',rt:=Q} (start N vs) H):FnOk P w K mg base CX (k+1) f (jY name qual params body scope T kV doc pm an cdv ct) ps sp:=by
 refine#[len,λA a s H X us vs Q E L z hb r j=>?_];have hl:=len _ _ _ _ j;have KX:=z.mod.kin.keeps λb o e=>(z.bs b o e).1;have G:=z.mod.nolimit.keeps λb o e=>(z.bs b o e).1;have d:∀y∈ps.zip us,scope.names.lookup y.1=Qa .local\/(scope.names.lookup y.1=Qa .cell/\((v4 (s.heap.objs.size+1) scope.names []).lookup y.1).isSome=Qc):=by
  rintro ⟨n,v⟩hy;obtain q|q:=S.par n (zj hy).1;.exact .inl q
  .exact .inr #[q,zL _ _ _<|.inl q]
 refine yx L.depth (KX _ _ lk) rfl S.co S.gen rfl (vv KX M)<|hb _ _ _ _ ?_;refine yj S.kind d λenv he R x=>?_;subst he;refine#[G.keeps x.toInCall.keep,codeAny_func ?_];let⟨t,ht,hq⟩:=g A a s H vs Q E (L.deeper _) j;have I:Inv (a2i CX P w K mg base N qual scope f cdv A a s H E) [] (start N vs) H R:=a1W S L.hd z hl r x;refine v0 (ht [] R (start N vs) H _ I hq) (λfl C i=>?_) λe C i=>i;have p:∀{c:St}{H':Hp}{v:V}{u:Value},Inv (a2i CX P w K mg base N qual scope f cdv A a s H E) [] c H' C->RelV v u->Q v H'->CE a P w H s Q u C:=λ{c H' v u}J D q=>#[v,H',J.os,J.bare,J.base,J.hok,D,q];cases fl with|ret u=>let⟨v,c,H',J,D,q⟩:=i;exact p J D q|next=>let⟨c,H',J,q⟩:=i;exact p (v:=V.non) (u:=kE) J rfl q|brk=>let⟨_,_,_,q⟩:=i;exact qy q|cont=>let⟨_,_,_,q⟩:=i;exact qy q
section
variable{x:Str}{id:String}{r:List V->Hp->VK->Prop}
noncomputable def tCB(r:List V->Hp->VK->Prop)(t:TA):TE:=λU H Q=>t U H λvs H1=>r vs H1 Q
def uX(v:pC X (.builtin id) r)(q:Gl X x)(o:X.mg x=Qb)(j:wn x=Qa (.builtin id))(w:PA X (e::es) t)(k:x≠"__name__":=by decide)(b:U2 x:=by decide)(u:U5 X e es:=by rfl)(a:U6 X pos es:=by rfl):PE X (.Call (.Name x p) (e::es) [] pos) (tCB r t):=by intro B s U H Q I h;exact v1<|a1T I q o j (PyProof.Rows.callWith_builtin1 (thn (w pos B s U H _ I h)<|by rintro d f⟨c,z,y,g,i⟩;exact v B f U z c d Q y g i) u a) k b
def a6n(v:pC X (.type T) r)(q:Gl X x)(o:X.mg x=Qb)(j:wn x=Qa (.type T))(w:PA X (e::es) t)(k:x≠"__name__":=by decide)(b:U2 x:=by decide)(u:U5 X e es:=by rfl)(a:U6 X pos es:=by rfl):PE X (.Call (.Name x p) (e::es) [] pos) (tCB r t):=by intro B s U H Q I h;exact v1<|a1T I q o j (PyProof.Rows.callWith_type1 (thn (w pos B s U H _ I h)<|by rintro d f⟨c,z,y,g,i⟩;exact v B f U z c d Q y g i) u a) k b
end
end L2
variable{H H' H1 H2 G G' H0 Gz G1:L2.Hp}{o':L2.HO}{X:L2.Cx}{U σ':L2.St}{v:L2.V}{ta tb te tv td:L2.TE}{Y ys vs:List L2.V}{tc:L2.TT}{wi:L2.TI}{CX:L2.CXT}{J:L2.It}{kvs:List (L2.Key×L2.V)}{D:L2.Ends}
namespace HT
open PySem PyProof.Rows
section
open PySem.SeqAt
open PySem.AutoSeq1(wpAny_loadPart')
open PySem.MeetsSeq PySem.MeetsSeq2 PySem.MeetsSeq3
end
variable{t sl:Addr}{vu:Value}{lo hi:Option Int}
def cat_tup{b:Addr}{vs a:T0m}(C:IsTup s.heap t vs.toArray)(D:IsTup s.heap b a.toArray)(r:vs≠[])(G:a=[]->Q (.ref t) s)(F:a≠[]->Q (.ref s.heap.objs.size) {s with heap:=s.heap.push {cls:=.type "tuple",data:=.seq (vs++a).toArray}})(hsz:vs.length+a.length<=j5):wpAny (model prog w) A (wz .Add (.ref t)<|.ref b) Q E s:=by
 let⟨⟨cls,y,data,p⟩,k,v,n,u⟩:=id C;let⟨⟨z,i,o,d⟩,c,g,q,f⟩:=id D;simp only at v u g f;subst v u g f;have e:vs.toArray++a.toArray=(vs++a).toArray:=by simp
 by_cases j:a=[]
 .exact u9 #[_,k,rfl] #[_,c,rfl] uw seq_tuple_add PySem.F.slot_tuple_add PySem.F.entry_tuple_add (PySem.F.args_tuple_add_2 _ _)
   (tuple_addW1 t b vs.toArray a.toArray n q y i p d (by simpa using r)<|by simp[j]) #[k,c,G j]
 .refine u9 #[_,k,rfl] #[_,c,rfl] uw seq_tuple_add PySem.F.slot_tuple_add PySem.F.entry_tuple_add (PySem.F.args_tuple_add_2 _ _)
   (tuple_addW2 t b vs.toArray a.toArray n q y i p d (by simpa using r) (by simpa using j)<|by rwa[qT,qT]) #[k,c,?_];rw[e];exact F j
noncomputable def sIx(n d:Nat):Option Int->Nat|none=>d|some v=>if v<0 then(v+(n:Int)).toNat else min v.toNat n
def sIx_none n d:sIx n d Qb=d:=rfl
def c3c n d(b:d<=n) o:sIx n d o<=n:=by cases o with|none=>exact b|some v=>
  show(if v<0 then(v+(n:Int)).toNat else min v.toNat n)<=n;by_cases a:v<0;.rw[if_pos a];lia
  .rw[if_neg a];exact Nat.min_le_right _ _
def b3t v(n d:Nat):(if v<0 then max (v+(n:Int)) 0 else min v (n:Int))=((sIx n d (Qa v):Nat):Int):=by
 show(if v<0 then max (v+(n:Int)) 0 else min v (n:Int))=(((if v<0 then(v+(n:Int)).toNat else min v.toNat n):Nat):Int);by_cases a:v<0;.simp only[if_pos a];lia
 .simp only[if_neg a];lia
def b2h lo hi(n:Nat):vM lo hi 1 (n:Int)=(((sIx n 0 lo:Nat):Int),((sIx n n hi:Nat):Int)):=by
 have a:¬((1:Int)<0):=by lia
 unfold vM;simp only[if_false];refine Prod.ext ?_ ?_;.cases lo with|none=>rfl|some v=>exact b3t v n 0
 .cases hi with|none=>rfl|some v=>exact b3t v n n
def b0W(i j:Nat):zK (i:Int) (j:Int) 1=j-i:=by
 unfold zK;have a:(1:Int)>0:=by omega
 simp only[Int.ediv_one];split<;>lia
def a3F{v:Value}{o:Option Int}{Q:Option Int->Shared->Prop}(p:QC v o)(h:Q o s):wpAny (model prog w) A (Builtin.Slice.slicePartIndex v) Q E s:=by cases p with|none=>exact slicePart_none h|int i t=>exact slicePart_int h
def a1C{n:Nat}{Q:Int×Int×Nat->Shared->Prop}(d:s.heap.IsSliceOf sl vl vu .none)(pl:QC vl lo)(c:QC vu hi)(h:Q (((sIx n 0 lo:Nat):Int),1,sIx n n hi-sIx n 0 lo) s):wpAny (model prog w) A (Builtin.Slice.sliceApplied (.ref sl)<|pure (n:Int)) Q E s:=by let⟨f,a,e,b⟩:=id d;refine j0<|j0<|yi a b (x:=vl) rfl<|j0<|yi a b (x:=vu) rfl<|j0<|yi a b (x:=.none) rfl<|j3 ?_;refine j0<|slicePart_none ?_;rw[if_neg<|by decide];refine j0<|a3F pl<|j0<|a3F c<|j0<|j3 ?_;show wpAny _ _ (match vM lo hi 1 (n:Int)with|(lo,hi)=>pure (lo,(1:Int),zK lo hi 1)) _ _ s;rw[b2h lo hi n];show wpAny _ _ (pure (((sIx n 0 lo:Nat):Int),(1:Int),zK ((sIx n 0 lo:Nat):Int) ((sIx n n hi:Nat):Int) 1)) _ _ s;rw[b0W];exact j3 h
def b6s(Y:Array Value)(i k:Nat):((qj k).filterMap λ(m:Nat)=>Y[((i:Int)+(m:Int)*1).toNat]?).toArray=((Y.toList.drop i).take k).toArray:=by
 have e:(λ(m:Nat)=>Y[((i:Int)+(m:Int)*1).toNat]?)=λm=>Y[i+m]?:=by
  funext m;have:((i:Int)+(m:Int)*1).toNat=i+m:=by lia
  rw[this]
 rw[e];have:=pick_run Y i k;rw[wB]at this;have a:((λx=>Y[x]?)∘λx=>i+x)=λm=>Y[i+m]?:=rfl;rw[a]at this;rw[this]
def getItem_tuple_cut(b:IsTup s.heap t items)(g:s.heap.IsSliceOf sl vl vu .none)(pl:QC vl lo)(i:QC vu hi)(k:¬(sIx items.size 0 lo=0/\sIx items.size items.size hi=items.size))(h:Q (.ref s.heap.objs.size) {s with heap:=s.heap.push {cls:=.type "tuple",data:=.seq ((items.toList.drop<|sIx items.size 0 lo).take<|sIx items.size items.size hi-sIx items.size 0 lo).toArray}})(hsz:items.size<=j5):wpAny (model prog w) A (getItem (.ref t)<|.ref sl) Q E s:=by
 have a:sizeOk (.seq ((items.toList.drop<|sIx items.size 0 lo).take<|sIx items.size items.size hi-sIx items.size 0 lo).toArray):=by show((items.toList.drop<|sIx items.size 0 lo).take<|sIx items.size items.size hi-sIx items.size 0 lo).toArray.size<=j5;rw[qT,jw,kQ,qa];omega
 have u:sIx items.size items.size hi<=items.size:=c3c _ _ (qM _) hi;let⟨j,c,e,o⟩:=id g;have f:s.TypeIs (.ref sl) "slice":=#[j,c,e];unfold getItem;try with_reducible refine v3 ?_
 first|refine j0 (j3 ?_)|skip
 refine j0<|wpAny_sequenceKey b.typeIs (by decide) ?_;refine j0 (wo (name:=qH "__getitem__") b.typeIs zR
  (wb zR b.typeIs entry_tuple_getitem ?_<|args_tuple_getitem _ _));show wpAny _ _ (Builtin.Tuple.tupleItemsOf (.ref t)>>=_) _ _ s;refine j0<|tupleItemsOf_ b ?_;refine j0<|ym f ?_;rw[if_pos<|by decide];refine j0<|a1C g pl i ?_;have d:¬((((sIx items.size 0 lo:Nat):Int)==0&&(1:Int)==1&&(sIx items.size items.size hi-sIx items.size 0 lo)==items.size)=Qc):=by intro q;rw[qD,qD]at q;have r:=eq_of_beq q.1.1;have p:=eq_of_beq q.2;exact k #[by lia,by lia]
 show wpAny _ _ (if(((sIx items.size 0 lo:Nat):Int)==0&&(1:Int)==1&&(sIx items.size items.size hi-sIx items.size 0 lo)==items.size)=Qc then _ else _) _ _ s;rw[if_neg d,b6s];first|exact j0 (m:=zO _) (v5 (j3 ⟨_,rfl,j3 h⟩) a)|exact j0 (m:=zO _) (v5 (j0<|j3<|j3 ⟨_,rfl,j3 h⟩) a)|exact j0 (j0 (m:=zO _)<|v5 (j3<|j3 ⟨_,rfl,j3 h⟩) a)|exact j0 (j0 (m:=zO _)<|v5 (j3 ⟨_,rfl,j3 h⟩) a)
end HT
namespace L2
open PySem PySem.Spec PyProof.Rows
abbrev TO:=St->Hp->(Option Int->Hp->Prop)->Prop
def PO(X:Cx)(e:Option Expr)(t:TO):Prop:=∀ B s(U:St) H Q,Inv X B U H s->t U H Q->wpAny (model X.prog X.w) X.A (evalPart e X.env) (λu s'=>∃o H',Inv X B U H' s'/\QC u o/\Q o H') X.xe s
noncomputable def b9o:TO:=λ_ H Q=>Q Qb H
noncomputable def c5C(t:TE):TO:=λU H Q=>t U H λx H1=>∃i,x=.int i/\Q (Qa i) H1
def intsAre_of{ns:T0s}:∀{us:T0m},bJ (ns.map V.int) us->IntsAre us ns:=by induction ns with|nil=>intro us r;rw[vU]at r;cases r;exact .nil|cons n ns b=>intro us r;rw[qE]at r;cases r with|cons a r2=>let⟨t,e⟩:=a;subst e;exact .cons n t<|b r2
variable{r:V->Option Int->Option Int->Hp->VK->Prop}
section
variable{tl th:TO}
def b9N:PO X Qb b9o:=by intro B s U H Q I h;rw[evalPart_none];exact j3 #[Qb,H,I,.none,h]
def b9M(h:PE X e te):PO X (Qa e) (c5C te):=by intro B s U H Q I c;rw[evalPart_some];refine thn (h B s U H _ I c) ?_;rintro u g⟨x,f,d,a,b⟩;let⟨i,rfl,q⟩:=b;let⟨t,rfl⟩:=a;exact#[Qa i,f,d,.int i t,q]
def SlR(X:Cx)(r:V->Option Int->Option Int->Hp->VK->Prop):Prop:=∀ B s(U:St) H x v vl vu lo hi sl Q,Inv X B U H s->RelV x v->s.heap.IsSliceOf sl vl vu .none->QC vl lo->QC vu hi->r x lo hi H Q->∃T id,typeLookup (.type T) "__getitem__"=pure (Qa<|.builtin id)/\s.TypeIs v T/\wpAny (model X.prog X.w) X.A (getItem v<|.ref sl) (EP X B U Q) X.xe s
def SlR.or(h:SlR X r)(h':SlR X r'):SlR X (λx lo hi H Q=>r x lo hi H Q\/r' x lo hi H Q):=by
 intro B s U H x v vl a lo hi b Q I c f e d q;obtain q|q:=q;.exact h B s U H x v vl a lo hi b Q I c f e d q
 .exact h' B s U H x v vl a lo hi b Q I c f e d q
noncomputable def tSl(r:V->Option Int->Option Int->Hp->VK->Prop)(te:TE)(tl th:TO):TE:=λU H Q=>te U H λx H1=>tl U H1 λl H2=>th U H2 λu H3=>r x l u H3 Q
def a9i(y:SlR X r)(C:PE X e te)(z:PO X lo tl)(hu:PO X hi th):PE X (.Subscript e (.Slice lo hi Qb p2) pos) (tSl r te tl th):=by intro B s U H Q I h;refine Subscript_<|thn (C B s U H _ I h) ?_;rintro v g⟨x,L,J,i,o⟩;refine wpAny_Slice<|thn (z B g U L _ J o) ?_;rintro vl f⟨l,K,G,t,k⟩;refine thn (hu B f U K _ G k) ?_;rintro c a⟨u,d,F,p,j⟩;rw[evalPart_none];refine j3 ?_;have E:Inv X B U d {a with heap:=a.heap.push {cls:=.type "slice",data:=.fields<|List.toArray [vl,c,.none]}}:=F.kept (t':=a.toks) λb ob q=>qC _ q;let⟨T,M,D,w,A⟩:=y B {a with heap:=a.heap.push {cls:=.type "slice",data:=.fields<|List.toArray [vl,c,.none]}} U d x v vl c l u a.heap.objs.size Q E i (Heap.IsSliceOf.new ..) t p j;exact tail_any (ops:=[.ref a.heap.objs.size,v]) w D A (by with_unfolding_all rfl)
def b0f(Y:List V)(lo hi:Option Int):List V:=(Y.drop<|HT.sIx Y.length 0 lo).take<|HT.sIx Y.length Y.length hi-HT.sIx Y.length 0 lo
def a2U Y lo hi:(b0f Y lo hi).length<=Y.length:=by unfold b0f;rw[jw,kQ];lia
def c7z(K:qB):V->Option Int->Option Int->Hp->VK->Prop:=λx lo hi H Q=>∃a Y,x=.ref a/\SqT K H a Y/\¬(HT.sIx Y.length 0 lo=0/\HT.sIx Y.length Y.length hi=Y.length)/\∀p,H p=Qb->Q (.ref p) (upd H p<|.tup<|b0f Y lo hi)
def b5T:SlR X (c7z X.K):=by
 rintro B s U H x v vl w d f y Q I i u k j⟨a,Y,rfl,t,z,q⟩;cases i;let⟨e,r,g,p⟩:=I.tuple t;have c:e.toArray.size=Y.length:=by rw[qT];exact r.length.symm
 refine#["tuple",_,zR.lookup,g.typeIs,?_];refine HT.getItem_tuple_cut g u k j (by rwa[c]) ?_ (by rwa[c]);rw[c];exact#[.ref s.heap.objs.size,_,I.laid (t':=s.toks) (o:=.tup<|b0f Y d f) (λb ob q=>qC _ q) (qM _) #[qk (a2U Y d f) p,_,(r.drop<|HT.sIx Y.length 0 d).take<|HT.sIx Y.length Y.length f-HT.sIx Y.length 0 d,IsTup.new _ _],rfl,q _<|I.hok.fresh<|qM _]
def c5U(K:qB):R2:=λx y H Q=>∃a b Y ys,x=.ref a/\y=.ref b/\SqT K H a Y/\SqT K H b ys/\Y≠[]/\Y.length+ys.length<=j5/\(ys=[]->Q (.ref a) H)/\(ys≠[]->∀p,H p=Qb->Q (.ref p) (upd H p<|.tup<|Y++ys))
def bJ.nil_iff(r:bJ Y us):us=[]↔Y=[]:=by cases r with|nil=>simp|cons _ _=>simp
def c0h:OpR X (wz .Add) (c5U X.K):=by rintro B s U H x y v u Q I g f⟨a,b,Y,e,rfl,rfl,D,C,A,t,j,i⟩;cases g;cases f;let⟨r,c,p,_⟩:=I.tuple D;let⟨d,r2,k,_⟩:=I.tuple C;refine HT.cat_tup p k (λz=>A<|c.nil_iff.mp z) (λz=>#[.ref a,H,I,rfl,j<|r2.nil_iff.mp z]) (λz=>?_) (by rwa[<-c.length,<-r2.length]);exact#[.ref s.heap.objs.size,_,I.laid (t':=s.toks) (o:=.tup<|Y++e) (λb ob q=>qC _ q) (qM _) #[by rw[qY];exact t,_,c.append r2,IsTup.new _ _],rfl,i (λw=>z<|r2.nil_iff.mpr w) _<|I.hok.fresh<|qM _]
end
noncomputable def ixN(n:Nat)(i:Int):Option Nat:=if 0<=i then(if i<n then Qa i.toNat else Qb)else if-(n:Int)<=i then Qa (i+n).toNat else Qb
def atI{α:Type}(Y:List α)(i:Int):Option α:=(ixN Y.length i).bind λj=>Y[j]?
variable{i:Int}
def c0O{n:Nat}(h:ixN n i=Qa j):seqIndex? i n=Qa j/\j<n/\-(n:Int)<=i/\i<n:=by
 unfold ixN at h;by_cases b:0<=i
 .rw[if_pos b]at h;by_cases a:i<n;.rw[if_pos a]at h;have e:=qA h;exact#[by rw[seqIndex_of b a,e],by lia,by lia,a]
  .rw[if_neg a]at h;cases h
 .rw[if_neg b]at h;by_cases a:-(n:Int)<=i;.rw[if_pos a]at h;have e:=qA h;exact#[by rw[seqIndex_neg (by lia) a,e],by lia,a,by lia]
  .rw[if_neg a]at h;cases h
def a8z{Y:List α}{v:α}(h:atI Y i=Qa v):∃j,seqIndex? i Y.length=Qa j/\Y[j]?=Qa v/\j<Y.length/\-(Y.length:Int)<=i/\i<Y.length:=by unfold atI at h;cases e:ixN Y.length i with|none=>rw[e]at h;cases h|some j=>rw[e]at h;let⟨d,c,b,a⟩:=c0O e;exact#[j,d,h,c,b,a]
def b8V Y(v:α):atI (Y++[v]) (-1)=Qa v:=by
 have a:(Y++[v]).length=Y.length+1:=by simp
 have e:ixN (Y++[v]).length (-1)=Qa Y.length:=by unfold ixN;rw[a,if_neg (by decide),if_pos<|by lia];congr 1;lia
 unfold atI;rw[e];simp
def a8B(b:Expr):Prop:=∀o i,subscripted b Qd o i=operate [o,i] (getItem o i)
def IxR(X:Cx)(r:R2):Prop:=∀ value slice B s(U:St) H x y v u Q,Inv X B U H s->RelV x v->RelV y u->r x y H Q->subscripted slice Qd v u=operate [v,u] (getItem v u)->wpAny (model X.prog X.w) X.A (subscriptTail value slice v u) (EP X B U Q) X.xe s
def MtR(X:Cx)(id:String)(r:V->List V->Hp->VK->Prop):Prop:=∀ B s(U:St) H x Y v(us:T0m) Q,Inv X B U H s->RelV x v->bJ Y us->r x Y H Q->wpAny (model X.prog X.w) X.A (call (.builtin id) (v::us)) (EP X B U Q) X.xe s
variable{y:V}{v:Value}
section
variable{a:Expr}
def IxR.or{r e:R2}(h:IxR X r)(h':IxR X e):IxR X (λx y H Q=>r x y H Q\/e x y H Q):=by
 intro a b B s U H x y v u Q I d c q f;obtain q|q:=q;.exact h a b B s U H x y v u Q I d c q f
 .exact h' a b B s U H x y v u Q I d c q f
def c2j{r:R2}(g:IxR X r)(j:PE X a ta)(i:PE X b tb)(f:a8B b):PE X (.Subscript a b pos) (tOp r ta tb):=λB s U H Q I h=>Subscript_ (c5i j i I h λv u c x y o k e d q=>g a b B c U o x y v u Q k e d q<|f _ _)
def c5P(K:qB):R2:=λx y H Q=>∃p Y i v,x=.ref p/\y=.int i/\SqL K H p Y/\atI Y i=Qa v/\Q v H
def c5N(K:qB):R2:=λx y H Q=>∃p Y i v,x=.ref p/\y=.int i/\SqT K H p Y/\atI Y i=Qa v/\Q v H
def c5O:R2:=λx y H Q=>∃z i c,x=.str z/\y=.int i/\z.length<=j5/\atI z.cps.toList i=Qa c/\Q (.str #[(List.toArray [c])]) H
def c0M:IxR X (c5P X.K):=by
 intro c d B s U H x y v u Q I F E h o;let⟨p,Y,i,z,rfl,rfl,G,K,q⟩:=h;cases F;let⟨t,rfl⟩:=E;let⟨g,r,f,P⟩:=I.list G;let⟨j,b,N,S,M,L⟩:=a8z K;let⟨w,C,e⟩:=r.get N;have J:=r.length;have R:=a1R;have a:EP X B U Q w s:=#[z,H,I,e,q];by_cases A:0<=i
 .have k:i.toNat=j:=by rw[seqIndex_of A L]at b;exact qA b
  exact item_listR f.isList A (by lia) (by rw[k];simpa using C) a o
 .have k:(i+(g.toArray.size:Int)).toNat=j:=by rw[seqIndex_neg (by omega) M]at b;rw[qT,<-J];exact qA b
  exact yt (x:=w) f.isList.typeIs slot_list_getitem.lookup
   (wpAny_getItem_list_neg (Q:=λr D=>r=w/\EP X B U Q r D) f.isList (by omega) (by rw[qT]<;>lia) (by lia) (by rw[k];simpa using C) #[rfl,a]) o
def c4s:IxR X (c5N X.K):=by
 intro a b B s U H x y v u Q I k g h A;let⟨p,Y,i,z,rfl,rfl,C,E,q⟩:=h;cases k;let⟨t,rfl⟩:=g;let⟨o,r,e,J⟩:=I.tuple C;let⟨j,P,F,N,M,L⟩:=a8z E;let⟨w,G,c⟩:=r.get F;have D:=r.length;have K:=a1R;have d:EP X B U Q w s:=#[z,H,I,c,q];exact yt (x:=w) e.typeIs slot_tuple_getitem.lookup
  (getItem_tuple (j:=j) (Q:=λr f=>r=w/\EP X B U Q r f) e (by lia) (by lia) (by rwa[qT,<-D]) (by simpa using G) #[rfl,d]) A
def c4t:IxR X c5O:=by
 intro a b B s U H x y v u Q I f e h g;let⟨z,i,c,rfl,rfl,E,o,q⟩:=h;let⟨t,rfl⟩:=f;let⟨D,rfl⟩:=e;let⟨j,d,w,G,r,p⟩:=a8z o;have k:z.cps.toList.length=z.length:=by simp[vO]
 rw[k]at d r p;have F:=a1R;exact tail_any (yq s z t) slot_str_getitem.lookup (getItem_str (c:=c) (by have C:decide (i< -(2^63:Int))=false:=decide_eq_false (by lia);have A:decide (i>=2^63)=false:=decide_eq_false (by lia);rw[C,A,wD]) (by rw[d];simpa using w) #[.str #[(List.toArray [c])],H,I.tok _,#[_,rfl],q]) g
def rIx(K:qB):R2:=λx y H Q=>c5P K x y H Q\/c5N K x y H Q\/c5O x y H Q
def c4u:IxR X (rIx X.K):=c0M.or<|c4s.or c4t
def a7m lo hi n:(yg lo hi Qb n).1=((HT.sIx n 0 lo:Nat):Int)/\(yg lo hi Qb n).2.1=((HT.sIx n n hi:Nat):Int)/\(yg lo hi Qb n).2.2=1:=by
 refine#[?_,?_,rfl];.cases lo with|none=>simp[yg,HT.sIx]|some i=>
   simp only[yg,HT.sIx,Option.getD_none,if_true];by_cases h:i<0;.simp only[h,if_true]<;>omega
   .simp only[h,if_false]<;>omega
 .cases hi with|none=>simp[yg,HT.sIx]|some i=>
   simp only[yg,HT.sIx,Option.getD_none,if_true];by_cases h:i<0;.simp only[h,if_true]<;>omega
   .simp only[h,if_false]<;>omega
def a5r(its:T0m) lo hi:slicePick its.toArray lo hi Qb=((its.drop<|HT.sIx its.length 0 lo).take<|HT.sIx its.length its.length hi-HT.sIx its.length 0 lo).toArray:=by let⟨c,b,a⟩:=a7m lo hi its.toArray.size;unfold slicePick;rw[c,b,a];simp only[sliceRange_one,pick_run,qT]<;>rfl
def c7A(K:qB):V->Option Int->Option Int->Hp->VK->Prop:=λx lo hi H Q=>∃a Y,x=.ref a/\SqL K H a Y/\∀p,H p=Qb->Q (.ref p) (upd H p<|.lst<|b0f Y lo hi)
def b2u:SlR X (c7A X.K):=by rintro B s U H x v vl w d e y Q I g u j i⟨a,Y,rfl,t,q⟩;cases g;let⟨k,r,f,p⟩:=I.list t;have c:=r.length;refine#["list",_,slot_list_getitem.lookup,f.isList.typeIs,?_];refine wpAny_getItem_list_slice f.isList u j i .none (by simp) ?_ (by rw[qT]<;>lia);rw[a5r,<-c];exact#[.ref s.heap.objs.size,_,I.laid (t':=s.toks) (o:=.lst<|b0f Y d e) (λb ob q=>qC _ q) (qM _) #[qk (a2U Y d e) p,_,0,(r.drop<|HT.sIx Y.length 0 d).take<|HT.sIx Y.length Y.length e-HT.sIx Y.length 0 d,qP _ rfl],rfl,q _<|I.hok.fresh<|qM _]
noncomputable def tX:V->Bool|.non=>Qc|.bl _=>Qc|.int _=>Qc|.str _=>Qc|_=>Qd
noncomputable def eqV:V->V->Bool|.non,.non=>Qc|.bl a,.bl b=>a==b|.bl a,.int b=>(if a then 1 else 0)==b|.int a,.bl b=>a==(if b then 1 else 0)|.int a,.int b=>a==b|.str a,.str b=>a==b|_,_=>Qd
def c4F{x:V}(e:RelV y u)(c:RelV x v)(g:tX y=Qc)(f:tX x=Qc):SeqAt.EqAt A s u v (eqV y x):=by cases y with
 |non=>cases e;cases x with|non=>cases c;exact SeqAt.EqAt.same _|bl b=>cases c;exact SeqAt.EqAt.none_bool b|int b=>let⟨t,rfl⟩:=c;exact SeqAt.EqAt.none_int b t|str b=>let⟨t,rfl⟩:=c;exact SeqAt.EqAt.none_str b t|_=>exact absurd (show Qd=Qc from f) qg
 |bl a=>cases e;cases x with|non=>cases c;exact SeqAt.EqAt.bool_none a|bl b=>cases c;exact wE a b|int b=>let⟨t,rfl⟩:=c;exact SeqAt.EqAt.bool_int a b t|str b=>let⟨t,rfl⟩:=c;exact SeqAt.EqAt.bool_str a b t|_=>exact absurd (show Qd=Qc from f) qg
 |int a=>let⟨d,rfl⟩:=e;cases x with|non=>cases c;exact SeqAt.EqAt.int_none a d|bl b=>cases c;exact SeqAt.EqAt.int_bool a d b|int b=>let⟨t,rfl⟩:=c;exact SeqAt.EqAt.int_int a d b t|str b=>let⟨t,rfl⟩:=c;exact SeqAt.EqAt.int_str a d b t|_=>exact absurd (show Qd=Qc from f) qg
 |str a=>let⟨d,rfl⟩:=e;cases x with|non=>cases c;exact SeqAt.EqAt.str_none a d|bl b=>cases c;exact SeqAt.EqAt.str_bool a d b|int b=>let⟨t,rfl⟩:=c;exact SeqAt.EqAt.str_int a d b t|str b=>let⟨t,rfl⟩:=c;exact SeqAt.EqAt.str_str a d b t|_=>exact absurd (show Qd=Qc from f) qg
 |_=>exact absurd (show Qd=Qc from g) qg
def eqU(x:V)(u:Value):Bool:=match u with|.none=>eqV .non x|.bool b=>eqV (.bl b) x|.int i _=>eqV (.int i) x|.str z _=>eqV (.str z) x|_=>Qd
def b7W{x:V}(r:RelV y u)(f:tX y=Qc):eqU x u=eqV y x:=by cases y with|non=>cases r;rfl|bl b=>cases r;rfl|int i=>let⟨t,rfl⟩:=r;rfl|str z=>let⟨t,rfl⟩:=r;rfl|_=>exact absurd (show Qd=Qc from f) qg
theorem a1l{x:V}:∀{Y:List V}{us:T0m},bJ Y us->Y.all tX=Qc->us.any (eqU x)=Y.any λy=>eqV y x|_,_,.nil,_=>rfl|y::Y,u::us,.cons r t,f=>by rw[zi,qD]at f;rw[kD,kD,b7W r f.1,a1l t f.2]
theorem wV{A:Around}{s:Shared}{x:V}{v:Value}(b:RelV x v)(c:tX x=Qc):∀{Y:List V}{us:T0m},bJ Y us->Y.all tX=Qc->∀u∈us,SeqAt.EqAt A s u v (eqU x u)
 |_,_,.nil,_=>λu a=>by cases a|y::Y,u::us,.cons r t,f=>λd a=>by
  rw[zi,qD]at f;obtain rfl|a:=qI.mp a;.rw[b7W r f.1];exact c4F r b f.1 c
  .exact wV b c t f.2 d a
def inV(x:V)(Y:List V):Bool:=Y.any λy=>eqV y x
def rIn(K:qB)(neg:Bool):R2:=λx y H Q=>∃p Y,y=.ref p/\(SqL K H p Y\/SqT K H p Y)/\tX x=Qc/\Y.all tX=Qc/\Q (.bl<|if neg then !inV x Y else inV x Y) H
def a6s:OpR X (v9 .In) (rIn X.K Qd):=by
 rintro B s U H x y v u Q I e g⟨p,Y,rfl,b,f,fs,q⟩;cases g;obtain b|b:=b;.let⟨a,r,c,i⟩:=I.list b;refine SeqAt.in_listAt (eqU x) c.isList (λw d=>wV e f r fs w<|by simpa using d) #[.bl _,H,I,rfl,?_];rwa[show a.toArray.any (eqU x)=a.any (eqU x)by simp,a1l r fs]
 .let⟨a,r,c,i⟩:=I.tuple b;refine SeqAt.in_tupleAt (eqU x) c (λw d=>wV e f r fs w<|by simpa using d) #[.bl _,H,I,rfl,?_];rwa[show a.toArray.any (eqU x)=a.any (eqU x)by simp,a1l r fs]
def a0I:OpR X (v9 .NotIn) (rIn X.K Qc):=by
 rintro B s U H x y v u Q I e g⟨p,Y,rfl,b,f,fs,q⟩;cases g;obtain b|b:=b;.let⟨a,r,c,i⟩:=I.list b;refine SeqAt.notIn_listAt (eqU x) c.isList (λw d=>wV e f r fs w<|by simpa using d) #[.bl _,H,I,rfl,?_];rwa[show a.toArray.any (eqU x)=a.any (eqU x)by simp,a1l r fs]
 .let⟨a,r,c,i⟩:=I.tuple b;refine SeqAt.notIn_tupleAt (eqU x) c (λw d=>wV e f r fs w<|by simpa using d) #[.bl _,H,I,rfl,?_];rwa[show a.toArray.any (eqU x)=a.any (eqU x)by simp,a1l r fs]
def a1g:pC X (.builtin "len") (λY H Q=>∃p ys,Y=[.ref p]/\(SqL X.K H p ys\/SqT X.K H p ys)/\Q (.int ys.length) H):=by
 rintro B s U H Y i Q I r⟨p,ys,rfl,b,q⟩;let⟨u,rfl,f⟩:=vals1 r;cases f;have j:=a1R;obtain b|b:=b;.let⟨e,c,d,g⟩:=I.list b;have a:=c.length;exact Calls.call_len_list d.isList (by simp only[qT]<;>omega) #[.int ys.length,H,I.tok _,#[s.toks+1,by rw[qT,a]],q]
 .let⟨e,c,d,g⟩:=I.tuple b;have a:=c.length;exact len_tuple d (by simp only[qT]<;>omega) #[.int ys.length,H,I.tok _,#[s.toks+1,by rw[qT,a]],q]
def a8r:pC X (.builtin "len") (λY H Q=>∃z,Y=[.str z]/\z.length<=j5/\Q (.int z.length) H):=by rintro B s U H Y a Q I r⟨z,rfl,b,q⟩;let⟨u,rfl,t,rfl⟩:=vals1 r;have c:=a1R;exact len_str (by lia) #[.int z.length,H,I.tok _,#[_,rfl],q]
def yS:pC X (.type "tuple") (λY H Q=>∃p ys,Y=[.ref p]/\((SqL X.K H p ys/\∀l,H l=Qb->Q (.ref l) (upd H l<|.tup ys))\/(SqT X.K H p ys/\Q (.ref p) H))):=by
 rintro B s U H Y y Q I r⟨p,ys,rfl,h⟩;let⟨u,rfl,k⟩:=vals1 r;cases k;obtain⟨f,q⟩|⟨f,q⟩:=h;.let⟨a,c,d,g⟩:=I.list f;have i:=c.length;refine call_tuple_list d.isList (λv t=>?_) (by simp only[qT]<;>lia);have j:=I.kept (t':=s.toks) t;have w:=j.laid (t':=s.toks) (λb o e=>qC _ e) (qM _) (show eB X.prog X.w _ _ _ (.tup ys)from#[g,a,c,IsTup.new _ _]);exact#[.ref v.objs.size,_,w,rfl,q _<|j.hok.fresh<|qM _]
 .let⟨a,c,d,g⟩:=I.tuple f;exact call_tuple_same d #[.ref p,H,I,rfl,q]
def tyV(K:qB)(T:String)(x:V)(H:Hp):Prop:=match x with|.str _=>T="str"|.int _=>T="int"|.ref p=>(T="list"/\∃Y,SqL K H p Y)\/(T="tuple"/\∃o,K.lookup p=Qa o/\o.cls=.type "tuple"/\o.dict=Qb)\/(T="dict"/\((∃kvs,H p=Qa (.dK kvs))\/∃kvs,H p=Qa (.dT kvs)))\/(T="set"/\∃S n,H p=Qa (.set S n))|_=>False
def c2L{x:V}(I:Inv X B U H s)(r:RelV x v)(ty:tyV X.K T x H):
  s.TypeIs v T/\∀a,v=.ref a->∃ob,s.heap.get? a=Qa ob/\ob.dict=none:=by cases x with|str z=>let⟨t,rfl⟩:=r;cases(show T="str"from ty);exact#[yq s z t,λ_ e=>nomatch e]|int i=>let⟨t,rfl⟩:=r;cases(show T="int"from ty);exact#[typeIs_int s i t,λ_ e=>nomatch e]|ref p=>
  cases r;obtain⟨rfl,Y,q⟩|⟨rfl,o,b,u,f⟩|⟨rfl,b⟩|⟨rfl,S,n,b⟩:=ty;.let⟨k,_,j,_⟩:=I.list q;refine#[j.isList.typeIs,λa e=>?_];cases e;let⟨o,n,e,c,f,_⟩:=j;exact#[o,e,f]
  .refine#[#[o,I.kIn p o b,u],λa e=>?_];cases e;exact#[o,I.kIn _ o b,f]
  .have z:∃o,s.heap.get? p=Qa o/\o.ExactDict:=by
    obtain⟨d,b⟩|⟨d,b⟩:=b;.let⟨_,_,_,_,o,_,_,e,ex,_⟩:=I.hok p _ b;exact#[o,e,ex]
    .let⟨_,_,_,_,o,_,_,e,ex,_⟩:=I.hok p _ b;exact#[o,e,ex]
   let⟨o,e,ex⟩:=z;refine#[#[o,e,ex.1],λa g=>?_];cases g;exact#[o,e,ex.2.1]
  .let⟨o,_,_,_,e,ex,_⟩:=I.hok p _ b;refine#[#[o,e,ex.1],λa g=>?_];cases g;exact#[o,e,ex.2.1]|_=>exact qy ty
noncomputable def tBM(K:qB)(T:String)(r:V->List V->Hp->VK->Prop)(to:TE)(t:TA):TE:=λU H Q=>to U H λx H1=>tyV K T x H1/\t U H1 λY H2=>r x Y H2 Q
variable{to:TE}{t:TA}{id:String}{r:V->List V->Hp->VK->Prop}
abbrev U4(X:Cx)(c:Pos)(l:List Expr):Prop:=((j9 c<|j4 l X.env).all (λx=>!x.1)&&(wu c<|wc [] X.env).all (λx=>x.1.isSome)&&decide (l.length+([]:List Keyword).length+(if([]:List Keyword).isEmpty then 0 else 1)<30))=Qc
def b2I(pa:PlainAttrs T)(d:Slot T name id)(g:typeOf (.builtin id)=pure (.type "method_descriptor"))(D:MtR X id r)(C:PE X o to)(E:PA X (e::es) t)(c:U8 X o name:=by rfl)(f:U4 X cpos (e::es):=by rfl)(b:(apos.endLine==cpos.line)=true:=by rfl)(A:U5 X e es:=by rfl)(a:U6 X cpos es:=by rfl):PE X (.Call (.Attribute o name apos) (e::es) [] cpos) (tBM X.K T r to t):=by intro B s U H Q I h;refine wpAny_Call_method_late c f b rfl<|thn (C B s U H _ I h) ?_;rintro v w⟨x,L,k,i,ty,z⟩;let⟨G,F⟩:=c2L k i ty;refine#[T,id,pa,d,g,G,F,?_];have j:=E cpos B w U L _ k z;rw[A]at j⊢;exact vn (by show(Qd||(j9 cpos<|j4 es X.env).any (·.1))=Qd;rw[a]<;>rfl)<|zx<|thn j (by rintro q u⟨p,K,J,r2,y⟩;exact D B u U K x p v q Q J i r2 y)
end
def MtM(X:Cx)(id:String)(r:V->List V->Hp->VK->Prop):Prop:=∀ B s(U:St) H x Y v(us:T0m) Q,Inv X B U H s->RelV x v->bJ Y us->r x Y H Q->wpAny (model X.prog X.w) X.A (call (.builtin id) (v::us)) (EP X B U Q) X.xe s
def bJ.one:∀{x:V}{us:T0m},bJ [x] us->∃u,us=[u]/\RelV x u|_,_,.cons r .nil=>#[_,rfl,r]
theorem bJ.reverse{Y:List V}{us:T0m}(h:bJ Y us):bJ Y.reverse us.reverse:=by induction h with|nil=>exact .nil|cons r t a=>rw[vF,vF];exact bJ.append a<|.cons r .nil
theorem bJ.rep{Y:List V}{us:T0m}(h:bJ Y us):∀k:Nat,bJ (qx k Y).flatten (qx k us).flatten|0=>.nil|k+1=>by rw[kK,kK,qe,qe];exact bJ.append h<|bJ.rep h k
theorem foldl_rep(its:T0m):∀ k(a:T0m),List.foldl (λx1 b=>x1++b) a.toArray (qx k its.toArray)=(a++(qx k its).flatten).toArray
 |0,a=>by simp|k+1,a=>by
  have e:a.toArray++its.toArray=(a++its).toArray:=by simp
  have c:(a++its)++(qx k its).flatten=a++(qx (k+1) its).flatten:=by rw[kK,qe,jd]
  rw[<-c,<-foldl_rep its k (a++its),<-e,kK,List.foldl_cons]
section
variable{l b:Addr}{zs:List V}
def Inv.lset{its':T0m}{n:Nat}{f:Array Value->Array Value}(I:Inv X B U H s)(i:H l=Qa (.lst Y))(e:s.heap.get? l=Qa {cls:=.type "list",data:=.seq its.toArray n})(d:f its.toArray=its'.toArray)(b:bJ ys its')(a:ys.length<=j5):Inv X B U (upd H l<|.lst ys) {s with heap:=s.heap.update l<|kG f,toks:=t'}:=by have q:=PySem.IsL.update e f;rw[d]at q;exact I.write (x:=l) (e:=l) (by rw[i];exact trivial) (.inl rfl) (λj u g c=>(qv s.heap (kG f)<|jL g).trans c) #[_,q] #[a,its',_,b,q]
def Inv.lnew(I:Inv X B U H s)(b:bJ ys its)(a:ys.length<=j5):Inv X B U (upd H s.heap.objs.size<|.lst ys) {s with heap:=s.heap.push {cls:=.type "list",data:=.seq its.toArray},toks:=t'}:=I.laid (λ_ _ q=>qC _ q) (qM _) #[a,its,0,b,qP _ rfl]
theorem Inv.fresh(I:Inv X B U H s):H s.heap.objs.size=none:=I.hok.fresh<|qM _
def Inv.lstM(I:Inv X B U H s)(a:H l=Qa (.lst Y)):Y.length<=j5/\∃(its:T0m)(n:Nat),bJ Y its/\Y.length=its.length/\s.heap.get? l=Qa {cls:=.type "list",data:=.seq its.toArray n}:=by let⟨z,its,n,r,e⟩:=I.hok l _ a;exact#[z,its,n,r,r.length,e]
def a9t{n:Nat}(h:n<=j5):zP n=false:=by exact decide_eq_false (by lia)
end
def b9E:V->List V->Hp->VK->Prop:=λx vs H Q=>∃l Y y,x=.ref l/\vs=[y]/\H l=Qa (.lst Y)/\Y.length<j5/\Q .non (upd H l<|.lst<|Y++[y])
def a1N:MtM X "list.append" b9E:=by rintro B s U H x g v i Q I c d⟨l,Y,y,rfl,rfl,b,j,q⟩;cases c;let⟨u,rfl,f⟩:=d.one;let⟨z,a,n,r,k,e⟩:=I.lstM b;refine wv F.slot_list_append #[_,e,rfl] F.entry_list_append (F.args_list_append_2 _ _) (PySem.list_append l a.toArray n u<|by rw[qT];lia) #[e,?_];refine#[.non,_,I.lset (its':=a++[u]) b e (by simp) (r.append<|.cons f .nil) ?_,rfl,q];rw[qY,List.length_singleton];assumption
def c7C:R2:=λx y H Q=>∃l k Y,x=.ref l/\y=.int k/\H l=Qa (.lst Y)/\-(2^63)<=k/\k<2^63/\Y.length*k.toNat<=j5/\∀p,H p=Qb->Q (.ref p) (upd H p<|.lst (qx k.toNat Y).flatten)
def len_rep{a:Type}(Y:List a) k:(qx k Y).flatten.length=k*Y.length:=by induction k with|zero=>simp|succ k b=>rw[kK,qe,qY,b,Nat.succ_mul,Nat.add_comm]
def c3L:OpR X (wz .Mult) c7C:=by
 rintro B s U H x y v u Q I rx ry⟨l,k,Y,rfl,rfl,hH,h1,h2,hz,q⟩;cases rx;let⟨t,rfl⟩:=ry;let⟨z,its,n,r,hl,e⟩:=I.lstM hH;have hlen:its.toArray.size*k.toNat<=j5:=by rwa[qT,<-hl]
 have hcap:¬its.toArray.size*k.toNat>(2^63-1)/8:=by
  have:(j5:Nat)<=(2^63-1)/8:=by decide
  omega
 have hfit:¬(!Builtin.List.listFitsIndex k)=true:=by rw[fitsIndex_both h1 h2];exact qg
 have hlong:¬zP (its.toArray.size*k.toNat)=true:=by rw[a9t hlen];exact qg
 have hnew:List.foldl (λx1 x2=>x1++x2) (List.toArray []) (qx (if its.toArray.isEmpty=Qc then 0 else k.toNat) its.toArray)=(qx k.toNat its).flatten.toArray:=by
  have f0:∀m:Nat,List.foldl (λx1 x2=>x1++x2) (List.toArray []) (qx m its.toArray)=(qx m its).flatten.toArray:=λm=>by have:=foldl_rep its m [];rwa[zl]at this
  rw[f0];cases its with|nil=>simp|cons a r'=>rw[if_neg<|by simp]
 refine wpAny_binaryOp_repeat_ref (T:="list") (U:="int") (by decide) #[_,e,rfl] (λs'=>typeIs_int s' k t) noFill_list_mul F.fills_int_mul F.slot_int_rmul repeat_list F.slot_int_index.lookup
  (wv F.slot_int_rmul (typeIs_int s k t) F.entry_int_rmul (F.args_int_rmul_2 _ _) (int___rmul___int_list k t l its.toArray n)
   #[e,rfl,#[_,e,rfl],wv F.slot_list_mul #[_,e,rfl] F.entry_list_mul (F.args_list_mul_2 _ _) (AutoListH.list___mul___list_int_3 l its.toArray n k t hfit hcap hlong) #[e,?_]]);rw[hnew];exact#[.ref _,_,I.lnew (t':=s.toks) (r.rep k.toNat) (by rwa[len_rep,Nat.mul_comm]),rfl,q _ I.fresh]
end L2
namespace Att
open PySem PySem.W PySem.Calls PyProof.Rows
def a3a{P:Params}{h:Heap}:∀(ns:T0s)(vs:T0m),WellAll P h vs (ns.map WData.int)->IntsAre vs ns:=by intro ns;induction ns with|nil=>intro vs w;rw[vU]at w;cases w;exact .nil|cons n ns c=>intro vs w;rw[qE]at w;cases w with|cons a b=>cases a;exact .cons _ _<|c _ b
def b3X{l:OpenLaw}{n:Nat}(t:l.most=Qa n){P:Params}{h:Heap}{args:List WData}{vals:T0m}(b:l.row.toRowW.claim.pre args=Qc)(g:WellAll P h vals args):∃a vs ns,vals=[jC a]/\args=[WData.list<|ns.map WData.int]/\h.get? a=Qa {cls:=.type "list",data:=.seq vs.toArray}/\IntsAre vs ns/\ns.length<=n:=by
 have i:=(pre_splitW b).1;have u:=(pre_splitW b).2;let⟨d,r,rfl,y,w⟩:=hasAllW_cons i;obtain rfl:=hasAllW_nil w;let⟨Y,rfl,v⟩:=hasW_list y;let⟨ns,rfl⟩:=items_int v;have c:ns.length<=n:=by
  have j:(WTm.not<|.lt (.lit<|.int (n:Int))<|.len<|.arg 0).holds [] {args:=[.list<|ns.map .int]}=true:=by have j:=(holds_andW u).1;rwa[t]at j
  have f:=condW_of j<|w_not<|w_lt w_lit<|w_len_list<|w_arg rfl;rw[qF]at f;refine wQ λq=>?_;have p:(n:Int)<((ns.length:Nat):Int):=by omega
  first|(rw[decide_eq_true p]at f;exact absurd f<|by decide)|(simp at f;omega)
 cases g with|cons o k=>cases k;cases o with|list s e=>exact#[_,_,ns,rfl,rfl,s,a3a ns _ e,c]
def b4i(l:OpenLaw) args:l.row.toRowW.claim.post args (.bool Qc) args=true:=postW_of (r:=l.row.toRowW) (X:=(Qc==Qc))
  (show WShape.has [] (.bool Qc) .bool=Qc by first|rfl|decide|simp[WShape.armsAll])
  (show(WTm.eq .res<|.lit<|.bool Qc).value [] {args:=args,res:=Qa<|.bool Qc,after:=args}=Qa (.bool<|Qc==Qc)from w_eq_bool (w_res rfl) w_lit) rfl
def attach_call{l:OpenLaw}{n:Nat}{q:Program}{e:T0q}{E:(Str->Option Value)->Heap->Prop}{D:World->Heap->Prop}{d:DefRec}(J:l.most=Qa n)(v:d.params.defaults=[])(call:∀ w c b(mg s:T0d) fa o pm p doc a(vs:T0m)(ns:T0s),Ground q e [] E w c mg s b.heap->D w b.heap->b.heap.get? fa=Qa o->o.data=.func (docDef d.name d.params d.body d.scope pm p doc)->b.heap.CodeRec p d.name->mg d.name=Qa (.ref fa)->b.heap.get? a=Qa {cls:=.type "list",data:=.seq vs.toArray}->IntsAre vs ns->ns.length<=n->b.gens=(List.toArray [])->wm (model l.prog w) QF (.call (.ref fa) #[[.ref a],[]]) (λr s'=>r=.ok (.ret<|.bool Qc)/\OldK b.heap s'.heap/\s'.os=b.os/\uc s'.gens) b):WalkO q e E D l.row.toRowW d [] (λf vs=>PySem.call f vs):=by intro w c b mg s G T fa o pm p doc S kV I N y A u M C vals X i z F t L;obtain rfl:S=.none:=Dflts.none A v;obtain rfl:kV=.none:=Dflts.noKw A;let⟨a,vs,ns,rfl,rfl,j,g,k⟩:=b3X J i t;refine enter_call (wf (call w c b mg s fa o pm p doc a vs ns G T I (fd_plain N) y u j g k M) λr s' H=>?_);let⟨rfl,R,Q,P⟩:=H;exact#[.inl #[.bool Qc,.bool Qc,[],rfl,λ_=>rfl,.bool Qc,b4i l _,λ_=>#[List.Pairwise.nil,λ_ K=>(nomatch K)]],R,Q,P]
section
variable{K:Frag}
end
end Att
namespace L2
open PySem PySem.Spec PyProof.Rows
theorem a5Q:∀{vs:T0m}{ns:T0s},IntsAre vs ns->bJ (ns.map V.int) vs|_,_,.nil=>.nil|_,_,.cons n t h=>.cons #[t,rfl] (a5Q h)
def c8h(H:Hp):Prop:=∀b,H b=Qb\/∃o Y,H b=Qa (.frz o<|.lst Y)
noncomputable def fV(s:Stmt):Arguments:=match s with|.FunctionDef _ a _ _ _ _ _ _ _ _=>a|_=>{posonlyargs:=[],args:=[],vararg:=Qb,kwonlyargs:=[],kw_defaults:=[],kwarg:=Qb,defaults:=[]}
noncomputable def bU(s:Stmt):List Stmt:=match s with|.FunctionDef _ _ b _ _ _ _ _ _ _=>b|_=>[]
noncomputable def aD(s:Stmt):Scope:=match s with|.FunctionDef _ _ _ _ _ _ sc _ _ _=>sc|_=>{kind:=.function,names:=[],isGenerator:=Qd,isCoroutine:=Qd}
noncomputable abbrev CX0:CXT:=λ_ _ _ _ _ _=>False
noncomputable abbrev E0:XK:=λ_ _ _=>False
def b6C:a5h CX0 X E0:=λ_ _ _ _ _ _ _ h=>h.elim
structure Fun(K:qB)(x qual:Str)(st:Stmt)(f:Addr)(fd:wj):Prop where
 ex:∃(oc:Value)(od:T0k)(kV doc pm:Value)(an:T0k)(cdv ct:Value)(osl:Array (Option Value)),fd=jY x qual (fV st) (bU st) (aD st) .none kV doc pm an cdv ct/\K.lookup f=Qa #[oc,od,.func fd,osl]/\kz K cdv qual=Qc
 kp:jQ K (.ref f)=Qc
variable{f:Addr}
section
variable{K:qB}
def Fun.ok{x:Str}{sp:Sp}(F:Fun K x qual st f fd)(S:FnScope N ps (aD st))(len:∀vs H Q E,sp vs H Q E->vs.length=ps.length)(b:∀ cdv(A:Around)(a:List Env) s H(vs:List V) Q E,Room k (A.deeper<|wx qual (aD st) s.heap.objs.size f cdv)->sp vs H Q E->∃t,PSs (a2i CX0 P w K mg base N qual (aD st) f cdv A a s H E).nox (bU st) t/\t {nx:=λ_ H'=>Q .non H',rt:=Q} (start N vs) H):FnOk P w K mg base CX0 (k+1) f fd ps sp:=by let⟨r,p,kV,j,o,u,cdv,ct,e,rfl,g,d⟩:=F.ex;refine a4I g d S len λA a s H vs Q E i c=>?_;let⟨t,h,q⟩:=b cdv A a s H vs Q E i c;exact#[t,h.nox,q]
def Fun.binds{x:Str}(F:Fun K x qual st f fd)(h:∀ kV doc pm(an:T0k) cdv ct(us:T0m),us.length=ps.length->ye (jY x qual (fV st) (bU st) (aD st) .none kV doc pm an cdv ct) #[us,[]]=pure (ps.zip us)):Binds K fd ps []:=by let⟨d,c,kV,doc,pm,an,cdv,ct,a,rfl,e,b⟩:=F.ex;exact .all<|h kV doc pm an cdv ct
def a7Z{x:Str}{a:Array (Option Value)}{kV:Value}(l:K.lookup f=Qa #[oc,od,.func<|jY x qual (fV st) (bU st) (aD st) .none kV doc pm an cdv ct,a])(c:kz K cdv qual=Qc)(k:jQ K (.ref f)=Qc):Fun K x qual st f (jY x qual (fV st) (bU st) (aD st) .none kV doc pm an cdv ct):=#[#[oc,od,kV,doc,pm,an,cdv,ct,a,rfl,l,c],k]
end
def xQ{n:Nat}(h:n<=1000):n<j5:=zt h (by decide)
structure U0(X:Cx)(i:Nat)(x:Str):Prop where(a:X.N[i]?=Qa x)(b:Vis X.env.scope x)(c:(x==("__debug__":Str))=Qd)(d:(x==("__classdict__":Str))=Qd)
def U1{X:Cx}{i:Nat}{x:Str}(a:X.N[i]?=Qa x:=by rfl)(b:Vis X.env.scope x:=by first|exact jU rfl|exact qz (jU rfl)|exact qz (qz rfl))(c:(x==("__debug__":Str))=false:=by decide)(d:(x==("__classdict__":Str))=false:=by decide):U0 X i x:=#[a,b,c,d]
def pv i{x:Str}(a:U0 X i x:=by exact U1):PE X (.Name x pos) (c5A i):=dF a.1 a.2 a.3 a.4
def aW(H H':Hp):Prop:=∀b o,H b=Qa o->H' b=Qa o
def aW.refl H:aW H H:=λ_ _ h=>h
def aW.trans(a:aW H H1)(b:aW H1 H2):aW H H2:=λc o h=>b c o<|a c o h
def aW.free(e:aW H H'){l:Addr}(h:H' l=Option.none):H l=Option.none:=by cases q:H l with|none=>rfl|some o=>rw[e l o q]at h;cases h
def aW.seq{K:qB}(e:aW H H')(h:SqL K H a Y):SqL K H' a Y:=by
 obtain(h|⟨o,h⟩)|h:=h;.exact .inl (.inl<|e _ _ h)
 .exact .inl (.inr #[o,e _ _ h])
 .exact .inr h
def b1A{b a:Type}{l:List b}{f:b->a->Sem (ForInStep a)}{g:b->a->a}:∀ c,(∀x∈l,∀c,f x c=pure (.yield<|g x c))->(forIn l c f:Sem a)=pure (l.foldl (λc x=>g x c) c):=by induction l with|nil=>intro c _;rfl|cons x r d=>intro c h;rw[List.forIn_cons,h x qr];exact d _ λy e=>h y<|qG _ e
noncomputable def rR(env:Env)(p:Str×wy)(cs:T0f):List (Str×Addr):=if p.2=.free then(match env.cells.lookup p.1 with|some a=>(p.1,a)::cs|none=>cs)else cs
def a2m(scope:Scope)(env:Env):List (Str×Addr):=scope.names.foldl (λcs p=>rR env p cs) []
def gY(h:∀p∈scope.names,p.2=.free->∃c,env.cells.lookup p.1=Qa c):u7 scope env=pure (a2m scope env):=by
 simp only[u7];rw[b1A (g:=rR env) [] (λx d c=>by
  let⟨n,kind⟩:=x;by_cases b:kind=.free;.subst b;let⟨a,e⟩:=h _ d rfl;have f:=e;simp[rR,f,cellOf];try rfl
  .have i:(kind==kg)=false:=by simpa using b
   simp[rR,b])];rfl
theorem c2A:∀(b:List (Str×wy))(f:T0f),(∀x c,(x,c)∈f->env.cells.lookup x=Qa c)->∀x c,(x,c)∈b.foldl (λf p=>rR env p f) f->env.cells.lookup x=Qa c
 |[],f,h=>h|p::r,f,h=>by
  refine c2A r _ ?_;intro x c d;unfold rR at d;dsimp only at d;split at d
  .split at d
   .rename_i a e;obtain z|z:=qI.mp d;.cases z;exact e
    .exact h x c z
   .exact h x c d
  .exact h x c d
theorem b3u{q:Str×Addr}:∀(a:List (Str×wy))(b:T0f),q∈b->q∈a.foldl (λb p=>rR env p b) b
 |[],_,h=>h|p::r,b,h=>by
  refine b3u r _ ?_;unfold rR;dsimp only;split
  .split;.exact qG _ h
   .exact h
  .exact h
theorem b8H{x:Str}{c:Addr}(e:env.cells.lookup x=Qa c):∀(a:List (Str×wy))(b:T0f),(x,kg)∈a->(x,c)∈a.foldl (λb p=>rR env p b) b
 |[],_,h=>by simp at h|p::r,b,h=>by
  obtain z|z:=qI.mp h;.subst z;refine b3u r _ ?_;unfold rR;dsimp only;rw[if_pos rfl,e];exact qr
  .exact b8H e r _ z
theorem oS{b:Type}{x:Str}{c:b}:∀{l:List (Str×b)},(x,c)∈l->∃a,l.lookup x=Qa a
 |[],h=>by simp at h|(y,d)::r,h=>by
  by_cases e:x=y;.subst e;exact#[d,by simp]
  .have f:(x==y)=false:=by simpa using e
   obtain z|z:=qI.mp h;.cases z;exact absurd rfl e
   .let⟨a,q⟩:=oS z;exact#[a,by simp[kP,f,q]]
variable{c:Addr}
def a8l{x:Str}(h:(a2m scope env).lookup x=Qa c):env.cells.lookup x=Qa c:=c2A scope.names [] (λ_ _ z=>by simp at z) x c<|qw h
def a1d{x:Str}(hx:(x,kg)∈scope.names)(e:env.cells.lookup x=Qa c):(a2m scope env).lookup x=Qa c:=by let⟨a,q⟩:=oS<|b8H e scope.names [] hx;have:=a8l (scope:=scope) q;rw[e]at this;cases this;exact q
theorem nN{a:Env}(g:a.scope.kind=.function):∀{b:List (Str×wy)}{x:Str},b.lookup x=Qa .free->a.kindOf x=Qa .cell->(b.map λ(n,k)=>if(k==kg&&a.scope.kind==.function&&a.kindOf n==Qa .cell)then(n,vc)else(n,k)).lookup x=Qa .cell|[],_,h,_=>by simp at h|(n,k)::r,x,h,hk=>by have f:=@nN a g r x;show zS x ((if(k==kg&&a.scope.kind==.function&&a.kindOf n==Qa .cell)=Qc then(n,vc)else(n,k))::_)=_;cases c:x==n with
  |true=>
   simp only[kP,c]at h;have e:x=n:=by simpa using c
   subst e;cases h;have d:(kg==kg&&a.scope.kind==.function&&a.kindOf x==Qa vc)=true:=by rw[g,hk];rfl
   rw[if_pos d];simp|false=>
   simp only[kP,c]at h;by_cases d:(k==kg&&a.scope.kind==.function&&a.kindOf n==Qa .cell)=Qc;.rw[if_pos d];simp only[kP,c];exact f h hk
   .rw[if_neg d];simp only[kP,c];exact f h hk
theorem oB:∀ a n(b cl:T0f),v4 n a (b++cl)=v4 n a b++cl
 |[],_,_,_=>rfl|(x,k)::r,n,b,cl=>by
  unfold v4;split;.exact oB r (n+1) ((x,n)::b) cl
  .exact oB r n b cl
def iV names n(cl:T0f){x:Str}(h:(v4 n names cl).lookup x=Qa c):(v4 n names []).lookup x=Qa c\/((v4 n names []).lookup x=Qb/\cl.lookup x=Qa c):=by have e:=oB names n [] cl;rw[zl]at e;rw[e,zu]at h;cases q:(v4 n names []).lookup x with|some d=>rw[q]at h;exact .inl h|none=>rw[q]at h;exact .inr #[rfl,h]
def b0j names n(cl:T0f){x:Str}(h:cl.lookup x=Qa c):∃d,(v4 n names cl).lookup x=Qa d:=by have e:=oB names n [] cl;rw[zl]at e;rw[e,zu];cases q:(v4 n names []).lookup x with|some d=>exact#[d,rfl]|none=>exact#[c,h]
def b0k names n(cl:T0f){x:Str}(a:(v4 n names []).lookup x=Qb)(h:cl.lookup x=Qa c):(v4 n names cl).lookup x=Qa c:=by have e:=oB names n [] cl;rw[zl]at e;rwa[e,zu,a]
def b0l names n(cl:T0f){x:Str}(h:(v4 n names []).lookup x=Qa c):(v4 n names cl).lookup x=Qa c:=by have e:=oB names n [] cl;rw[zl]at e;rw[e,zu,h];rfl
theorem a2o:∀ a n(b:T0f){x:Str}{c:Addr},(x,c)∈v4 n a b->(x,c)∈b\/(x,vc)∈a
 |[],_,_,_,_,h=>.inl h|(y,k)::r,n,b,x,c,h=>by
  unfold v4 at h;split at h
  .rename_i e;have d:k=.cell:=by simpa using e
   rcases a2o r (n+1) ((y,n)::b) h with z|z
   .obtain z|z:=qI.mp z;.cases z;subst d;exact .inr qr
    .exact .inl z
   .exact .inr (qG _ z)
  .obtain z|z:=a2o r n b h;.exact .inl z
   .exact .inr<|qG _ z
def c1R{cl:T0f}{a:Env}{Q:Env->Shared->Prop}(e:Q (newEnv scope s.heap.objs.size globals (v4 (s.heap.objs.size+1) scope.names cl) qual Qb .none (Qa a) yy) {s with heap:=QH (s.heap.push {cls:=.type "dict",data:=.dict<|List.toArray []}) scope.names}):wpAny M A (yf scope globals cl [] qual Qb .none<|Qa a) Q E s:=by simp only[yf,Option.isSome_some,if_true];refine j0<|wpAny_alloc ?_;refine j0<|wpAny_layCells _ (λc kind b=>by cases d:kind==vc<;>rfl) _ _ _ _ ?_;rw[show({s with heap:=s.heap.push {cls:=.type "dict",data:=.dict<|List.toArray []}}:Shared).heap.objs.size=s.heap.objs.size+1 from jr ..];exact j0<|j3<|j3 e
structure Blk(X:Cx)(scope:Scope)(N':T0q)(cap:T0e):Prop where
 kind:scope.kind=.function
 cells:∀y∈scope.names,y.2=.cell->scope.names.lookup y.1=Qa .cell
 names:∀y∈scope.names,y.2=.local->scope.names.lookup y.1=Qa .local
 free:∀y∈scope.names,y.2=.free->X.env.kindOf y.1=Qa .cell
 caps:∀(i j:Nat),cap[i]?=Qa (Qa j)->∃x,N'[i]?=Qa x/\X.N[j]?=Qa x/\scope.names.lookup x=Qa .free
 len:cap.length=N'.length
 nd:N'.Nodup
noncomputable def iH(cap:T0e)(U:St):St:=cap.map λo=>match o with|some j=>(U[j]?).getD Qb|none=>Qb
def cZ(X:Cx)(scope:Scope)(N':T0q)(C:Addr)(s3z:Shared)(H3z:Hp)(fp:T0o):Cx:={X with env:=QE scope (v4 (C+1) scope.names<|a2m scope X.env) C X.env,N:=N',s₀:=s3z,H₀:=H3z,outer:=X.stack,ex:=fp,fn:=λx=>decide (scope.names.lookup x=Qa .cell),pn:=[],xe:=λ_ _=>False}
def c1Q{cap:T0e}{m':T0d}(B0:Blk X scope N' cap)(I:Inv X B U H s)(M:∀b∈fp,a2w X B H b)(E:∀b∈fp,b<s.heap.objs.size)(hn:h'.Ns s.heap.objs.size m')(L:U9 s.heap h')(ow:CellsOk h' (s.heap.objs.size+1) (v4 (s.heap.objs.size+1) scope.names [])):Inv (cZ X scope N' s.heap.objs.size s H fp) [] (iH cap U) H {s with heap:=h',toks:=tk}:=by
 have cl:∀x c,(a2m scope X.env).lookup x=Qa c->X.env.cells.lookup x=Qa c:=λx c h=>a8l h;have D:∀x c,X.env.cells.lookup x=Qa c->c<s.heap.objs.size:=λx c e=>by let⟨v,q⟩:=I.cell x c e;exact q.lt
 have own:∀x c,(v4 (s.heap.objs.size+1) scope.names []).lookup x=Qa c->h'.IsCell c Qb/\s.heap.objs.size<c:=λx c e=>by let⟨C,A⟩:=ow.empty x c<|qw e;exact#[C,qX (za _) A]
 refine#[#[I.ok.mod,B0.kind,I.ok.glob,I.ok.blt,qM _,?_,?_,?_,I.ok.hd,I.ok.frames,.inl rfl,?_,I.bs,qk I.ok.bsz I.sz,?_,?_,I.stack,I.stkFree],rfl,I.bare,Un.kept L,#[m',hn,?_],?_,I.hok.fresh<|qM _,?_,?_,I.hok.kept L,?_]
 .intro x y c N h2;obtain K|⟨_,K⟩:=iV _ _ _ N<;>obtain J|⟨_,J⟩:=iV _ _ _ h2;.exact name_of_addr ow.apart (qw K) (qw J)
  .exact absurd (D y c<|cl y c J) (wP (own x c K).2)
  .exact absurd (D x c<|cl x c K) (wP (own y c J).2)
  .exact I.ok.inj x y c (cl x c K) (cl y c J)
 .intro x w;have w:=w;have Q:∃k,(relabel scope X.env).names.lookup x=Qa k/\(k=.cell\/k=.free):=by
   obtain h|h:=w;.exact#[_,h,.inl rfl]
   .exact#[_,h,.inr rfl]
  let⟨k,hk1,T⟩:=Q;let⟨⟨n,R⟩,S,F⟩:=qR.mp<|qw hk1;have fr:(R=.free\/R=.cell)/\n=x:=by
   dsimp only at F;by_cases g:(R==kg&&X.env.scope.kind==.function&&X.env.kindOf n==Qa .cell)=Qc;.rw[if_pos g]at F;cases F;simp only[qD]at g;exact#[.inl (by simpa using g.1.1),rfl]
   .rw[if_neg g]at F;cases F;obtain z|z:=T;.exact#[.inr z,rfl]
    .exact#[.inl z,rfl]
  let⟨hk0,rfl⟩:=fr;obtain rfl|rfl:=hk0;.let⟨c,e⟩:=I.ok.has n<|.inl<|B0.free _ S rfl;exact b0j _ _ _ (a1d S e)
  .let⟨c,e⟩:=a1e (sc:=scope) (n:=s.heap.objs.size+1)<|B0.cells _ S rfl;exact#[c,b0l _ _ _ e]
 .intro x c w e;have w:=of_decide_eq_true w;obtain e|⟨n0,_⟩:=iV _ _ _ e;.exact jg (own x c e).2
  .let⟨d,q⟩:=a1e (sc:=scope) (n:=s.heap.objs.size+1) w;rw[q]at n0;cases n0
 .intro b t;refine#[qd<|E b t,λx c e=>?_];obtain e|⟨_,e⟩:=iV _ _ _ e;·exactλz=>absurd (E b t) (wP<|by rw[<-z];exact(own x c e).2)
  .exact(M b t).2.2.2.2.1 x c (cl x c e)
 .intro b o e t;rcases(M b t).2.2.2.1 with z|z;.exact I.ok.noex b o e z
  .exact absurd (qX (qQ e)<|qk I.ok.bsz z) (jl _)
 .intro b t hfs;rcases qI.mp (I.stkSub b hfs)with z|z;.exact(M b t).2.1 z
  .exact(M b t).2.2.1 z
 .intro i x v e1 f _;have e1:N'[i]?=Qa x:=e1;have f:=f;unfold iH at f;rw[qS]at f;cases g:cap[i]? with|none=>rw[g]at f;cases f|some o=>rw[g]at f;cases o with|none=>cases f|some j=>
    have P:(U[j]?).getD Qb=Qa v:=qA f;have e4:U[j]?=Qa (Qa v):=by cases q:U[j]? with|none=>rw[q]at P;cases P|some w'=>rw[q]at P;have:w'=Qa v:=P;rw[this]
    let⟨y,N,h2,G⟩:=B0.caps i j g;rw[e1]at N;cases N;have a:=B0.free _ (qw G) rfl;let⟨m,_,hl⟩:=I.loc;let⟨u,r,l⟩:=hl j x v h2 e4<|.inr<|.inl a;refine#[u,r,?_];obtain⟨k,_⟩|⟨_,c,e,z⟩:=l;.rw[a]at k;cases k
    .refine .inr #[.inl ?_,c,b0k _ _ _ ?_<|a1d (qw G) e,?_];.exact nN I.ok.kind G a
     .cases q:(v4 (s.heap.objs.size+1) scope.names []).lookup x with|none=>rfl|some d=>
       rcases a2o _ _ _ (qw q)with z|z;.cases z
       .rw[B0.cells _ z rfl]at G;cases G
     .let⟨o,C,A⟩:=z;exact#[o,L c o C,A]
 .intro x c e;obtain e|⟨_,e⟩:=iV _ _ _ e;.exact#[Qb,(own x c e).1]
  .let⟨v,o,C,A⟩:=I.cell x c<|cl x c e;exact#[v,o,L c o C,A]
 .intro x c e;obtain e|⟨_,e⟩:=iV _ _ _ e;.exact I.hok.fresh (jg (own x c e).2)
  .exact I.freeC x c (cl x c e)
 .intro p hp;exact absurd (show p∈([]:T0b)from hp) (by simp)
 .unfold iH;rw[qF];exact B0.len
def PTs(X:Cx)(ifs:T0n)(t:TT):Prop:=∀ B s(U:St) H Q,Inv X B U H s->t U H Q->wpAny (model X.prog X.w) X.A (forIn ifs Qc λc r=>if r=Qc then do let ok<-isTrue c X.env (eval c X.env);pure (ForInStep.yield ok)else pure (ForInStep.yield r)) (TP X B U Q) X.xe s
noncomputable def c7q:TT:=λ_ H Q=>Q Qc H
def b9J:PTs X [] c7q:=λ_ _ _ H _ I h=>wpAny_tests_nil #[H,I,h]
def b9I{c:Expr}{t:TT}(h:PT X c t):PTs X [c] t:=λB s U H Q I a=>wpAny_tests_one<|h B s U H Q I a
def yU(J:It)(g:TG)(tc:TT)(te:TE)(σ0:St)(H:Hp)(Q:VK):Prop:=∃W:Addr->Nat->Nat->List V->St->Hp->Prop,∀D,H D=Qb->(∃m,W D 0 m [] σ0<|upd H D<|.lst [])/\∀i m ys σ1 H1,W D i m ys σ1 H1->H1 D=Qa (.lst ys)->(J.stop i H1/\Q (.ref D) H1)\/(J.go i H1/\∀x H2,J.yld i H1 x H2->g x σ1 H2 λσ3 H3=>tc σ3 H3 λb H4=>if b=Qc then te σ3 H4 λv H5=>H5 D=Qa (.lst ys)/\ys.length<j5/\∃m',m'<m/\W D (i+1) m' (ys++[v]) σ3 (upd H5 D<|.lst<|ys++[v])else H4 D=Qa (.lst ys)/\∃m',m'<m/\W D (i+1) m' ys σ3 H4)
variable{tn:Nat->Heap->Prop}{g:TG}{Q:VK}
def a2k(XE:Addr->Shared->Hp->List Addr->Value->Shared->Prop){cap:T0e}{RR:Value->Addr->Result->Shared->Prop}(hc:X.calm=Qc)(B0:Blk X scope N' cap)(I:Inv X B U H s)(T:Turn X.prog X.w X.K tg J fp it tn)(st:tn 0 s.heap)(hf:∀b∈fp,a2w X B H b)(hg:∀C a j fp,PG (cZ X scope N' C a j fp) tg g)(ht:∀C a j fp,PTs (cZ X scope N' C a j fp) ifs tc)(he:∀C a j fp,PE ((cZ X scope N' C a j fp).wish<|XE C a j fp) elt te)(w:yU J g tc te (iH cap U) H Q)(hx:∀D a j e s',Inv X B U j a->(∀b∈fp,a2w X B j b)->H D=Qb->j=upd H D (.lst [])->s.heap.objs.size<=a.heap.objs.size->XE a.heap.objs.size a j fp e s'->notedBy (model X.prog X.w) X.A (QE scope (v4 (a.heap.objs.size+1) scope.names<|a2m scope X.env) a.heap.objs.size X.env) (λx s'=>RR (.ref D) a.heap.objs.size (.error x) s') e s')(fin:∀D C s' H' N,s.heap.get? C=Qb->s.heap.objs.size<=C->s'.heap.Ns C N->H' C=Qb->Inv X B U H' s'->Q (.ref D) H'->RR (.ref D) C (.ok .next) s'):wpAny (model X.prog X.w) X.A (newList []) (λacc a=>wpAny (model X.prog X.w) X.A (yf scope X.env.globals (a2m scope X.env) [] X.env.qual Qb .none<|Qa X.env) (λG s4z=>G.frame=X.env.frame/\wm (model X.prog X.w) X.A (.compStart (.ListComp elt [#[tg,iter,ifs,0]] scope pos) 0 (.ref it) acc {G with scope:=relabel scope X.env}) (RR acc G.locals) s4z) X.xe a) X.xe s:=by
 refine v5<|c1R ?_;let⟨W,hW⟩:=w;have hD:=I.hok.fresh<|qM _;let⟨⟨m0,w0⟩,turn⟩:=hW s.heap.objs.size hD;have I3:=I.lnew (its:=[]) (ys:=[]) (t':=s.toks) .nil<|jJ _;generalize hH2:s.heap.push {cls:=.type "list",dict:=Qb,data:=.seq ([]:T0m).toArray}=H2 at I3⊢;have hC:H2.objs.size=s.heap.objs.size+1:=by rw[<-hH2,jr]
 have lt3:∀b∈fp,b<s.heap.objs.size:=λb f=>by let⟨o,e,_⟩:=T.obj 0 _ st b f;exact qQ e
 have M:∀b∈fp,a2w X B (upd H s.heap.objs.size<|.lst []) b:=λb f=>by refine#[?_,(hf b f).2];rw[aF<|qd<|lt3 b f];exact(hf b f).1
 have ow:CellsOk (QH (H2.push {cls:=.type "dict",data:=.dict<|List.toArray []}) scope.names) (H2.objs.size+1) (v4 (H2.objs.size+1) scope.names []):=by have ok:=cellsFrom_ok scope.names (H2.push {cls:=.type "dict",data:=.dict<|List.toArray []}) (H2.objs.size+1) [] #[λ_ _ hm=>(nomatch hm),List.Pairwise.nil] (by rw[jr];exact qM _);rwa[jr]at ok
 have R:(QH (H2.push {cls:=.type "dict",data:=.dict<|List.toArray []}) scope.names).Ns H2.objs.size λ_=>none:=(Heap.Ns.new H2<|.type "dict").keeps<|pushCells_keeps _ _;have keep:∀b o,H2.get? b=Qa o->(QH (H2.push {cls:=.type "dict",data:=.dict<|List.toArray []}) scope.names).get? b=Qa o:=λb o e=>pushCells_keeps _ _ b o<|qC _ e;generalize QH (H2.push {cls:=.type "dict",data:=.dict<|List.toArray []}) scope.names=h1z at ow R keep⊢;have I4:Inv (cZ X scope N' H2.objs.size {s with heap:=H2} (upd H s.heap.objs.size<|.lst []) fp) [] (iH cap U) (upd H s.heap.objs.size<|.lst []) {s with heap:=h1z}:=c1Q (s:={s with heap:=H2}) B0 I3 M (λb f=>by rw[hC];exact kI<|lt3 b f) R keep ow;have st4:=T.keep 0 _ _ st λb f o e=>keep b o (by rw[<-hH2];exact qC _ e);have P:∀s5z:Shared,s5z={s with heap:=h1z}->wm (model X.prog X.w) X.A (.compLoop (.ListComp elt [#[tg,iter,ifs,0]] scope pos) 0 (.ref it) (.ref s.heap.objs.size)<|QE scope (v4 (H2.objs.size+1) scope.names<|a2m scope X.env) H2.objs.size X.env)
    (RR (.ref s.heap.objs.size) H2.objs.size) s5z:=by
  rintro s5z rfl;refine codeAny_loop rfl (λn s'=>∃i ys k H',Inv (cZ X scope N' H2.objs.size {s with heap:=H2} (upd H s.heap.objs.size<|.lst []) fp) [] k H' s'/\tn i s'.heap/\(∀b∈fp,H' b=Qb)/\H' s.heap.objs.size=Qa (.lst ys)/\W s.heap.objs.size i n ys k H') ?_ m0
   #[0,[],_,_,I4,st4,λb f=>(M b f).1,aK,w0];rintro n s6⟨i,ys,σ6,H6,I6,st6,fr6,hD6,w6⟩;refine wpAny_noted ?_;rw[compTurn_list];have A:∀{H':Hp},(∀b∈fp,H' b=Qb)->∀b∈fp,a2w (cZ X scope N' H2.objs.size {s with heap:=H2} (upd H s.heap.objs.size<|.lst []) fp) [] H' b:=λhn b f=>#[hn b f,qd (by rw[hC];exact kI<|lt3 b f),I4.ok.exfs b f,.inl f,λx c e=>(I4.ok.exf b f).2 x c e,λp hp=>absurd (show p∈([]:T0b)from hp)<|by simp];obtain⟨stop,qn⟩|⟨go,step⟩:=turn i n ys σ6 H6 w6 hD6
  .refine j0<|yd<|j0<|thn (T.done (cZ X scope N' H2.objs.size {s with heap:=H2} (upd H s.heap.objs.size<|.lst []) fp) rfl rfl rfl hc i [] s6 _ H6 _ I6 (A fr6) st6 stop) ?_;rintro r s7⟨hr,I7⟩;subst hr;refine j3 ?_;let⟨m7,hn7,_⟩:=I7.loc;refine fin _ _ s7 H6 m7 ?_ ?_ hn7 I7.free ?_ qn;.exact zF (by rw[hC];exact ki _)
   .rw[hC];exact ki _
   .refine I3.call' (ch:=fp) ?_ ?_ I7.hok I7.bare λb f=>?_;.exact I7.os
    .exact I7.base
    .let⟨f0,f1,f2,f3,f4,f5⟩:=M b f;exact#[f3,f1,f4,f5]
  .refine j0<|yd<|j0<|thn (T.item (cZ X scope N' H2.objs.size {s with heap:=H2} (upd H s.heap.objs.size<|.lst []) fp) rfl rfl rfl hc i [] s6 _ H6 _ I6 (A fr6) st6 go) ?_;rintro r s7⟨u,hr,h7⟩;subst hr;refine j0<|thn h7 ?_;rintro _ s8⟨x,H8,I8,r8,y8,st8,fr8⟩;have I8':=I8.pinned (A fr8)<|T.obj _ _ st8;have bad:∀{α:Type}{t:Sem α}{Q':α->Shared->Prop}{s':Shared}{E:T0a},wpAny (model X.prog X.w) X.A t Q' (λ_ _=>False) s'->wpAny (model X.prog X.w) X.A t Q' E s':=λh=>v0 h (λ_ _ q=>q) λ_ _ z=>z.elim;refine j0<|bad<|thn (hg _ _ _ _ _ s8 _ H8 x u _ I8' r8<|step x H8 y8) ?_;rintro _ s9⟨S,H9,I9,q9⟩;refine j0<|bad<|thn (ht _ _ _ _ _ s9 S H9 _ I9 q9) ?_;rintro ok s10⟨H10,I10,q10⟩;have K:∀{k:St}{H':Hp}{L:List V}{s':Shared}{N:Nat},Inv (cZ X scope N' H2.objs.size {s with heap:=H2} (upd H s.heap.objs.size<|.lst []) fp) ([]++a4d fp s8.heap) k H' s'->H' s.heap.objs.size=Qa (.lst L)->N<n->W s.heap.objs.size (i+1) N L k H'->∃m,m<n/\∃i ys k H',Inv (cZ X scope N' H2.objs.size {s with heap:=H2} (upd H s.heap.objs.size<|.lst []) fp) [] k H' s'/\tn i s'.heap/\(∀b∈fp,H' b=Qb)/\H' s.heap.objs.size=Qa (.lst ys)/\W s.heap.objs.size i m ys k H':=λ{k H' L s' N}J' hD' F w'=>by refine#[N,F,i+1,L,k,H',J'.unpinned,T.keep _ _ _ st8 λb f o e=>(J'.pin (b,o)<|qi _<|qi _<|tI f e).1,λb f=>?_,hD',w'];let⟨o,e,d⟩:=T.obj _ _ st8 b f;exact(J'.pin (b,o)<|qi _<|qi _<|tI f e).2.1
   cases ok with|false=>let⟨hD10,N,F,w'⟩:=q10;exact j3 #[rfl,K I10 hD10 F w']|true=>refine j0<|j0 (v0 (he _ _ _ _ _ s10 S H10 _ (I10.wish _) q10) (?_) λe s' z=>hx _ {s with heap:=H2} _ e s' I3 M hD rfl (by rw[hC];exact ki _) z);rintro y s11⟨v,H11,I11w,r11,hD11,hlen,N,F,w'⟩;have I11:=I11w.unwish;refine j0<|bad<|thn (a1N (X:=cZ X scope N' H2.objs.size {s with heap:=H2} (upd H s.heap.objs.size<|.lst []) fp) _ s11 S H11 (.ref s.heap.objs.size) [v] (.ref s.heap.objs.size) [y] (λ_ H'=>H'=upd H11 s.heap.objs.size (.lst<|ys++[v])) I11 rfl (.cons r11 .nil) ⟨_,_,_,rfl,rfl,hD11,hlen,rfl⟩) ?_;rintro _ s12⟨_,H12,I12,_,e12⟩;subst e12;exact j3 (j3 #[rfl,K I12 aK F w'])
 exact#[rfl,codeAny_compStart_list (P _ rfl)<|T.self _ 0 _ _ _ st4<|P _ rfl]
def b0g{cap:T0e}{RR:Value->Addr->Result->Shared->Prop}(r:X.calm=Qc)(B0:Blk X scope N' cap)(I:Inv X B U H s)(T:Turn X.prog X.w X.K tg J fp it tn)(st:tn 0 s.heap)(p:∀b∈fp,a2w X B H b)(o:∀C a c fp,PG (cZ X scope N' C a c fp) tg g)(k:∀C a c fp,PTs (cZ X scope N' C a c fp) ifs tc)(q:∀C a c fp,PE (cZ X scope N' C a c fp) elt te)(w:yU J g tc te (iH cap U) H Q)(i:∀D C s' H' j,s.heap.get? C=Qb->s.heap.objs.size<=C->s'.heap.Ns C j->H' C=Qb->Inv X B U H' s'->Q (.ref D) H'->RR (.ref D) C (.ok .next) s'):wpAny (model X.prog X.w) X.A (newList []) (λe a=>wpAny (model X.prog X.w) X.A (yf scope X.env.globals (a2m scope X.env) [] X.env.qual Qb .none<|Qa X.env) (λd f=>wm (model X.prog X.w) X.A (.compStart (.ListComp elt [#[tg,iter,ifs,0]] scope pos) 0 (.ref it) e {d with scope:=relabel scope X.env}) (RR e d.locals) f) X.xe a) X.xe s:=v0 (a2k (λ_ _ _ _ _ _=>False) r B0 I T st p o k q w (λ_ _ _ _ _ _ _ _ _ _ z=>z.elim) i) (λ_ _ h=>v0 h (λ_ _ z=>z.2) λ_ _ z=>z) λ_ _ z=>z
def c2d(wi:TI)(cap:T0e)(g:TG)(tc:TT)(te:TE):TE:=λU H Q=>wi U H λJ H1=>yU J g tc te (iH cap U) H1 Q
section
variable{cap:T0e}
def b2H(P:X.calm=Qc)(B0:Blk X scope N' cap)(hi:PI X tg iter wi)(M:∀C a d fp,PG (cZ X scope N' C a d fp) tg g)(F:∀C a d fp,PTs (cZ X scope N' C a d fp) ifs tc)(N:∀C a d fp,PE (cZ X scope N' C a d fp) elt te)(G:∀x,v6 iter X.env x=pure x:=by intro _;rfl):PE X (.ListComp elt [#[tg,iter,ifs,0]] scope pos) (c2d wi cap g tc te):=by
 intro B s U H Q I h;rw[eval_ListComp];refine wpAny_comprehension_free (use:=Qb) rfl G (gY λp r L=>I.ok.has p.1<|.inl<|B0.free p r L) B0.kind B0.names ?_;refine thn (hi B s U H _ I h) ?_;rintro v s1 S;refine thn S ?_;rintro E s2⟨it,fp,tn,J,H2,e,j,T,k,f2,w⟩;subst e;refine b0g (RR:=λu C=>compPost (model X.prog X.w) X.A X.xe Qb (EP X B U Q) u C) P B0 j T k f2 M F N w ?_;intro D C y H' A hC i K t I' q;refine#[A,K,λh'' f=>#[.ref D,H',?_,rfl,q]];refine I'.turned (t':=y.toks) (it:=C) (λb o R e=>f.extBut b o R e) t ?_ (.inr<|qk j.sz i) ?_ ?_;.exact kc (qX j.lt i)
 .intro x c e z;let⟨v,q⟩:=j.cell x c e;exact absurd (qX q.lt<|by rwa[z]) (jl _)
 .intro p r z;exact absurd (qX (qQ (j.pin p r).1)<|by rwa[z])<|jl _
def b2D{x:Str}(hN:X.N.Nodup)(A:X.N[i]?=Qa x)(hx:X.env.scope.names.lookup x=Qa .local)(hc:X.calm=Qc)(B0:Blk X scope N' cap)(hi:PI X tg iter wi)(hg:∀C d f fp,PG (cZ X scope N' C d f fp) tg g)(ht:∀C d f fp,PTs (cZ X scope N' C d f fp) ifs tc)(he:∀C d f fp,PE (cZ X scope N' C d f fp) elt te)(E:wa (.ListComp elt [#[tg,iter,ifs,0]] scope pos) (Qa<|.Name x pos') spos.line X.env=pure Qc)(hs:∀x,v6 iter X.env x=pure x:=by intro _;rfl):PS X (.Assign [.Name x pos'] (.ListComp elt [#[tg,iter,ifs,0]] scope pos) spos) (c5H (c2d wi cap g tc te)<|b7J i):=by
 intro B s U H N I h;rw[exec_Assign_Name_used _ _ _ _ E];refine j0<|yd<|j0 ?_;refine j0 (v0 (wpAny_comprehension_free (use:=Qa<|assign (.Name x pos') X.env) (Q:=λ_ j=>SP X B N .next j) rfl hs (gY λp G hk=>I.ok.has p.1<|.inl<|B0.free p G hk) B0.kind B0.names ?_) (λ_ j hq=>j3<|j3 hq) λ_ _ e=>e);refine thn (hi B s U H _ I h) ?_;rintro v s1 h1;refine thn h1 ?_;rintro itv s2⟨it,fp,tn,J,H2,e,t,T,u,f2,w⟩;subst e;refine b0g (RR:=λL C=>compPost (model X.prog X.w) X.A X.xe (Qa<|assign (.Name x pos') X.env) (λ_ j=>SP X B N .next j) L C) hc B0 t T u f2 hg ht he w ?_;intro D C j H' S hC r hn K I' q;have R:=kc<|qX t.lt r;have M:∀y c,X.env.cells.lookup y=Qa c->c≠C:=λy c e z=>by let⟨v,q⟩:=t.cell y c e;exact absurd (qX q.lt<|by rwa[z]) (jl _)
 refine wpAny_assign_Name<|a6a (v:=.ref D) I' hN A (.inl hx) rfl (?_)<|.inr hx;rintro P I3⟨a,F,ha⟩;have ne:C≠a:=by
  obtain z|z:=ha;.rwa[z]
  ·exactλy=>M x a z y.symm
 refine#[S,hn.sameBut F ne,λh'' k=>#[_,H',?_,q]];refine I3.turned (t':=P.toks) (it:=C) (λb o hb e=>k.extBut b o hb e) K R (.inr<|qk t.sz r) M ?_;intro p G z;exact absurd (qX (qQ (t.pin p G).1)<|by rwa[z])<|jl _
end
end L2
namespace L2.L3
open PySem PySem.Spec PyProof.Rows PySem.W
noncomputable def fJ(K:Frag)(c:Str):Option Addr:=match nsIn K j6 c with|some (Qa<|.ref C)=>Qa C|_=>Qb
def a8d{K:Frag}{c:Str}(h:fJ K c=Qa C):nsIn K j6 c=Qa (Qa<|.ref C):=by
 unfold fJ at h;split at h;.rename_i e;cases h;exact e
 .cases h
structure ExO(h:Heap)(a C:Addr)(ox:Obj):Prop where
 at_:h.get? a=Qa ox
 cls:ox.cls=.ref C
def ExO.type{h:Heap}{b:Obj}(I:ExO h a C b):Looks M h (typeOf<|.ref a) (.ref C):=I.cls▸(Looks.ld I.at_).andThen .now
end L2.L3
namespace L2.L3
open PySem PySem.Spec PyProof.Rows
noncomputable def hZ:Key->q8|.inl i=>.int i|.inr x=>.str x
mutual inductive Rep(K:qB)(G:Hp):V->q8->Prop|none:Rep K G .non .none|bool(b:Bool):Rep K G (.bl b) (.bool b)|int(i:Int):Rep K G (.int i) (.int i)|str(x:Str):Rep K G (.str x) (.str x)|list{a:Addr}{Y:List V}{O:T0l}:SqL K G a Y->RepAll K G Y O->Rep K G (.ref a) (.list O)|tuple{a:Addr}{Y:List V}{O:T0l}:SqT K G a Y->RepAll K G Y O->Rep K G (.ref a) (.tuple O)|dict{a:Addr}{kvs:List (Key×V)}{D:List (q8×q8)}:Rd G a (.dK kvs)->D.map (·.1)=kvs.map (λp=>hZ p.1)->RepAll K G (kvs.map (·.2)) (D.map (·.2))->Rep K G (.ref a) (.dict D)inductive RepAll(K:qB)(G:Hp):List V->List q8->Prop|nil:RepAll K G [] []|cons{v:V}{vs:List V}{d:q8}{O:T0l}:Rep K G v d->RepAll K G vs O->RepAll K G (v::vs) (d::O)end
variable{u:HO}
def a3f{a:Addr}(e:aW H H')(h:Rd H a u):Rd H' a u:=h.imp (e _ _) (by rintro ⟨o,h⟩;exact#[o,e _ _ h])
def uD{K:qB}{a:Addr}(e:aW H H')(h:SqT K H a Y):SqT K H' a Y:=by
 obtain(h|⟨o,h⟩)|h:=h;.exact .inl (.inl<|e _ _ h)
 .exact .inl (.inr #[o,e _ _ h])
 .exact .inr h
variable{ns:List Int}
section
variable{K:qB}
mutual theorem Rep.mono(s:aW G G'):∀{v:V}{d:q8},Rep K G v d->Rep K G' v d|_,_,.none=>.none|_,_,.bool b=>.bool b|_,_,.int i=>.int i|_,_,.str x=>.str x|_,_,.list h r=>.list (s.seq h) (RepAll.mono s r)|_,_,.tuple h r=>.tuple (uD s h) (RepAll.mono s r)|_,_,.dict h e r=>.dict (a3f s h) e (RepAll.mono s r)theorem RepAll.mono(s:aW G G'):∀{vs:List V}{O:T0l},RepAll K G vs O->RepAll K G' vs O|_,_,.nil=>.nil|_,_,.cons r t=>.cons (Rep.mono s r) (RepAll.mono s t)end
theorem RepAll.length:∀{vs:List V}{O:T0l},RepAll K G vs O->vs.length=O.length|_,_,.nil=>rfl|_,_,.cons _ t=>by simp[RepAll.length t]
theorem RepAll.get:∀{vs:List V}{O:T0l}{i:Nat}{d:q8},RepAll K G vs O->O[i]?=Qa d->∃v,vs[i]?=Qa v/\Rep K G v d|_,_,_,_,.nil,e=>by simp at e|_,_,0,_,.cons r _,e=>by simp at e;subst e;exact#[_,rfl,r]|_,_,i+1,d,.cons _ t,e=>by let⟨u,b,a⟩:=RepAll.get (i:=i) (d:=d) t (by simpa using e);exact#[u,by simpa using b,a]
theorem RepAll.append:∀{vs a:List V}{O es:T0l},RepAll K G vs O->RepAll K G a es->RepAll K G (vs++a) (O++es)|_,_,_,_,.nil,h=>h|_,_,_,_,.cons r t,h=>.cons r<|RepAll.append t h
theorem RepAll.take:∀{vs:List V}{O:T0l} n,RepAll K G vs O->RepAll K G (vs.take n) (O.take n)|_,_,0,_=>.nil|_,_,_+1,.nil=>.nil|_,_,n+1,.cons r t=>.cons r<|RepAll.take n t
theorem RepAll.drop:∀{vs:List V}{O:T0l} n,RepAll K G vs O->RepAll K G (vs.drop n) (O.drop n)|_,_,0,r=>r|_,_,_+1,.nil=>.nil|_,_,n+1,.cons _ t=>RepAll.drop n t
def RepAll.maps{b:Type}{f:b->q8}{g:b->V}(h:∀{v a:_},Rep K G v (f a)->v=g a){ns:List b}(r:RepAll K G vs (ns.map f)):vs=ns.map g:=by induction ns generalizing vs with|nil=>cases r;rfl|cons a ns c=>cases r with|cons x y=>rw[h x,c y];rfl
def RepAll.ints(r:RepAll K G vs (ns.map .int)):vs=ns.map V.int:=r.maps λr=>by cases r;rfl
def RepAll.strs{ns:T0q}(r:RepAll K G vs (ns.map .str)):vs=ns.map V.str:=r.maps λr=>by cases r;rfl
def RepAll.bools{ns:List Bool}(r:RepAll K G vs (ns.map .bool)):vs=ns.map V.bl:=r.maps λr=>by cases r;rfl
end
theorem a0R:∀{kvs:List (Key×V)}{vs:List (Key×Value)},KV kvs vs->kvs.map (·.1)=vs.map (·.1)/\bJ (kvs.map (·.2)) (vs.map (·.2))|_,_,.nil=>#[rfl,.nil]|_,_,.cons h t=>by let⟨a,b⟩:=a0R t;exact#[by rw[qE,qE,a,h.1],.cons h.2 b]
theorem a2C{h:Heap}:∀{es:List DictEntry}{vs:List (Key×Value)},Pairs (cO P w) es vs->(∃as,ReadsAll h (es.map (·.key)) (vs.map λp=>hZ p.1) as)/\es.map (·.val)=vs.map (·.2)
 |_,_,.nil=>#[#[_,.nil],rfl]|e::es,kv::vs,.cons hk hv t=>by
  let⟨⟨as,a⟩,b⟩:=a2C (h:=h) t;refine#[?_,by rw[qE,qE,b,hv]];rcases dX (show a2M kv.1 e.key=Qc from hk)with⟨i,t,e1,e2⟩|⟨x,t,e1,e2⟩;.refine#[_,.cons (as:=[]) (by dsimp only;rw[e1,e2];exact .int i t) a]
  .refine#[_,.cons (as:=[]) (by dsimp only;rw[e1,e2];exact .str x t) a]
section
mutual theorem Rep.reads(I:Inv X B U H s):∀{v:V}{d:q8}{u:Value},Rep X.K H v d->RelV v u->∃as,Reads s.heap u d as|_,_,_,.none,r=>by cases r;exact#[_,.none]|_,_,_,.bool b,r=>by cases r;exact#[_,.bool b]|_,_,_,.int i,r=>by let⟨t,rfl⟩:=r;exact#[_,.int i t]|_,_,_,.str x,r=>by let⟨t,rfl⟩:=r;exact#[_,.str x t]|_,_,_,.list h q,r=>by cases r;let⟨its,rv,⟨o,n,e,hc,_,hd⟩,_⟩:=I.list h;let⟨as,z⟩:=RepAll.reads I q rv;exact#[_,.list e hc hd (by simpa using z)]|_,_,_,.tuple h q,r=>by cases r;let⟨its,rv,⟨o,e,hc,n,hd⟩,_⟩:=I.tuple h;let⟨as,z⟩:=RepAll.reads I q rv;exact#[_,.tuple e hc hd (by simpa using z)]|_,_,_,.dict h e0 q,r=>by cases r;let⟨hz,hS,vs,kv,o,es,ep,e,hex,hd,_,hp,_⟩:=h.ok I.hok;let⟨a1,a2⟩:=a0R kv;let⟨⟨as,b1⟩,b2⟩:=a2C (h:=s.heap) hp;let⟨bs,z⟩:=RepAll.reads I q a2;refine#[_,.dict e hex.1 hd (as:=as) (bs:=bs) ?_ (by rw[b2];exact z)];rw[e0,show(λp:Key×V=>hZ p.1)=hZ∘(·.1)from rfl,<-qZ,a1,qZ];exact b1 theorem RepAll.reads(I:Inv X B U H s):∀{vs:List V}{O:T0l}{us:T0m},RepAll X.K H vs O->bJ vs us->∃as,ReadsAll s.heap us O as|_,_,_,.nil,.nil=>#[_,.nil]|_,_,_,.cons r t,.cons q w=>by let⟨as,a⟩:=Rep.reads I r q;let⟨bs,b⟩:=RepAll.reads I t w;exact#[_,.cons a b]end
end
noncomputable def eZ:List Str:=["law","_law_did"]
noncomputable def lamQ(x:Str):Str:=x++".<locals>."++"<lambda>"
noncomputable def cdO(c:Addr)(q:Str):HO:=.ext λh=>h.CodeRec (.ref c) q
def Tab(P:Addr)(q:Str)(H:Hp):Prop:=∃ps,H P=Qa (.tbl (q,ps))/\uf ps.toList/\∀pos cv,uu pos ps.toList=Qa cv->∃c,cv=.ref c/\H c=Qa (cdO c q)
def NoT(G:Hp):Prop:=∀b ps,G b≠Qa (.tbl ps)
def oZ(K:qB)(G H:Hp):Prop:=(∀x∈eZ,∀c P,jk K x=Qa (c,P)->Tab P (lamQ x) H)/\NoT G
theorem NoT.upd{G:Hp}{a:Addr}{o:HO}(n:NoT G)(h:∀ps,o≠.tbl ps):NoT (L2.upd G a o):=λb ps e=>by
 by_cases c:b=a;.subst c;rw[aK]at e;cases e;exact h _ rfl
 .rw[aF c]at e;exact n b ps e
def Tab.same{P:Addr}(t:Tab P q H)(s:aW H H'):Tab P q H':=by let⟨b,g,f,d⟩:=t;refine#[b,s _ _ g,f,λa k e=>?_];let⟨c,j,i⟩:=d a k e;exact#[c,j,s _ _ i]
variable{o:HO}
def Tab.wr{P a:Addr}(t:Tab P q H)(h:H a=Qa (.lst Y)):Tab P q (upd H a o):=by let⟨d,i,g,f⟩:=t;refine#[d,by rwa[aF<|dI i h<|by nofun],g,λb p e=>?_];let⟨c,k,j⟩:=f b p e;exact#[c,k,by rwa[aF<|dI j h<|by unfold cdO;nofun]]
structure Sm(H H':Hp):Prop where
 keep:∀b o,H b=Qa o->(∀ps,o≠.tbl ps)->H' b=Qa o
 tbl:∀b ps,H b=Qa (.tbl ps)->∃ps',H' b=Qa (.tbl ps')tab:∀P q,Tab P q H->Tab P q H'
def Sm.of(s:aW H H'):Sm H H':=#[λb o h _=>s b o h,λb a h=>#[a,s _ _ h],λP q t=>t.same s]
theorem Sm.refl H:Sm H H:=.of<|.refl _
def Sm.trans(a:Sm H H1)(b:Sm H1 H2):Sm H H2:=#[λc o h n=>b.keep c o (a.keep c o h n) n,λc d h=>by let⟨e,f⟩:=a.tbl c d h;exact b.tbl c e f,λP q t=>b.tab P q<|a.tab P q t]
def Sm.ne(s:Sm H H'){b:Addr}(h:H b=Qa o):∃o',H' b=Qa o':=by cases o with|tbl a=>let⟨p,e⟩:=s.tbl b a h;exact#[_,e]|_=>exact#[_,s.keep b _ h<|by nofun]
def Sm.free(s:Sm H H'){l:Addr}(h:H' l=Qb):H l=none:=by cases q:H l with|none=>rfl|some o=>let⟨a,e⟩:=s.ne q;rw[h]at e;cases e
theorem Sm.lst(s:Sm H H'){l:Addr}{Y:List V}(h:H l=Qa (.lst Y)):H' l=Qa (.lst Y):=s.keep l _ h (by nofun)
theorem Sm.wr(s:Sm H H'){l:Addr}{Y:List V}{o:HO}(a:H l=Qb)(h:H' l=Qa (.lst Y)):Sm H (upd H' l o):=#[λb u e n=>by rw[aF<|aP e a];exact s.keep b u e n,λb c e=>by rw[aF<|aP e a];exact s.tbl b c e,λP q t=>(s.tab P q t).wr h]
theorem oZ.wr{K:qB}{G H:Hp}{a:Addr}{Y:List V}{o:HO}(t:oZ K G H)(h:H a=Qa (.lst Y)):oZ K G (upd H a o):=#[λx b c P e=>(t.1 x b c P e).wr h,t.2]
structure Grow(G H G' H':Hp):Prop where
 gg:aW G G'
 hh:Sm H H'
 sub:aW G' H'
 new:∀a,G a=Qb->H a≠Qb->G' a=Qb
 nt:NoT G->NoT G'
def oZ.more{K:qB}(t:oZ K G H)(g:Grow G H G' H'):oZ K G' H':=#[λx a c P e=>g.hh.tab _ _<|t.1 x a c P e,g.nt t.2]
theorem Grow.refl{G H:Hp}(s:aW G H):Grow G H G H:=#[.refl _,.refl _,s,λ_ e _=>e,id]
theorem Grow.trans{G H i f g d:Hp}(a:Grow G H i f)(b:Grow i f g d):Grow G H g d:=#[a.gg.trans b.gg,a.hh.trans b.hh,b.sub,λc e n=>b.new c (a.new c e n) (λz=>by cases q:H c with|none=>exact n q|some o=>let⟨k,j⟩:=a.hh.ne q;rw[j]at z;cases z),λn=>b.nt<|a.nt n]
def cW{p:Addr}(h:H p=Qb):aW H (upd H p o):=λb u e=>by rwa[aF<|aP e h]
def b4e{p:Addr}(s:aW G H):aW (upd G p o) (upd H p o):=λb u e=>by
 by_cases a:b=p;.subst a;rw[aK]at e⊢;exact e
 .rw[aF a]at e⊢;exact s b u e
def Grow.put{p:Addr}(s:aW G H)(h:H p=Qb)(b:∀ps,o≠.tbl ps:=by nofun):Grow G H (upd G p o) (upd H p o):=#[cW<|s.free h,.of<|cW h,b4e s,λa e n=>by rwa[aF<|λz=>n<|by rw[z];exact h],λn=>n.upd b]
def Grow.side{p:Addr}(s:aW G H)(h:H p=Qb):Grow G H G (upd H p o):=#[.refl _,.of<|cW h,s.trans<|cW h,λa e _=>e,id]
structure BS where
 sh:List (Key×q8)dn:List q8
 un:List q8
noncomputable def iW(K:qB):Addr:=match jF K j6 "Binder"with|some (Qa<|.ref C)=>C|_=>0
noncomputable def bFs(d l1 l2:Addr):List (Str×V):=[("sheets",.ref d),("done",.ref l1),("undone",.ref l2)]
inductive Ent where|no|val(d:q8)|lst(O:T0l)|exc(c:Str)|nst(dss:List (List q8))|dct(kvs:List (Key×q8))|adr(a:Addr)|ro(oa:T0k)(b:BS)
noncomputable def xcO(a C:Addr):HO:=.ext λh=>∃ox,ExO h a C ox
def c8i(K:qB)(H0 G H:Hp)(b:Addr)(O:T0l):Prop:=∃Y,H b=Qa (.lst Y)/\G b=Qb/\H0 b=Qb/\RepAll K G Y O
def fE(K:qB)(G:Hp)(vs:List (Key×V))(kvs:List (Key×q8)):Prop:=vs.map (·.1)=kvs.map (·.1)/\RepAll K G (vs.map (·.2)) (kvs.map (·.2))
theorem fE.mono{K:qB}{G a:Hp}{vs:List (Key×V)}{kvs:List (Key×q8)}(h:fE K G vs kvs)(s:aW G a):fE K a vs kvs:=#[h.1,h.2.mono s]
def BOk(K:qB)(G H:Hp)(a:Addr)(b:BS)(fp:T0o):Prop:=∃dx d l1 l2 vs Y ys,fp=[a,dx,d,l1,l2]/\l1≠l2/\H a=Qa (.ins (iW K) dx<|bFs d l1 l2)/\H dx=Qa (.own a)/\H d=Qa (.dK vs)/\H l1=Qa (.lst Y)/\H l2=Qa (.lst ys)/\fE K G vs b.sh/\RepAll K G Y b.dn/\RepAll K G ys b.un
def BOk.keep{K:qB}{a:Addr}{b:BS}(h:BOk K G H a b fp)(k:∀x o,x∈fp->H x=Qa o->(∀ps,o≠.tbl ps)->H' x=Qa o)(s:aW G G'):BOk K G' H' a b fp:=by let⟨u,d,i,g,e,Y,c,rfl,n,t,r,q,p,j,f,r2,r3⟩:=h;exact#[u,d,i,g,e,Y,c,rfl,n,k _ _ (by simp) t (by nofun),k _ _ (by simp) r (by nofun),k _ _ (by simp) q (by nofun),k _ _ (by simp) p (by nofun),k _ _ (by simp) j (by nofun),f.mono s,r2.mono s,r3.mono s]
def BOk.there{K:qB}{a:Addr}{b:BS}(h:BOk K G H a b fp):∀x∈fp,∃o,H x=Qa o/\∀ps,o≠.tbl ps:=by
 let⟨s,d,r,q,p,Y,k,rfl,n,j,i,g,f,e,_⟩:=h;intro x c;simp only[qI,jB,or_false]at c;obtain rfl|rfl|rfl|rfl|rfl:=c;.exact#[_,j,by nofun]
 .exact#[_,i,by nofun]
 .exact#[_,g,by nofun]
 .exact#[_,f,by nofun]
 .exact#[_,e,by nofun]
def yL(K:qB)(H0 G H:Hp)(o:Option V)(oa:T0k)(b:BS):Prop:=∃a fp,o=Qa (.ref a)/\(∀a',oa=Qa a'->a'=a)/\BOk K G H a b fp/\∀x∈fp,H0 x≠Qb
def yL.mono{K:qB}{o:Option V}{b:BS}(h:yL K H0 G H o oa b)(s:aW G G'):yL K H0 G' H o oa b:=by let⟨a,c,e,d,r,n⟩:=h;exact#[a,c,e,d,r.keep (λ_ _ _ z _=>z) s,n]
def yL.wr{K:qB}{o:Option V}{b:BS}{x:Addr}(h:yL K H0 G H o oa b)(hx:H0 x=Qb):yL K H0 G (upd H x u) o oa b:=by let⟨a,d,e,f,r,n⟩:=h;exact#[a,d,e,f,r.keep (λy _ c z _=>by rwa[aF (λw:y=x=>n y c<|by rw[w];exact hx)])<|.refl _,n]
def yL.more{K:qB}{o:Option V}{b:BS}(h:yL K H0 G H o oa b)(g:aW G G')(k:Sm H H'):yL K H0 G' H' o oa b:=by let⟨a,c,e,d,r,n⟩:=h;exact#[a,c,e,d,r.keep (λy o _ z w=>k.keep y o z w) g,n]
def a5k(K:qB)(H0 G H:Hp)(o:Option V):Ent->Prop|.no=>True|.val d=>∃v,o=Qa v/\Rep K G v d|.lst O=>∃a Y,o=Qa (.ref a)/\H a=Qa (.lst Y)/\G a=Qb/\H0 a=Qb/\RepAll K G Y O|.exc c=>∃a C,o=Qa (.ref a)/\fJ K c=Qa C/\H a=Qa (xcO a C)|.nst dss=>∃a bs,o=Qa (.ref a)/\H a=Qa (.lst<|bs.map V.ref)/\G a=Qb/\H0 a=Qb/\a∉bs/\bs.Nodup/\Paired (c8i K H0 G H) bs dss|.dct kvs=>∃a vs,o=Qa (.ref a)/\H a=Qa (.dK vs)/\G a=Qb/\H0 a=Qb/\fE K G vs kvs|.adr a=>o=Qa (.ref a)|.ro oa b=>yL K H0 G H o oa b
noncomputable def a4A:Ent->Bool|.lst _=>Qc|.nst _=>Qc|.dct _=>Qc|_=>Qd
structure Inj(H:Hp)(U:St)(Z:List Ent):Prop where
 two:∀(i j:Nat) a O es,i≠j->U[i]?=Qa (Qa (.ref a))->Z[i]?=Qa (.lst O)->U[j]?=Qa (Qa (.ref a))->Z[j]?=Qa (.lst es)->False
 mix:∀(i j:Nat) a a' O dss,U[i]?=Qa (Qa (.ref a))->Z[i]?=Qa (.lst O)->U[j]?=Qa (Qa (.ref a'))->Z[j]?=Qa (.nst dss)->a≠a'/\∀vs,H a'=Qa (.lst vs)->V.ref a∉vs
 one:∀(i j:Nat) dss ess,Z[i]?=Qa (.nst dss)->Z[j]?=Qa (.nst ess)->i=j
 oneD:∀(i j:Nat) ks ls,Z[i]?=Qa (.dct ks)->Z[j]?=Qa (.dct ls)->i=j
variable{Z ρ':List Ent}
def Inj.sub(I:Inj H U Z)(h:∀(i:Nat) e,ρ'[i]?=Qa e->a4A e=Qc->Z[i]?=Qa e/\σ'[i]?=U[i]?):Inj H σ' ρ':=by
 refine#[λi j a O t n b c f q=>?_,λi j a u O d b c f q=>?_,λi j d r b c=>?_,λi j s ls b c=>I.oneD i j s ls (h i _ b rfl).1 (h j _ c rfl).1];.let⟨p,o⟩:=h i _ c rfl;let⟨k,g⟩:=h j _ q rfl;rw[o]at b;rw[g]at f;exact I.two i j a O t n b p f k
 .let⟨p,o⟩:=h i _ c rfl;let⟨k,g⟩:=h j _ q rfl;rw[o]at b;rw[g]at f;exact I.mix i j a u O d b p f k
 .exact I.one i j d r (h i _ b rfl).1 (h j _ c rfl).1
def Inj.other(I:Inj H U Z)(h:∀(j:Nat) c b,U[j]?=Qa (Qa<|.ref c)->Z[j]?=Qa (.nst b)->∀vs,H' c=Qa (.lst vs)->H c=Qa (.lst vs)):Inj H' U Z:=#[I.two,λi j a c O b k g f d=>#[(I.mix i j a c O b k g f d).1,λvs e=>(I.mix i j a c O b k g f d).2 vs<|h j c b f d vs e],I.one,I.oneD]
def Inj.free(h:∀(i:Nat) e,Z[i]?=Qa e->a4A e=Qd):Inj H U Z:=#[λi j a O p n c b g f=>zb<|h i _ b,λi j a q O d c b g f=>zb<|h i _ b,λi j d k c b=>zb<|h i _ c,λi j o ls c b=>zb<|h i _ c]
theorem tF{F c:α->β->Prop}:∀{l:List α}{m:List β},Paired F l m->(∀a b,a∈l->F a b->c a b)->Paired c l m|_,_,.nil,_=>.nil|_,_,.cons r t,h=>.cons (h _ _ qr r) (tF t λa b d=>h a b<|qG _ d)
theorem a6p{F:α->β->Prop}{a:α}:∀{l:List α}{m:List β},Paired F l m->a∈l->∃b,F a b
 |_,_,.cons r t,h=>by
  obtain rfl|h:=qI.mp h;.exact#[_,r]
  .exact a6p t h
structure RepS(K:qB)(H0 Gz G H:Hp)(U:St)(Z:List Ent):Prop where
 grow:Grow Gz H0 G H
 len:U.length=Z.length
 ent:∀(i:Nat) o e,U[i]?=Qa o->Z[i]?=Qa e->a5k K H0 G H o e
 inj:Inj H U Z
 tab:oZ K G H
theorem a5k.more{K:qB}{p G H s q:Hp}{o:Option V}{e:Ent}(g:Grow G H s q)(h:a5k K p G H o e):a5k K p s q o e:=by cases e with|no=>trivial|val d=>let⟨v,e,r⟩:=h;exact#[v,e,r.mono g.gg]|lst O=>let⟨a,Y,e,f,i,j,r⟩:=h;exact#[a,Y,e,g.hh.lst f,g.new a i (by rw[f];simp),j,r.mono g.gg]|exc c=>let⟨a,C,e,f,i⟩:=h;exact#[a,C,e,f,g.hh.keep a _ i<|by nofun]|nst E=>let⟨a,bs,e,f,i,j,D,A,r⟩:=h;exact#[a,bs,e,g.hh.lst f,g.new a i (by rw[f];simp),j,D,A,Paired.mapP r<|by rintro b O⟨Y,k,w,u,t⟩;exact#[Y,g.hh.lst k,g.new b w (by rw[k];simp),u,t.mono g.gg]]|dct z=>let⟨a,y,e,f,i,j,r⟩:=h;exact#[a,y,e,g.hh.keep a _ f (by nofun),g.new a i (by rw[f];simp),j,r.mono g.gg]|adr a=>exact h|ro F b=>exact yL.more h g.gg g.hh
variable{kvs:List (Key×q8)}
section
variable{K:qB}
theorem RepS.more(R:RepS K H0 Gz G H U Z)(g:Grow G H G' H'):RepS K H0 Gz G' H' U Z:=#[R.grow.trans g,R.len,λi o e c b=>(R.ent i o e c b).more g,R.inj.other (λj q k c b p e=>by let⟨a,bs,f,d,_⟩:=R.ent j _ _ c b;cases f;rw[g.hh.lst d]at e;cases e;exact d),R.tab.more g]
theorem RepS.sub(R:RepS K H0 Gz G H U Z):aW G H:=R.grow.sub
def RepS.at{i:Nat}{e:Ent}(R:RepS K H0 Gz G H U Z)(h:Z[i]?=Qa e):∃o,U[i]?=Qa o/\a5k K H0 G H o e:=by
 have a:i<U.length:=by rw[R.len];exact(qW.mp h).1
 exact#[U[i],by simp,R.ent i _ e (by simp) h]
theorem RepS.val{i:Nat}{d:q8}(R:RepS K H0 Gz G H U Z)(h:Z[i]?=Qa (.val d)):∃v,U[i]?=Qa (Qa v)/\Rep K G v d:=by let⟨o,e,v,rfl,r⟩:=R.at h;exact#[v,e,r]
def RepS.own{i:Nat}(R:RepS K H0 Gz G H U Z)(h:Z[i]?=Qa (.lst O)):∃a Y,U[i]?=Qa (Qa<|.ref a)/\H a=Qa (.lst Y)/\G a=Qb/\H0 a=Qb/\RepAll K G Y O:=by let⟨o,e,a,Y,rfl,r⟩:=R.at h;exact#[a,Y,e,r]
def bF{a:Type}{l:List a}{i j:Nat}{x y:a}(h:(l.set i x)[j]?=Qa y):(j=i/\y=x/\i<l.length)\/(j≠i/\l[j]?=Qa y):=by
 by_cases e:j=i
 .subst e;have b:j<l.length:=by have:=(qW.mp h).1;simpa using this
  rw[kN b]at h;exact .inl #[rfl,(qA h).symm,b]
 .rw[jK<|jL e]at h;exact .inr #[e,h]
theorem RepS.set{i:Nat}{v:V}{d:q8}(R:RepS K H0 Gz G H U Z)(r:Rep K G v d):RepS K H0 Gz G H (U.set i<|Qa v) (Z.set i<|.val d):=by
 refine#[R.grow,by simp[R.len],λj o e a b=>?_,R.inj.sub λj e a b=>?_,R.tab]
 .obtain⟨rfl,rfl,_⟩|⟨n,a⟩:=bF a
  .obtain⟨_,rfl,_⟩|⟨n,_⟩:=bF b;.exact#[v,rfl,r]
   .exact absurd rfl n
  .obtain⟨z,_⟩|⟨_,b⟩:=bF b;.exact absurd z n
   .exact R.ent j o e a b
 .obtain⟨_,rfl,_⟩|⟨n,a⟩:=bF a;.cases b
  .exact#[a,jK<|jL n]
def RepS.freeze{i:Nat}(R:RepS K H0 Gz G H U Z)(h:Z[i]?=Qa (.lst O)):∃G',aW G G'/\RepS K H0 Gz G' H U (Z.set i<|.val<|.list O):=by
 let⟨a,Y,e,p,D,h3,r⟩:=R.own h;have f:aW G (upd G a<|.lst Y):=cW D;refine#[upd G a<|.lst Y,f,#[#[R.grow.gg.trans f,R.grow.hh,λb o q=>?_,λb q n=>?_,λn=>(R.grow.nt n).upd<|by nofun],by simp[R.len],λj o L t s=>?_,R.inj.sub λj e p D=>?_,R.tab.1,R.tab.2.upd<|by nofun]]
 .by_cases I:b=a;.subst I;rw[aK]at q;cases q;exact p
  .rw[aF I]at q;exact R.sub b o q
 .have A:b≠a:=λz=>n (by rwa[z]);rw[aF A];exact R.grow.new b q n
 .obtain⟨rfl,rfl,_⟩|⟨T,s⟩:=bF s;.rw[e]at t;cases t;exact#[.ref a,rfl,.list (.of aK)<|r.mono f]
  .have E:=R.ent j o L t s;cases L with|no=>trivial|val d=>let⟨v,z,g⟩:=E;exact#[v,z,g.mono f]|lst es=>
    let⟨b,M,z,k,J,u,g⟩:=E;have A:b≠a:=λw=>by subst w z;exact R.inj.two j i b es O T t s e h
    exact#[b,M,z,k,by rwa[aF A],u,g.mono f]|exc c=>exact E|nst F=>let⟨b,bs,z,k,J,u,g4,g5,g⟩:=E;subst z;let⟨m1,m2⟩:=R.inj.mix i j a b O F e h t s;have X:∀c∈bs,c≠a:=λc C w=>m2 _ k (by subst w;exact qR.mpr #[c,C,rfl]);exact#[b,bs,rfl,k,by rwa[aF<|jL m1],u,g4,g5,tF g<|by rintro c dd C⟨y,Q,x2,P,N⟩;exact#[y,Q,by rwa[aF<|X c C],P,N.mono f]]|dct kvs=>let⟨b,S,z,k,J,u,g⟩:=E;exact#[b,S,z,k,by rwa[aF<|dI k p<|by nofun],u,g.mono f]|adr a=>exact E|ro oa b=>exact yL.mono E f
 .obtain⟨_,rfl,_⟩|⟨n,p⟩:=bF p;.cases D
  .exact#[p,rfl]
def RepS.wrote{i:Nat}{a:Addr}{L:T0l}(R:RepS K H0 Gz G H U Z)(h:Z[i]?=Qa (.lst O))(e:U[i]?=Qa (Qa<|.ref a))(r:RepAll K G Y L):RepS K H0 Gz G (upd H a<|.lst Y) U (Z.set i<|.lst L):=by
 let⟨a',D,J,M,h2,X,_⟩:=R.own h;rw[e]at J;cases J;refine#[#[R.grow.gg,R.grow.hh.wr X M,λb o q=>?_,λb q n=>R.grow.new b q n,R.grow.nt],by simp[R.len],λj o J g f=>?_,#[λj k b y fs t g f A s=>?_,λj k b a' y p g f A s=>?_,λj k p ess g f=>?_,λj k ks ls g f=>?_],R.tab.wr M];.rw[aF<|aP q h2];exact R.sub b o q
 .obtain⟨rfl,rfl,_⟩|⟨nj,f⟩:=bF f;.rw[e]at g;cases g;exact#[a,Y,rfl,aK,h2,X,r]
  .have E:=R.ent j o J g f;cases J with|no=>trivial|val d=>exact E|lst y=>
    let⟨b,ys,z,v,u,I,F⟩:=E;have nb:b≠a:=λw=>by subst w z;exact R.inj.two j i b y O nj g f e h
    exact#[b,ys,z,by rw[aF nb];exact v,u,I,F]|exc c=>let⟨b,C,z,v,u⟩:=E;exact#[b,C,z,v,by rwa[aF<|dI u M<|by unfold xcO;nofun]]|nst p=>let⟨b,bs,z,v,u,I,g4,g5,F⟩:=E;subst z;let⟨S,Q⟩:=R.inj.mix i j a b O p e h g f;have ni:∀c∈bs,c≠a:=λc T w=>Q _ v (by subst w;exact qR.mpr #[c,T,rfl]);exact#[b,bs,rfl,by rwa[aF<|jL S],u,I,g4,g5,tF F<|by rintro c dd T⟨D,x1,x2,x3,x4⟩;exact#[D,by rwa[aF<|ni c T],x2,x3,x4]]|dct kvs=>let⟨b,N,z,v,u,I,F⟩:=E;exact#[b,N,z,by rwa[aF<|dI v M<|by nofun],u,I,F]|adr a=>exact E|ro oa b=>exact yL.wr E X
 .obtain⟨rfl,_,_⟩|⟨n2,f⟩:=bF f
  .obtain⟨z,_,_⟩|⟨n4,s⟩:=bF s;.exact t z.symm
   .exact R.inj.two j k b O fs t g h A s
  .obtain⟨z,_,_⟩|⟨n4,s⟩:=bF s;.subst z;exact R.inj.two j k b y O t g ‹Z[j]?=Qa (Ent.lst y)› A h
   .exact R.inj.two j k b y fs t g ‹Z[j]?=Qa (Ent.lst y)› A s
 .obtain⟨_,z,_⟩|⟨_,s⟩:=bF s;.cases z
  .have P:∃fs,Z[j]?=Qa (.lst fs):=by
    obtain⟨rfl,_,_⟩|⟨_,f⟩:=bF f;.exact#[_,h]
    .exact#[_,f]
   let⟨fs,f⟩:=P;let⟨S,Q⟩:=R.inj.mix j k b a' fs p g f A s;have m3:=(R.inj.mix i k a a' O p e h A s).1;exact#[S,λN z=>Q N<|by rwa[aF<|jL m3]at z]
 .obtain⟨_,z,_⟩|⟨_,g⟩:=bF g;.cases z
  .obtain⟨_,z,_⟩|⟨_,f⟩:=bF f;.cases z
   .exact R.inj.one j k p ess g f
 .obtain⟨_,z,_⟩|⟨_,g⟩:=bF g;.cases z
  .obtain⟨_,z,_⟩|⟨_,f⟩:=bF f;.cases z
   .exact R.inj.oneD j k ks ls g f
def RepS.fresh{i:Nat}{p:Addr}(R:RepS K H0 Gz G H U Z)(h:H p=Qb)(r:RepAll K G Y O):RepS K H0 Gz G (upd H p<|.lst Y) (U.set i<|Qa<|.ref p) (Z.set i<|.lst O):=by
 have J:=R.more<|Grow.side (o:=.lst Y) R.sub h;refine#[J.grow,by simp[R.len],λj o e q g=>?_,#[λj k a s fs y q g A v=>?_,λj k b N s t f d F D=>?_,λj k t I f d=>?_,λj k ks ls f d=>?_],J.tab]
 .obtain⟨rfl,rfl,_⟩|⟨n,q⟩:=bF q
  .obtain⟨_,rfl,_⟩|⟨n,_⟩:=bF g;.exact#[p,Y,rfl,aK,R.sub.free h,R.grow.hh.free h,r]
   .exact absurd rfl n
  .obtain⟨z,_⟩|⟨_,g⟩:=bF g;.exact absurd z n
   .exact J.ent j o e q g
 .have w:∀j s,j≠i->U[j]?=Qa (Qa<|.ref p)->Z[j]?=Qa (.lst s)->False:=λj s _ f d=>by let⟨b,ys,e,C,_⟩:=R.own d;rw[f]at e;cases e;rw[h]at C;cases C
  obtain⟨rfl,_,_⟩|⟨E,g⟩:=bF g
  .obtain⟨_,z,_⟩|⟨n,_⟩:=bF q
   .cases z;obtain⟨z,_,_⟩|⟨u,v⟩:=bF v;.exact y z.symm
    .rw[jK<|jL u]at A;exact w k fs u A v
   .exact absurd rfl n
  .rw[jK<|jL E]at q;obtain⟨P,_,_⟩|⟨u,v⟩:=bF v
   .subst P;obtain⟨_,z,_⟩|⟨n,_⟩:=bF A;.cases z;exact w j s E q ‹Z[j]?=Qa (Ent.lst s)›
    .exact absurd rfl n
   .rw[jK<|jL u]at A;exact R.inj.two j k a s fs y q g A v
 .obtain⟨_,z,_⟩|⟨u,D⟩:=bF D;.cases z
  .rw[jK<|jL u]at F;let⟨a1,bs,z,C,g2,g3,g4,g5,T⟩:=R.ent k _ _ F D;have Q:N=a1:=by cases z;rfl
   subst Q;have pa:=aP C h;have X:V.ref p∉bs.map V.ref:=λz=>by let⟨c,hc,e⟩:=qR.mp z;cases e;let⟨dd,⟨S,L,_⟩⟩:=a6p T hc;rw[h]at L;cases L
   obtain⟨rfl,_,_⟩|⟨E,d⟩:=bF d
   .obtain⟨_,z,_⟩|⟨n,_⟩:=bF f;.cases z;exact#[jL pa,λM e=>by rw[aF pa,C]at e;cases e;exact X]
    .exact absurd rfl n
   .rw[jK<|jL E]at f;let⟨m1,m2⟩:=R.inj.mix j k b N s t f d F D;exact#[m1,λM e=>m2 M<|by rwa[aF pa]at e]
 .obtain⟨_,z,_⟩|⟨_,f⟩:=bF f;.cases z
  .obtain⟨_,z,_⟩|⟨_,d⟩:=bF d;.cases z
   .exact R.inj.one j k t I f d
 .obtain⟨_,z,_⟩|⟨_,f⟩:=bF f;.cases z
  .obtain⟨_,z,_⟩|⟨_,d⟩:=bF d;.cases z
   .exact R.inj.oneD j k ks ls f d
def RepS.ownD{i:Nat}(R:RepS K H0 Gz G H U Z)(h:Z[i]?=Qa (.dct kvs)):∃a vs,U[i]?=Qa (Qa<|.ref a)/\H a=Qa (.dK vs)/\G a=Qb/\H0 a=Qb/\fE K G vs kvs:=by let⟨o,e,a,vs,rfl,r⟩:=R.at h;exact#[a,vs,e,r]
def RepS.freezeD{i:Nat}(R:RepS K H0 Gz G H U Z)(h:Z[i]?=Qa (.dct kvs)):∃G',aW G G'/\RepS K H0 Gz G' H U (Z.set i<|.val<|.dict<|kvs.map λp=>(hZ p.1,p.2)):=by
 let⟨a,w,e,f,A,h3,r⟩:=R.ownD h;have g:aW G (upd G a<|.dK w):=cW A;refine#[upd G a<|.dK w,g,#[#[R.grow.gg.trans g,R.grow.hh,λb o q=>?_,λb q n=>?_,λn=>(R.grow.nt n).upd<|by nofun],by simp[R.len],λj o I y t=>?_,R.inj.sub λj e f A=>?_,R.tab.1,R.tab.2.upd<|by nofun]]
 .by_cases F:b=a;.subst F;rw[aK]at q;cases q;exact f
  .rw[aF F]at q;exact R.sub b o q
 .have P:b≠a:=λz=>n (by rwa[z]);rw[aF P];exact R.grow.new b q n
 .obtain⟨rfl,rfl,_⟩|⟨N,t⟩:=bF t
  .rw[e]at y;cases y;refine#[.ref a,rfl,.dict (kvs:=w) (.inl aK) ?_ ?_];.rw[qZ];have:=congrArg (List.map hZ) r.1;rw[qZ,qZ]at this;exact this.symm
   .rw[qZ];exact r.2.mono g
  .have E:=R.ent j o I y t;cases I with|no=>trivial|val d=>let⟨v,z,k⟩:=E;exact#[v,z,k.mono g]|lst es=>let⟨b,J,z,s,X,C,k⟩:=E;exact#[b,J,z,s,by rwa[aF<|dI s f<|by nofun],C,k.mono g]|exc c=>exact E|nst dss=>let⟨b,bs,z,s,X,C,T,S,k⟩:=E;exact#[b,bs,z,s,by rwa[aF<|dI s f<|by nofun],C,T,S,tF k<|by rintro c dd hc⟨u,D,x2,M,L⟩;exact#[u,D,by rwa[aF<|dI D f<|by nofun],M,L.mono g]]|dct Q=>exact absurd (R.inj.oneD j i Q kvs t h) N|adr a=>exact E|ro oa b=>exact yL.mono E g
 .obtain⟨_,rfl,_⟩|⟨n,f⟩:=bF f;.cases A
  .exact#[f,rfl]
end
structure PD(X:Cx)(e:Expr)(Z:List Ent)(d:q8):Prop where run:∀ H0 Gz G B s(U:St) H Q,Inv X B U H s->RepS X.K H0 Gz G H U Z->(∀v G' H',Grow G H G' H'->Rep X.K G' v d->Q v H')->wpAny (model X.prog X.w) X.A (eval e X.env) (EP X B U Q) X.xe s
structure PTD(X:Cx)(e:Expr)(Z:List Ent)(b:Bool):Prop where run:∀ H0 Gz G B s(U:St) H Q,Inv X B U H s->RepS X.K H0 Gz G H U Z->(∀G' H',Grow G H G' H'->Q b H')->wpAny (model X.prog X.w) X.A (isTrue e X.env (eval e X.env)) (TP X B U Q) X.xe s
structure PAD(X:Cx)(es:T0n)(Z:List Ent)(O:T0l):Prop where run:∀ H0 Gz G pos B s(U:St) H Q,Inv X B U H s->RepS X.K H0 Gz G H U Z->(∀vs G' H',Grow G H G' H'->RepAll X.K G' vs O->Q vs H')->wpAny (model X.prog X.w) X.A (spliced (j9 pos (j4 es X.env))) (AP X B U Q) X.xe s
noncomputable def tD(X:Cx)(Z:List Ent)(d:q8):TE:=λU H Q=>∃H0 Gz G,RepS X.K H0 Gz G H U Z/\∀v G' H',Grow G H G' H'->Rep X.K G' v d->Q v H'
noncomputable def tTD(X:Cx)(Z:List Ent)(b:Bool):TT:=λU H Q=>∃H0 Gz G,RepS X.K H0 Gz G H U Z/\∀G' H',Grow G H G' H'->Q b H'
noncomputable def tAD(X:Cx)(Z:List Ent)(O:T0l):TA:=λU H Q=>∃H0 Gz G,RepS X.K H0 Gz G H U Z/\∀vs G' H',Grow G H G' H'->RepAll X.K G' vs O->Q vs H'
variable{a:Expr}{i:Int}
def PD.pe(h:PD X e Z d):PE X e (tD X Z d):=(by rintro B s U H Q I⟨a,b,G,R,k⟩;exact h.run a b G B s U H Q I R k)
def PTD.pt{b:Bool}(h:PTD X e Z b):PT X e (tTD X Z b):=(by rintro B s U H Q I⟨a,c,G,R,k⟩;exact h.run a c G B s U H Q I R k)
def PAD.pa(h:PAD X es Z O):PA X es (tAD X Z O):=(by rintro a B s U H Q I⟨b,c,G,R,k⟩;exact h.run b c G a B s U H Q I R k)
def PD.of{t:TE}(h:PE X e t)(k:∀H0 Gz G U H Q,RepS X.K H0 Gz G H U Z->(∀v G' H',Grow G H G' H'->Rep X.K G' v d->Q v H')->t U H Q):PD X e Z d:=#[λH0 Gz G B s U H Q I R q=>h B s U H Q I<|k H0 Gz G U H Q R q]
def c3F{j:_}:PD X (.Constant (.int i) j pos) Z (.int i):=.of c3A λ_ _ _ _ _ _ R q=>q _ _ _ (.refl R.sub)<|.int i
def c3E{x:Str}{j:_}:PD X (.Constant (.str x) j pos) Z (.str x):=.of b6v λ_ _ _ _ _ _ R q=>q _ _ _ (.refl R.sub)<|.str x
def b9X{x:Bool}{j:_}:PD X (.Constant (.bool x) j pos) Z (.bool x):=.of c5Y λ_ _ _ _ _ _ R q=>q _ _ _ (.refl R.sub)<|.bool x
def b9V{j:_}:PD X (.Constant .none j pos) Z .none:=.of c3z λ_ _ _ _ _ _ R q=>q _ _ _ (.refl R.sub) .none
def c3D(i:Nat){x:Str}(h:Z[i]?=Qa (.val d))(a:U0 X i x:=by exact U1):PD X (.Name x pos) Z d:=.of (dF a.1 a.2 a.3 a.4) λb c G U H Q R q=>by let⟨v,e,r⟩:=R.val h;exact#[v,e,q v G H (.refl R.sub) r]
def b6B{x:Str}{t:Tok}(b:Gl X x)(a:X.mg x=Qa (.int i t))(c:U2 x:=by decide):PD X (.Name x pos) Z (.int i):=.of (b2G (v:=.int i) b a #[t,rfl] c) λ_ _ _ _ _ _ R q=>q _ _ _ (.refl R.sub)<|.int i
variable{j:Int}
section
def tG:PAD X [] Z []:=#[λb c G a B s U H Q I R q=>gE a B s U H Q I<|q [] G H (.refl R.sub) .nil]
def oO(o:PD X e Z d)(k:PAD X es Z O)(j:U5 X e es:=by rfl):PAD X (e::es) Z (d::O):=by refine#[?_];intro f g G a B s U H Q I R q;exact dR o.pe k.pa j a B s U H Q I #[f,g,G,R,λx t u c i=>#[f,g,t,R.more c,λY r p b r2=>q _ r p (c.trans b)<|.cons (i.mono b.gg) r2]]
structure CmpD(X:Cx)(op:CmpOp)(da db:q8)(t:Bool):Prop where ex:∃r:R2,OpR X (v9 op) r/\∀x y G H Q,aW G H->Rep X.K G x da->Rep X.K G y db->Q (V.bl t) H->r x y H Q
def c4Z:CmpD X .Lt (.int i) (.int j) (decide (i<j)):=#[_,c5Z,λx y G H Q _ b a q=>by cases b;cases a;exact#[_,_,rfl,rfl,q]]
def c5a:CmpD X .LtE (.int i) (.int j) (decide (i<=j)):=#[_,c6a,λx y G H Q _ b a q=>by cases b;cases a;exact#[_,_,rfl,rfl,q]]
def cmp_gt:CmpD X .Gt (.int i) (.int j) (decide (j<i)):=#[_,c6b,λx y G H Q _ b a q=>by cases b;cases a;exact#[_,_,rfl,rfl,q]]
def c5b:CmpD X .GtE (.int i) (.int j) (decide (j<=i)):=#[_,c6c,λx y G H Q _ b a q=>by cases b;cases a;exact#[_,_,rfl,rfl,q]]
noncomputable def c5S(X:Cx)(da db:q8)(neg:Bool):R2:=λx y H Q=>Rep X.K H x da/\Rep X.K H y db/\qm da=Qc/\qm db=Qc/\Q (.bl<|if neg then !PyData.eqv da db else ji da db) H
def c3S(hu:X.A.units+64<cLine) j i:OpR X (v9 .Eq) (c5S X j i Qd):=by rintro B s U H x y v u Q I d c⟨e,r2,g,f,q⟩;let⟨k,b⟩:=e.reads I d;let⟨bs,a⟩:=r2.reads I c;exact eq_dataH b a g f hu #[.bl _,H,I,rfl,q]
def c3M(hu:X.A.units+64<cLine) j i:OpR X (v9 .NotEq) (c5S X j i Qc):=by rintro B s U H x y v u Q I d c⟨e,r2,g,f,q⟩;let⟨k,b⟩:=e.reads I d;let⟨bs,a⟩:=r2.reads I c;exact ne_dataH b a g f hu #[.bl _,H,I,rfl,q]
def c5c(hu:X.A.units+64<cLine)(d:qm da=Qc)(c:qm db=Qc):CmpD X .Eq da db (ji da db):=#[_,c3S hu da db,λx y G H Q s b a q=>#[b.mono s,a.mono s,d,c,q]]
def c4Y(hu:X.A.units+64<cLine)(d:qm da=Qc)(c:qm db=Qc):CmpD X .NotEq da db (!PyData.eqv da db):=#[_,c3M hu da db,λx y G H Q s b a q=>#[b.mono s,a.mono s,d,c,q]]
variable{rest:T0n}
def b3y{K:qB}(r:RepAll K G Y O)(h:atI O i=Qa d):∃v,atI Y i=Qa v/\Rep K G v d:=by unfold atI at h⊢;rw[r.length];cases e:ixN O.length i with|none=>rw[e]at h;cases h|some j=>rw[e]at h;exact r.get h
noncomputable def spD(K:qB)(F:List q8->q8->Prop):Sp:=λvs H Q _=>∃G O d,(aW G H/\oZ K G H)/\RepAll K G vs O/\F O d/\∀v G' H',Grow G H G' H'->Rep K G' v d->Q v H'
end
def Walk(K:qB)(J:It)(G:Hp)(O:T0l):Prop:=∀ i G' H',aW G G'->aW G' H'->(∀d,O[i]?=Qa d->J.go i H'/\∀x H2,J.yld i H' x H2->∃G2,Grow G' H' G2 H2/\Rep K G2 x d)/\(O.length<=i->J.stop i H')
def b9f(K:qB)(J:It)(G H:Hp)(O:T0l):Prop:=∀ i G' H',Grow G H G' H'->(∀d,O[i]?=Qa d->J.go i H'/\∀x H2,J.yld i H' x H2->∃G2,Grow G' H' G2 H2/\Rep K G2 x d)/\(O.length<=i->J.stop i H')
def Walk.h{K:qB}(w:Walk K J G O):b9f K J G H O:=λi b a g=>w i b a g.gg g.sub
noncomputable def tID(K:qB)(Z:List Ent)(O:T0l):TI:=λU H R=>∃H0 Gz G,RepS K H0 Gz G H U Z/\∀J G' H',Grow G H G' H'->Walk K J G' O->R J H'
structure PID(X:Cx)(tg iter:Expr)(Z:List Ent)(O:T0l):Prop where run:PI X tg iter (tID X.K Z O)
def b3D{K:qB}{a:Addr}(f:SqL K G a Y)(r:RepAll K G Y O):Walk K (Itl K a) G O:=by intro i o s c b;refine#[λd e=>?_,λp=>#[Y,(c.trans b).seq f,by rwa[r.length]]];let⟨v,g,j⟩:=r.get e;refine#[#[Y,v,(c.trans b).seq f,g],?_];rintro x q⟨k,y⟩;subst k;have z:=y Y<|(c.trans b).seq f;rw[g]at z;cases z;exact#[o,.refl b,j.mono c]
def b5C{K:qB}{a:Addr}(f:SqT K G a Y)(r:RepAll K G Y O):Walk K (Itt K a) G O:=by intro i o s c b;refine#[λd e=>?_,λp=>#[Y,uD (c.trans b) f,by rwa[r.length]]];let⟨v,g,j⟩:=r.get e;refine#[#[Y,v,uD (c.trans b) f,g],?_];rintro x q⟨k,y⟩;subst k;have z:=y Y<|uD (c.trans b) f;rw[g]at z;cases z;exact#[o,.refl b,j.mono c]
noncomputable def a0i(lo:Int)(n:Nat):List q8:=(qj n).map λ(k:Nat)=>.int<|lo+(k:Int)
def b5D{K:qB} lo n:Walk K (Itr lo n) G (a0i lo n):=by
 intro i j p k b;unfold a0i;refine#[λd e=>?_,λc=>by rwa[qF,kJ]at c];rw[qS]at e;by_cases a:i<n;.rw[zC a]at e;cases e;refine#[a,?_];rintro x o⟨g,f⟩;subst g f;exact#[j,.refl b,.int _]
 .rw[jE<|by simpa using a]at e;cases e
def PI.imp(h:PI X tg iter wi)(k:∀U H R,wi' U H R->wi U H R):PI X tg iter wi':=λB s U H R I w=>h B s U H R I<|k U H R w
def b6r(h:PD X iter Z (.list O)):PID X tg iter Z O:=#[PI.imp (a7x h.pe)<|by rintro U H R⟨d,e,G,S,q⟩;exact#[d,e,G,S,λv g f b c=>by cases c with|list a r=>exact#[_,rfl,#[_,b.sub.seq a],q _ _ _ b<|b3D a r]]]
def b9O(h:PD X iter Z (.tuple O)):PID X tg iter Z O:=#[PI.imp (c3t h.pe)<|by rintro U H R⟨d,e,G,S,q⟩;exact#[d,e,G,S,λv g f b c=>by cases c with|tuple a r=>exact#[_,rfl,#[_,uD b.sub a],q _ _ _ b<|b5C a r]]]
def b0X{n:Int}(f:X.mg "range"=Qb)(i:PD X a Z (.int n))(k:-(2^62)<=n)(j:n<2^62)(e:j4 [a] X.env=[(Qd,eval a X.env)]:=by rfl)(b:j4 [a] X.env=(Qd,eval a X.env)::j4 [] X.env:=by rfl)(g:Gl X "range":=by rfl):PID X tg (.Call (.Name "range" p) [a] [] pos) Z (a0i 0 n.toNat):=#[PI.imp (b4j g f (oO i tG b).pa e)<|by rintro U H R⟨s,t,G,S,q⟩;exact#[s,t,G,S,λu w v o d=>by cases d with|cons r c=>cases c;cases r;exact#[n,rfl,k,j,q _ _ _ o<|b5D 0 n.toNat]]]
noncomputable def tGD(K:qB)(Z:List Ent)(d:q8)(ρ':List Ent):TG:=λv U H Q=>∃H0 Gz G,RepS K H0 Gz G H U Z/\Rep K G v d/\∀σ',RepS K H0 Gz G H σ' ρ'->Q σ' H
noncomputable def c7l(K:qB)(Z:List Ent)(O:T0l)(ρ':List Ent):TGs:=λvs U H Q=>∃H0 Gz G,RepS K H0 Gz G H U Z/\RepAll K G vs O/\∀σ',RepS K H0 Gz G H σ' ρ'->Q σ' H
structure PGD(X:Cx)(tg:Expr)(Z:List Ent)(d:q8)(ρ':List Ent):Prop where run:PG X tg (tGD X.K Z d ρ')
structure PGsD(X:Cx)(ts:T0n)(Z:List Ent)(O:T0l)(ρ':List Ent):Prop where run:PGs X ts (c7l X.K Z O ρ')
variable{ρ1 ρ2:List Ent}
def a9h i{x:Str}(c:X.N.Nodup)(hi:X.N[i]?=Qa x:=by rfl)(hx:Loc X.env.scope x:=by first|exact jU rfl|exact qz rfl)(b:U7 X x:=by first|exact .inl rfl|exact .inr rfl):PGD X (.Name x pos) Z d (Z.set i<|.val d):=#[by rintro B s U H v u Q I r⟨e,f,G,S,a,q⟩;exact b9S c hi hx b B s U H v u Q I r<|q _<|S.set a]
def b6t:PGsD X [] Z [] Z:=#[by rintro B s U H c a Q I r⟨d,e,G,S,b,q⟩;cases b;exact b9Q B s U H [] a Q I r #[rfl,q U S]]
def b4k(o:PGD X e Z d ρ1)(k:PGsD X es ρ1 O ρ2)(j:(wq (e::es) X.env).map (·.2)=assign e X.env::(wq es X.env).map (·.2):=by rfl):PGsD X (e::es) Z (d::O) ρ2:=#[by rintro B s U H t f Q I r⟨a,b,G,S,g,q⟩;cases g with|cons i r2=>exact b6u o.run k.run j B s U H _ f Q I r #[_,_,rfl,a,b,G,S,i,λc p=>#[a,b,G,p,r2,q]]]
def b9R(f:X.calm=Qc)(h:PGsD X es Z O ρ1)(e:(wq es X.env).length=O.length:=by rfl)(a:(wq es X.env).findIdx? (·.1)=none:=by rfl):PGD X (.Tuple es k pos) Z (.tuple O) ρ1:=#[by rintro B s U H v u Q I r⟨g,i,G,S,c,q⟩;cases c with|tuple d b=>exact c3u f h.run e a B s U H _ u Q I r #[_,_,rfl,uD S.sub d,b.length,g,i,G,S,b,q]]
inductive Out where|nx(Z:List Ent)|rt(d:q8)|bk(Z:List Ent)|ct(Z:List Ent)
def c2C(K:qB)(H0 Gz G:Hp)(D:Ends):Out->Prop|.nx Z=>∀G' H' σ',aW G G'->RepS K H0 Gz G' H' σ' Z->D.nx σ' H'|.rt d=>∀v G' H',aW G G'->Grow Gz H0 G' H'->Rep K G' v d->D.rt v H'|.bk Z=>∀G' H' σ',aW G G'->RepS K H0 Gz G' H' σ' Z->D.bk σ' H'|.ct Z=>∀G' H' σ',aW G G'->RepS K H0 Gz G' H' σ' Z->D.ct σ' H'
noncomputable def tSD(K:qB)(Z:List Ent)(o:Out):TS:=λD U H=>∃H0 Gz G,RepS K H0 Gz G H U Z/\c2C K H0 Gz G D o
structure PSD(X:Cx)(st:Stmt)(Z:List Ent)(o:Out):Prop where run:PS X st (tSD X.K Z o)
inductive Weak:List Ent->List Ent->Prop|nil:Weak [] []|keep{e:Ent}{a b:List Ent}:Weak a b->Weak (e::a) (e::b)|no{e:Ent}{a b:List Ent}:Weak a b->Weak (e::a) (.no::b)
theorem Weak.refl:∀Z:List Ent,Weak Z Z|[]=>.nil|_::r=>.keep<|Weak.refl r
theorem Weak.at:∀{a b:List Ent}{i:Nat}{e:Ent},Weak a b->b[i]?=Qa e->e=.no\/a[i]?=Qa e
 |_,_,_,_,.nil,h=>by simp at h|_,_,0,e,.keep _,h=>.inr (by exact h)|_,_,0,e,.no _,h=>.inl (by simpa using h.symm)|_,_,i+1,e,.keep w,h=>by
  rcases Weak.at (i:=i) w (by simpa using h)with z|z;.exact .inl z
  .exact .inr (by simpa using z)|_,_,i+1,e,.no w,h=>by
  rcases Weak.at (i:=i) w (by simpa using h)with z|z;.exact .inl z
  .exact .inr (by simpa using z)
theorem Weak.length:∀{a b:List Ent},Weak a b->a.length=b.length|_,_,.nil=>rfl|_,_,.keep w=>by simp[Weak.length w]|_,_,.no w=>by simp[Weak.length w]
def RepS.weak{K:qB}(R:RepS K H0 Gz G H U Z)(w:Weak Z ρ'):RepS K H0 Gz G H U ρ':=by
 refine#[R.grow,R.len.trans w.length,λi o e b a=>?_,R.inj.sub λi e b a=>?_,R.tab]
 .obtain z|z:=w.at a;.subst z;trivial
  .exact R.ent i o e b z
 .obtain z|z:=w.at b;.subst z;cases a
  .exact#[z,rfl]
section
variable{rest:List Stmt}{o:Out}
def PSD.of{t:TS}(h:PS X st t)(k:∀H0 Gz G U H D,RepS X.K H0 Gz G H U Z->c2C X.K H0 Gz G D o->t D U H):PSD X st Z o:=#[by rintro B s U H D I⟨H0,Gz,G,S,q⟩;exact h B s U H D I<|k H0 Gz G U H D S q]
end
noncomputable def cF(cap:T0e)(Z:List Ent):List Ent:=cap.map λo=>match o with|some j=>(match Z[j]? with|some (.val d)=>.val d|some (.adr a)=>.adr a|some (.ro oa b)=>.ro oa b|_=>.no)|none=>.no
def a2p cap Z:∀(i:Nat) e,(cF cap Z)[i]?=Qa e->a4A e=false:=λi e h=>by unfold cF at h;rw[qS]at h;cases k:cap[i]? with|none=>rw[k]at h;cases h|some c=>rw[k]at h;cases c with|none=>cases h;rfl|some j=>have f:(match Z[j]? with|some (Ent.val d)=>Ent.val d|some (Ent.adr a)=>Ent.adr a|some (Ent.ro oa b)=>Ent.ro oa b|_=>Ent.no)=e:=qA h;cases g:Z[j]? with|none=>rw[g]at f;subst f;rfl|some q=>rw[g]at f;cases q<;>(subst f;rfl)
theorem RepS.cap{K:qB}{I J G H:Hp}{U:St}{Z:List Ent}(R:RepS K I J G H U Z) cap:RepS K H G G H (iH cap U) (cF cap Z):=by refine#[.refl R.sub,by simp[iH,cF],λi o e g f=>?_,Inj.free<|a2p cap Z,R.tab];.unfold iH at g;unfold cF at f;rw[qS]at g f;cases t:cap[i]? with|none=>rw[t]at g;cases g|some c=>rw[t]at g f;cases c with|none=>cases f;trivial|some j=>have g:(U[j]?).getD Qb=o:=qA g;have f:(match Z[j]? with|some (Ent.val d)=>Ent.val d|some (Ent.adr a)=>Ent.adr a|some (Ent.ro s b)=>Ent.ro s b|_=>Ent.no)=e:=qA f;cases k:Z[j]? with|none=>rw[k]at f;subst f;trivial|some q=>rw[k]at f;cases q with|no=>subst f;trivial|lst O=>subst f;trivial|exc c=>subst f;trivial|nst F=>subst f;trivial|dct w=>subst f;trivial|adr a=>subst f;rw[(R.at k).choose_spec.1]at g;exact g▸(R.at k).choose_spec.2|ro s b=>subst f;let⟨L,E,a,A,D,C,r,_⟩:=R.at k;rw[E]at g;subst D;exact#[a,A,g.symm,C,r,λx y z=>by let⟨u,p,_⟩:=r.there x y;rw[z]at p;cases p]|val d=>subst f;let⟨v,e,r⟩:=R.val k;rw[e]at g;subst g;exact#[v,rfl,r]
variable{t:Bool}{Q:VK}
section
variable{cap:T0e}{ρb:List Ent}{α:Type}{Y:List α}{φ f:α->q8}{cnd:α->Bool}{ρx:α->List Ent}
structure PTsD(X:Cx)(ifs:T0n)(Z:List Ent)(b:Bool):Prop where run:PTs X ifs (tTD X Z b)
def b6k:PTsD X [] Z true:=#[by rintro B s U H Q I⟨a,b,G,R,q⟩;exact b9J B s U H Q I<|q G H<|.refl R.sub]
def b6j(h:PTD X c Z t):PTsD X [c] Z t:=#[b9I h.pt]
def gU(K:qB)(Y:List α)(φ:α->q8)(ρb:List Ent)(ρx:α->List Ent):TG:=λv U H Q=>∃x∈Y,tGD K ρb (φ x) (ρx x) v U H Q
noncomputable def tU(K:qB)(Y:List α)(ρx:α->List Ent)(cnd:α->Bool):TT:=λU H Q=>∃x∈Y,∃H0 Gz G,RepS K H0 Gz G H U (ρx x)/\∀G' H',Grow G H G' H'->Q (cnd x) H'
noncomputable def eU(K:qB)(Y:List α)(ρx:α->List Ent)(cnd:α->Bool)(f:α->q8):TE:=λU H Q=>∃x∈Y,cnd x=Qc/\∃H0 Gz G,RepS K H0 Gz G H U (ρx x)/\∀v G' H',Grow G H G' H'->Rep K G' v (f x)->Q v H'
noncomputable def eUF(K:qB)(Y:List α)(ρx:α->List Ent)(cnd:α->Bool)(f:α->q8)(H0 Gz:Hp):TE:=λU H Q=>∃x∈Y,cnd x=Qc/\∃G,RepS K H0 Gz G H U (ρx x)/\∀v G' H',Grow G H G' H'->Rep K G' v (f x)->Q v H'
def b5I{g:TG}{c:TE}{a:St}(h:∀U H Q,te U H Q->c U H Q)(s:∀x U H Q d,(∀U H,Q U H->d U H)->g x U H Q->g x U H d)(r:∀U H Q d,(∀b H,Q b H->d b H)->tc U H Q->tc U H d)(t:yU J g tc te a H Q):yU J g tc c a H Q:=by
 let⟨W,j⟩:=t;refine#[W,λD k=>#[(j D k).1,λi m p f A w u=>?_]];rcases(j D k).2 i m p f A w u with z|⟨go,z⟩;.exact .inl z
 .refine .inr #[go,λx v y=>s _ _ _ _ _ (λo E q=>r _ _ _ _ (λb C e=>?_) q)<|z x v y];cases b with|true=>rw[if_pos rfl]at e⊢;exact h _ _ _ e|false=>rw[if_neg<|by decide]at e⊢;exact e
def c2O{K:qB}(R:RepS K H0 Gz G H U Z)(wk:b9f K J G H (Y.map φ))(hb:Weak (cF cap Z) ρb)(hw:∀x∈Y,Weak (ρx x) ρb)(hz:Y.length<=j5)(q:∀D ys G' H',Grow G H G' H'->G' D=Qa (.lst ys)->H D=Qb->RepAll K G' ys ((Y.filter cnd).map f)->Q (.ref D) H'):yU J (gU K Y φ ρb ρx) (tU K Y ρx cnd) (eUF K Y ρx cnd f H G) (iH cap U) H Q:=by
 refine#[λD i m ys σ' H'=>m=Y.length-i/\i<=Y.length/\∃G',RepS K H G G' H' σ' ρb/\G' D=Qb/\RepAll K G' ys (((Y.take i).filter cnd).map f),λD hD=>#[#[Y.length,by simp,jJ _,G,?_,R.sub.free hD,by simpa using RepAll.nil],?_]];.exact((R.cap cap).more<|.side R.sub hD).weak hb
 .rintro i m ys σ1 H1⟨rfl,hi,G1,I,hG1,L⟩F;let⟨wgo,w⟩:=wk i G1 H1 I.grow;by_cases p:i<Y.length
  .have hx:=qN p;have M:=jm p;let⟨go,yl⟩:=wgo (φ Y[i]) (by rw[qS,hx];rfl);have tk:(Y.take<|i+1).filter cnd=(Y.take i).filter cnd++(if cnd Y[i]=Qc then[Y[i]]else[]):=by rw[List.take_succ,hx,List.filter_append];cases k:cnd Y[i]<;>simp[k]
   refine .inr #[go,λx H2 y=>?_];let⟨G2,g2,rx⟩:=yl x H2 y;refine#[Y[i],M,H,G,G2,I.more g2,rx,λσ3 R3=>#[Y[i],M,H,G,G2,R3,λG4 H4 g4=>?_]];have t:=g2.trans g4;have A:=t.hh.lst F;have X:=t.new D hG1 (by rw[F];simp);dsimp only;by_cases k:cnd Y[i]=Qc
   .rw[if_pos k];refine#[Y[i],M,k,G4,R3.more g4,λv G5 H5 g5 rv=>?_];have r:=g5.hh.lst A;have T:=g5.new D X (by rw[A];simp);have N:ys.length<j5:=by
     have h1:=L.length;have s:(((Y.take i).filter cnd).map f).length<=i:=by rw[qF];exact qk (jZ _ _) (by rw[jw];lia)
     lia
    refine#[r,N,Y.length-(i+1),by lia,rfl,p,G5,?_,T,?_]
    .have u:=((R3.more g4).more g5).weak (hw _ M)--the list at D has one item more;nothing else speaks of D
     have g:∀(j:Nat)(e:Ent),ρb[j]?=Qa e->a4A e=false:=λj e s=>by
      obtain z'|z':=hb.at s;.rw[z'];rfl
      .exact a2p cap Z j e z'
     have S:=hD;refine#[#[u.grow.gg,u.grow.hh.wr S r,λb o e=>?_,u.grow.new,u.grow.nt],u.len,λj o e h1 s=>?_,Inj.free (λj e s=>g j e s),u.tab.wr r];.rw[aF<|aP e T];exact u.sub b o e
     .have E:=u.ent j o e h1 s;cases e with|no=>trivial|val d=>exact E|exc c=>let⟨b,C,z,g1,g2⟩:=E;exact#[b,C,z,g1,by rwa[aF<|dI g2 r<|by unfold xcO;nofun]]|lst es=>have:=g j _ s;cases this|nst dss=>have:=g j _ s;cases this|dct kvs=>have:=g j _ s;cases this|adr a=>exact E|ro oa b=>exact yL.wr E S
    .rw[tk,if_pos k,jD];exact(L.mono<|(t.trans g5).gg).append (.cons rv .nil)
   .rw[if_neg k];refine#[A,Y.length-(i+1),by lia,rfl,p,G4,(R3.more g4).weak<|hw _ M,X,?_];rw[tk,if_neg k,ja];exact L.mono t.gg
  .refine .inl #[w (by rw[qF];lia),?_];have hi':i=Y.length:=by lia
   subst hi';rw[List.take_length]at L;have sD:aW G1 (upd G1 D<|.lst ys):=cW hG1;refine q D ys (upd G1 D<|.lst ys) H1 #[I.grow.gg.trans sD,I.grow.hh,λb o e=>?_,λb e n=>?_,λn=>(I.grow.nt n).upd<|by nofun] aK hD (L.mono sD)
   .by_cases P:b=D;.subst P;rw[aK]at e;cases e;exact F
    .rw[aF P]at e;exact I.sub b o e
   .rw[aF<|λz=>n<|by rwa[z]];exact I.grow.new b e n
def b0D{K:qB}(R:RepS K H0 Gz G H U Z)(i:b9f K J G H (Y.map φ))(r:Weak (cF cap Z) ρb)(o:∀x∈Y,Weak (ρx x) ρb)(k:Y.length<=j5)(q:∀D ys G' H',Grow G H G' H'->G' D=Qa (.lst ys)->H D=Qb->RepAll K G' ys ((Y.filter cnd).map f)->Q (.ref D) H'):yU J (gU K Y φ ρb ρx) (tU K Y ρx cnd) (eU K Y ρx cnd f) (iH cap U) H Q:=b5I (t:=c2O R i r o k q) (by rintro U H' E⟨x,a,p,G',w,j⟩;exact#[x,a,p,H,G,G',w,j]) (by rintro v U H' z y h⟨x,a,d,g,e,R2,r2,c⟩;exact#[x,a,d,g,e,R2,r2,λb u=>h _ _<|c b u])
  (by rintro U H' z y h⟨x,a,d,g,e,R2,c⟩;exact#[x,a,d,g,e,R2,λC A s=>h _ _<|c C A s])
def b3J{K:qB}(R:RepS K H0 Gz G H U Z)(a:Walk K J G (Y.map φ))(d:Weak (cF cap Z) ρb)(c:∀x∈Y,Weak (ρx x) ρb)(b:Y.length<=j5)(q:∀D ys G' H',Grow G H G' H'->G' D=Qa (.lst ys)->H D=Qb->RepAll K G' ys ((Y.filter cnd).map f)->Q (.ref D) H'):yU J (gU K Y φ ρb ρx) (tU K Y ρx cnd) (eU K Y ρx cnd f) (iH cap U) H Q:=b0D R a.h d c b q
def a8I{K:qB}(R:RepS K H0 Gz G H U Z)(a:Walk K J G (Y.map φ))(e:Weak (cF cap Z) ρb)(d:∀x∈Y,Weak (ρx x) ρb)(c:Y.length<=j5)(q:∀v G' H',Grow G H G' H'->Rep K G' v (.list<|(Y.filter cnd).map f)->Q v H'):yU J (gU K Y φ ρb ρx) (tU K Y ρx cnd) (eU K Y ρx cnd f) (iH cap U) H Q:=b3J R a e d c λD i G' H' g h _ b=>q _ G' H' g<|.list (.of h) b
def b9W(z:X.calm=Qc)(B0:Blk X scope N' cap)(hi:PID X tg iter Z (Y.map φ))(A:Weak (cF cap Z) ρb)(o:∀x∈Y,Weak (ρx x) ρb)(k:Y.length<=j5)(w:∀C a b fp x,x∈Y->PGD (cZ X scope N' C a b fp) tg ρb (φ x) (ρx x))(p:∀C a b fp x,x∈Y->PTsD (cZ X scope N' C a b fp) ifs (ρx x) (cnd x))(y:∀C a b fp x,x∈Y->cnd x=Qc->PD (cZ X scope N' C a b fp) elt (ρx x) (f x))(t:∀x,v6 iter X.env x=pure x:=by intro _;rfl):PD X (.ListComp elt [#[tg,iter,ifs,0]] scope pos) Z (.list<|(Y.filter cnd).map f):=.of (b2H (g:=gU X.K Y φ ρb ρx) (tc:=tU X.K Y ρx cnd) (te:=eU X.K Y ρx cnd f) z B0 hi.run (by rintro C a b fp B s U H v u Q I r⟨x,c,q⟩;exact(w C a b fp x c).run B s U H v u Q I r q)
  (by rintro C a b fp B s U H Q I⟨x,c,q⟩;exact(p C a b fp x c).run B s U H Q I q) (by rintro C a b fp B s U H Q I⟨x,c,d,e,i,G,R,q⟩;exact(y C a b fp x c d).run e i G B s U H Q I R q) t)
  λe i G U H Q R q=>#[e,i,G,R,λJ L K g j=>a8I (R.more g) j A o k λv F E D r2=>q v F E (g.trans D) r2]
def b6m i{x:Str}(M:X.N.Nodup)(K:X.calm=Qc)(B0:Blk X scope N' cap)(hi:PID X tg iter Z (Y.map φ))(L:Weak (cF cap Z) ρb)(y:∀x∈Y,Weak (ρx x) ρb)(w:Y.length<=j5)(E:∀C a b fp x,x∈Y->PGD (cZ X scope N' C a b fp) tg ρb (φ x) (ρx x))(z:∀C a b fp x,x∈Y->PTsD (cZ X scope N' C a b fp) ifs (ρx x) (cnd x))(F:∀C a b fp x,x∈Y->cnd x=Qc->PD (cZ X scope N' C a b fp) elt (ρx x) (f x))(c:X.N[i]?=Qa x:=by rfl)(hx:X.env.scope.names.lookup x=Qa .local:=by rfl)(d:wa (.ListComp elt [#[tg,iter,ifs,0]] scope pos) (Qa<|.Name x p) spos.line X.env=pure true:=by rfl)(A:∀x,v6 iter X.env x=pure x:=by intro _;rfl):PSD X (.Assign [.Name x p] (.ListComp elt [#[tg,iter,ifs,0]] scope pos) spos) Z (.nx<|Z.set i<|.val<|.list<|(Y.filter cnd).map f):=.of (b2D (g:=gU X.K Y φ ρb ρx) (tc:=tU X.K Y ρx cnd) (te:=eU X.K Y ρx cnd f) M c hx K B0 hi.run (by rintro C a b fp B s U H v u Q I r⟨x,hx,q⟩;exact(E C a b fp x hx).run B s U H v u Q I r q)
  (by rintro C a b fp B s U H Q I⟨x,hx,q⟩;exact(z C a b fp x hx).run B s U H Q I q) (by rintro C a b fp B s U H Q I⟨x,hx,e,j,k,G,R,q⟩;exact(F C a b fp x hx e).run j k G B s U H Q I R q) d A)
  λj k G U H D R q=>#[j,k,G,R,λJ T S g t=>a8I (R.more g) t L y w λv P N o r2=>q P N _ (g.gg.trans o.gg)<|((R.more g).more o).set r2]
end
noncomputable def nB(N:T0q)(O:T0l):List Ent:=O.map .val++qx (N.length-O.length) .no
def lO{K:qB}(s:aW G H/\oZ K G H)(r:RepAll K G vs O):RepS K H G G H (start N vs) (nB N O):=by
 have f:=r.length;refine#[.refl s.1,by simp[start,nB,f],λi o e c a=>?_,Inj.free (λi e a=>?_),s.2]
 .unfold nB at a;unfold start at c;by_cases b:i<O.length;.rw[qt (by simpa using b),qS]at a;rw[qt (by simp;lia),qS]at c;rw[qN b]at a;let⟨v,g,d⟩:=r.get<|qN b;rw[g]at c;cases c;cases a;exact#[v,rfl,d]
  .rw[jS (by simpa using b),jv]at a;split at a;.cases a;trivial
   .cases a
 .unfold nB at a;by_cases b:i<O.length;.rw[qt (by simpa using b),qS,qN b]at a;cases a;rfl
  .rw[jS (by simpa using b),jv]at a;split at a;.cases a;rfl
   .cases a
section
variable{K:qB}
abbrev fcx(P:Program)(w:World)(K:qB)(mg:T0d)(base:Heap)(N:T0q)(qual:Str)(scope:Scope)(f:Addr)(cd:Value)(A:Around)(outer:List Env)(s:Shared)(H:Hp)(E:XK):Cx:=(a2i CX0 P w K mg base N qual scope f cd A outer s H E).nox
end
section
variable{l:Addr}{Q:T0a}
end
noncomputable def c6g:List Int->Int|[]=>0|a::r=>r.foldl max a
noncomputable def c6f:List Int->Int|[]=>0|a::r=>r.foldl min a
def c5V(K:qB):R2:=λx y H Q=>∃l b Y zs,x=.ref l/\y=.ref b/\SqL K H l Y/\SqL K H b zs/\Y.length+zs.length<=j5/\∀p,H p=Qb->Q (.ref p) (upd H p<|.lst<|Y++zs)
noncomputable def c2B(so:Scope)(NN:T0q)(scope:Scope)(N':T0q)(cap:T0e):Bool:=decide (scope.kind=.function)&&scope.names.all (λy=>decide (y.2=.cell->scope.names.lookup y.1=Qa .cell))&&scope.names.all (λy=>decide (y.2=.local->scope.names.lookup y.1=Qa .local))&&scope.names.all (λy=>decide (y.2=.free->so.names.lookup y.1=Qa .cell))&&(qj cap.length).all (λi=>match cap[i]? with|some (Qa j)=>(match N'[i]?,NN[j]? with|some x,Qa y=>decide (x=y/\scope.names.lookup x=Qa .free)|_,_=>Qd)|_=>Qc)&&decide (cap.length=N'.length)&&decide N'.Nodup
def eT{so:Scope}{NN:T0q}{cap:T0e}(f:X.env.scope=so)(o:X.N=NN)(h:c2B so NN scope N' cap=Qc):Blk X scope N' cap:=by
 unfold c2B at h;simp only[qD,decide_eq_true_eq,qu]at h;let⟨⟨⟨⟨⟨⟨w,v⟩,u⟩,t⟩,s⟩,r⟩,p⟩:=h;refine#[w,v,u,λy e g=>?_,λi j a=>?_,r,p];.show X.env.scope.names.lookup y.1=Qa .cell;rw[f];exact t y e g
 .have k:=(qW.mp a).1;have q:=s i<|kH.mpr k;rw[a]at q;dsimp only at q;cases d:N'[i]? with|none=>rw[d]at q;cases q|some x=>rw[d]at q;cases b:NN[j]? with|none=>rw[b]at q;cases q|some y=>rw[b]at q;have c:=of_decide_eq_true q;exact#[x,rfl,by rw[o,b,c.1],c.2]
noncomputable abbrev Mt:=Str×Int×Int
noncomputable abbrev dM(m:Mt):q8:=.tuple [.str m.1,.int m.2.1,.int m.2.2]
abbrev dS(s:List Mt):q8:=.tuple<|s.map dM
section
variable{R:Result->Shared->Prop}{S:Addr}{wr:T0o}{n:Nat}{P:Nat->Value->Prop}{St:Nat->Heap->Prop}
end
section
variable{l:Addr}{Q:T0a}
end
section
variable{kp:Pos}
end
section
def b2P:OpR X (wz .Add) (c5V X.K):=by
 rintro B s U H x y v u Q I o k⟨l,b,Y,P,L,K,G,E,T,q⟩;subst L K;cases o;cases k;let⟨c,g,r,_⟩:=I.list G;let⟨a,r2,p,_⟩:=I.list E;let⟨⟨c1,N,S,e⟩,w,j,D,_,A⟩:=r;let⟨⟨c2,M,R,d⟩,t,i,C,_,z⟩:=p;subst D A C z;have f:c.toArray.size+a.toArray.size<=j5:=by rwa[qT,qT,<-g.length,<-r2.length]
 refine u9 #[_,j,rfl] #[_,i,rfl] noFill_list_add seq_list_add F.slot_list_add F.entry_list_add (F.args_list_add_2 _ _) (list_addW l b _ _ w t N M e d f) #[j,i,?_];have J:c.toArray++a.toArray=(c++a).toArray:=by simp
 rw[J];exact#[.ref _,_,I.lnew (t':=s.toks) (g.append r2) (by rwa[qY]),rfl,q _ I.fresh]
def c5T(K:qB):R2:=λx y H Q=>∃l b Y zs,x=.ref l/\y=.ref b/\SqT K H l Y/\SqT K H b zs/\Y.length+zs.length<=j5/\(Y=[]->Q (.ref b) H)/\(Y≠[]->zs=[]->Q (.ref l) H)/\(Y≠[]->zs≠[]->∀p,H p=Qb->Q (.ref p) (upd H p<|.tup<|Y++zs))
def c0g:OpR X (wz .Add) (c5T X.K):=by
 rintro B s U H x y v u Q I g f⟨l,b,Y,t,r,q,k,j,P,C,A,z⟩;by_cases a:Y=[]
 .subst r q;cases g;cases f;let⟨e,w,E,_⟩:=I.tuple k;let⟨i,r2,D,_⟩:=I.tuple j;let⟨⟨c1,T,t1,d⟩,p,N,J,L⟩:=E;let⟨⟨c2,S,t2,c⟩,o,M,G,K⟩:=D;subst N L M K;have R:e=[]:=by subst a;cases w;rfl
  exact u9 #[_,p,rfl] #[_,o,rfl] uw seq_tuple_add F.slot_tuple_add F.entry_tuple_add (F.args_tuple_add_2 _ _) (tuple_addW0 l b _ _ J G T S d c<|by rw[R];rfl) #[p,o,#[.ref b,H,I,rfl,C a]]
 .exact c0h B s U H x y v u Q I g f #[l,b,Y,t,r,q,k,j,a,P,A a,z a]
variable{o:Expr}
def a6o{i:String}{r:V->List V->Hp->VK->Prop}(pa:PlainAttrs T)(f:Slot T name i)(j:typeOf (.builtin i)=pure (.type "method_descriptor"))(D:MtR X i r)(C:PD X o Z da)(E:PAD X (e::es) Z O)(z:∀x G H,aW G H->Rep X.K G x da->tyV X.K T x H)(k:∀x vs G H Q,aW G H->Rep X.K G x da->RepAll X.K G vs O->(∀v G' H',Grow G H G' H'->Rep X.K G' v d->Q v H')->r x vs H Q)(c:U8 X o name:=by rfl)(g:U4 X cpos (e::es):=by rfl)(b:(apos.endLine==cpos.line)=true:=by rfl)(A:U5 X e es:=by rfl)(a:U6 X cpos es:=by rfl):PD X (.Call (.Attribute o name apos) (e::es) [] cpos) Z d:=.of (b2I pa f j D C.pe E.pa c g b A a) λu w G U H Q R q=>#[u,w,G,R,λx y K s t=>#[z x y K s.sub t,u,w,y,R.more s,λvs M J p r2=>k x vs M J Q p.sub (t.mono p.gg) r2 λv L I F r3=>q v L I (s.trans<|p.trans F) r3]]
def c1D:CmpD X .Eq (.int i) (.int j) (decide (i=j)):=#[_,b6H,λx y G H Q _ b a q=>by cases b;cases a;exact#[rfl,by simpa using q]]
def c1x:CmpD X .NotEq (.int i) (.int j) (!decide (i=j)):=#[_,b6G,λx y G H Q _ b a q=>by cases b;cases a;exact#[rfl,by simpa using q]]
def c1C{i j:Str}:CmpD X .Eq (.str i) (.str j) (decide (i=j)):=#[_,b6H,λx y G H Q _ b a q=>by cases b;cases a;exact#[rfl,by simpa using q]]
def c1w{i j:Str}:CmpD X .NotEq (.str i) (.str j) (!decide (i=j)):=#[_,b6G,λx y G H Q _ b a q=>by cases b;cases a;exact#[rfl,by simpa using q]]
def c1E{i j:Bool}:CmpD X .Eq (.bool i) (.bool j) (decide (i=j)):=#[_,b6H,λx y G H Q _ b a q=>by cases b;cases a;exact#[rfl,by simpa using q]]
def c1y{i j:Bool}:CmpD X .NotEq (.bool i) (.bool j) (!decide (i=j)):=#[_,b6G,λx y G H Q _ b a q=>by cases b;cases a;exact#[rfl,by simpa using q]]
end
structure Callee(P:Program)(w:World)(K:qB)(mg:T0d)(base:Heap)(x:Str)(k:Nat)(ps:T0q)(Fn:List q8->q8->Prop):Prop where ex:∃f fd,mg x=Qa (.ref f)/\jQ K (.ref f)=Qc/\Binds K fd ps []/\FnOk P w K mg base CX0 k f fd ps (spD K Fn)
structure Def(K:qB)(mg:T0d)(x:Str)(st:Stmt):Prop where ex:∃f fd,Fun K x x st f fd/\mg x=Qa (.ref f)
def def_mk{K:qB}{h:Heap}{x:Str}{f:Addr}{kV:Value}(X:K.In h)(G:h.Ns j6 mg)(a:jF K j6 x=Qa (Qa<|.ref f))(l:K.lookup f=Qa #[oc,od,.func<|jY x x (fV st) (bU st) (aD st) .none kV doc pm an cdv ct,sl])(c:kz K cdv x=Qc)(k:jQ K (.ref f)=Qc):Def K mg x st:=#[f,_,a7Z l c k,kR X G a]
section
variable{K:qB}{x:Str}{Fn:List q8->q8->Prop}
end
def b7S(a b:T0l):ji (.list a) (.list b)=kU a b:=by rw[ji]
theorem a2Q:∀a b:List Str,kU (a.map .str) (b.map .str)=decide (a=b)
 |[],[]=>by simp[kU]|[],_::_=>by simp[kU]|_::_,[]=>by simp[kU]|x::a,y::b=>by
  have c:=a2Q a b;simp only[qE,kU,c,ji];by_cases h:x=y;.subst h;by_cases d:a=b<;>simp
  .simp[h]
def b7T a b:ji (dM a) (dM b)=decide (a=b):=by let⟨o,k,j⟩:=a;let⟨i,g,f⟩:=b;simp only[ji,kU];by_cases e:o=i<;>by_cases d:k=g<;>by_cases c:j=f<;>simp[e,d,c]
def a1f(h:∀d∈O,ka d=Qc):q8.canLayAll0 O=true:=by induction O with|nil=>rfl|cons d r a=>rw[q8.canLayAll0,h d qr,a λe b=>h e<|qG _ b];rfl
def a2T{n:Nat}(h:∀d∈O,zA d<=n):q8.depthAll O<=n:=by induction O with|nil=>simp[q8.depthAll]|cons d r a=>have f:=h d qr;have c:=a λe b=>h e<|qG _ b;simp only[q8.depthAll];lia
def a6g{n:Nat}(c:ka d=Qc)(b:zA d<=n)(a:n<=64):qm d=true:=by unfold qm;rw[c,Bool.true_and];exact decide_eq_true<|qk b a
section
variable{o:Expr}
def cutD(Y:T0l)(lo hi:Option Int):List q8:=(Y.drop<|HT.sIx Y.length 0 lo).take<|HT.sIx Y.length Y.length hi-HT.sIx Y.length 0 lo
def a1c{K:qB}(r:RepAll K G Y O) lo hi:RepAll K G (b0f Y lo hi) (cutD O lo hi):=by unfold b0f cutD;rw[r.length];exact(r.drop _).take _
def a6O O{k:Int}(h:0<=k):cutD O (Qa k) Qb=O.drop k.toNat:=by
 have e:HT.sIx O.length 0 (Qa k)=min k.toNat O.length:=by show(if k<0 then(k+(O.length:Int)).toNat else min k.toNat O.length)=_;rw[if_neg<|by lia]
 unfold cutD;rw[e,HT.sIx_none];by_cases a:k.toNat<=O.length;.rw[Nat.min_eq_left a,kM<|by rw[kQ];exact qM _]
 .rw[Nat.min_eq_right (by omega),zM<|qM _,zM (by omega),List.take_nil]
def b5d O{k:Int}(h:0<=k):cutD O Qb (Qa k)=O.take k.toNat:=by
 have e:HT.sIx O.length O.length (Qa k)=min k.toNat O.length:=by show(if k<0 then(k+(O.length:Int)).toNat else min k.toNat O.length)=_;rw[if_neg<|by lia]
 unfold cutD;rw[e,HT.sIx_none,List.drop_zero,Nat.sub_zero];by_cases a:k.toNat<=O.length;.rw[Nat.min_eq_left a]
 .rw[Nat.min_eq_right (by omega),kM<|qM _,kM<|by omega]
def a9O:inV (.int i) (ns.map V.int)=decide (i∈ns):=by unfold inV;induction ns with|nil=>rfl|cons a r b=>
  rw[qE,kD,b];have e:eqV (.int a) (.int i)=decide (a=i):=rfl;rw[e];by_cases h:a=i;.subst h;simp
  .have c:¬i=a:=λz=>h z.symm;simp[h,c]
def a9N{ns:T0q}{i:Str}:inV (.str i) (ns.map V.str)=decide (i∈ns):=by unfold inV;induction ns with|nil=>rfl|cons a r b=>
  rw[qE,kD,b];have e:eqV (.str a) (.str i)=(a==i):=rfl;rw[e];by_cases h:a=i;.subst h;simp
  .have c:¬i=a:=λz=>h z.symm;simp[h,c]
def a6J(ns:T0s):(ns.map V.int).all tX=true:=by simp[tX]
def a6I(ns:T0q):(ns.map V.str).all tX=true:=by simp[tX]
end
noncomputable def tyD:q8->String
 | .none => "NoneType"
 | .bool _ => "bool"
 | .int _ => "int"
 | .str _ => "str"
 | .list _ => "list"
 | .tuple _ => "tuple"
 | .dict _ => "dict"
section
variable{o:Expr}
def b7p{Q:T0a}{k u:Value}(I:Inv X B U H s)(r:Rep X.K H v d)(b:RelV v u)(e:zV X.K (.type<|tyD d) k=Qa t)(h:∀tk,Q (.bool t) {s with toks:=tk}):wpAny (model X.prog X.w) A (call (.builtin "isinstance") [u,k]) Q E s:=by cases r with|none=>exact yA I b .non e h|bool x=>exact yA I b (.bl x) e h|int x=>exact yA I b (.int x) e h|str x=>exact yA I b (.str x) e h|list c q=>cases b;let⟨g,_,⟨o,n,j,i,_⟩,_⟩:=I.list c;exact jV wH I.kIn #[o,j,i] e (λz=>nomatch z) h|tuple c q=>cases b;let⟨g,_,⟨o,j,i,_⟩,_⟩:=I.tuple c;exact jV PySem.W.kitx_tuple I.kIn #[o,j,i] e (λz=>nomatch z) h|@dict a f _ c _ _=>cases(show u=jC a from b);let⟨_,_,C,_,p⟩:=(show eB X.prog X.w H s.heap a (.dK f)from c.ok I.hok);let⟨o,D,F,y,w,_⟩:=p;exact jV wI I.kIn #[o,y,w.1] e (λz=>nomatch z) h
end
theorem b2j:∀{bs:List Bool}{us:T0m},bJ (bs.map V.bl) us->us=bs.map jy|[],_,r=>by cases r;rfl|b::bs,_,r=>by cases r with|cons a r2=>cases a;rw[b2j r2];rfl
def range_all(bs:List Bool):((qj bs.length).all λi=>bs.getD i Qd)=bs.all id:=by
 rw[kq];simp only[qu,kH];constructor;.intro h b c;let⟨i,a,rfl⟩:=ze.mp c;have:=h i a;simpa[qN a]using this
 .intro h i a;have:=h bs[i]<|jm a;simpa[qN a]using this
section
variable{o:Expr}
def b5h(C:X.calm=Qc):pC X (.builtin "all") (λY H Q=>∃(p:Addr)(bs:List Bool),Y=[.ref p]/\SqL X.K H p (bs.map V.bl)/\Q (.bl<|bs.all id) H):=by
 rintro B s U H Y F Q I r⟨p,bs,e,y,q⟩;subst e;let⟨u,rfl,f⟩:=vals1 r;cases f;let⟨w,j,k,K⟩:=I.list y;have E:=b2j j;subst E;have c:=k.isList;have lt:p<s.heap.objs.size:=by let⟨o,g,_⟩:=c;exact qQ g
 refine call_all_walk<|yu c ?_;refine#[s.heap.objs.size,_,_,_,_,_,λi=>bs.getD i Qd,rfl,Walks.list (A:=X.A.in1) (I.ok.hd C) _ p (qd lt) (bs.map jy).toArray,#[#[_,qP _ rfl,rfl,rfl],c.push _],λi v J N P a L=>?_,λM G t=>?_];.have a:(bs.map jy).toArray[i]?=Qa v:=a;rw[zX,qS]at a;cases d:bs[i]? with|none=>rw[d]at a;cases a|some b=>
   rw[d]at a;cases a;refine wp ?_;have:bs.getD i Qd=b:=by rw[vG,d];rfl
   rwa[<-this]
 .have sz:(bs.map jy).toArray.size=bs.length:=by simp
  rw[sz,range_all];refine#[.bl _,H,I.kept (λb o g=>t b o ?_<|qC _ g),rfl,q];intro D;have z:b=s.heap.objs.size:=by simpa using D
  exact absurd (qQ g) (by rw[z];exact jl _)
theorem a0H{K:qB}{G:Hp}:∀ns:List Int,RepAll K G (ns.map V.int) (ns.map .int)|[]=>.nil|_::r=>.cons (.int _)<|a0H r
end
noncomputable def Its(n:Nat)(val:Nat->V):It:=#[λi _=>i<n,λi H x H'=>H'=H/\x=val i,λi _=>n<=i]
def b0x{K:qB}{x:Str}{n:Nat}{N:Nat->Value->Prop}{St:Nat->Heap->Prop}{val:Nat->V}(W:∀R:Around,R.handled=Qb->Walks P w R it [it] [it] n N St)(f:∀i h,St i h->∃o,h.get? it=Qa o/\∀v,o.data≠.cell v)(T:∀i u,i<n->N i u->RelV (val i) u)(c:∀ A i s(Q:T0a)(E:T0a),St i s.heap->Q (.ref it) s->wpAny (model P w) A (QA<|.ref it) Q E s):Turn P w K (.Name x px) (Its n val) [it] it (λi h=>i<=n/\St i h)where
 mem:=by simp
 obj:=λi h a b d=>by
  have e:b=it:=by simpa using d
  subst e;exact f i h a.2
 keep:=λi h p a k=>#[a.1,(W {} rfl).frame i h p a.2 k];item:=by intro X z t C y i B s U H E I j a g;subst z t C;let⟨L,J,f2,G,F,D⟩:=j it (by simp);refine(W X.A<|I.ok.hd y).item i s _ _ g a.2 λu p M S q r=>#[u,rfl,j3 ?_];have I1:Inv X B U H {s with heap:=p,toks:=M}:=I.turned (λb o d e=>r b o (by simpa using d) e) L J G F D;exact#[val i,H,I1,T i u g S,#[rfl,rfl],#[g,q],λb d=>(j b d).1]
 done:=by intro X z t C y i B s U H E I j a g;subst z t C;let⟨L,J,f2,G,F,D⟩:=j it (by simp);have e:=Nat.le_antisymm a.1 g;subst e;exact(W X.A<|I.ok.hd y).done s _ _ a.2 λp M r=>#[rfl,I.turned (λb o d e=>r b o (by simpa using d) e) L J G F D]
 self:=λA i s Q E a h=>c A i s Q E a.2 h
noncomputable def lettersOf(z:Str):List Str:=z.cps.toList.map λc=>#[(List.toArray [c])]
section
variable{x:Str}
def b9P(h:PD X iter Z (.str z))(hc:X.calm=Qc):PID X (.Name x px) iter Z ((lettersOf z).map .str):=by
 refine#[?_];rintro B s U H R I⟨H0,Gz,G,S,q⟩;refine thn (h.run H0 Gz G B s U H (λv L=>v=.str z/\∃p,Grow G H p L) I S λv p L g r=>by cases r;exact#[rfl,p,g]) ?_;rintro v a⟨y,T,K,r1,e1,G1,g1⟩;subst e1;let⟨t,rfl⟩:=r1;have wk:Walk X.K (Its z.cps.size λi=>.str #[(List.toArray [z.cps.getD i 0])]) G1 ((lettersOf z).map .str):=by
  intro i p L a s2;have M:((lettersOf z).map qb).length=z.cps.size:=by simp[lettersOf]
  refine#[λd e=>?_,λF=>by rwa[M]at F];have j:i<z.cps.size:=by have:=(qW.mp e).1;rwa[M]at this
  refine#[j,?_];rintro y H2⟨e2,e3⟩;subst e2 e3;refine#[p,.refl s2,?_];have ed:d=.str #[(List.toArray [z.cps.getD i 0])]:=by unfold lettersOf at e;rw[qS,qS,jt,jI j]at e;have:=qA e;rw[<-this];simp[j]
  rw[ed];exact .str _
 have hv:∀i u,i<z.cps.size->SignAt z i u->RelV (.str #[(List.toArray [z.cps.getD i 0])]) u:=by rintro i u j⟨c,t',P,rfl⟩;refine#[t',?_];rw[jI j]at P;have:=qA P;simp[j,this]
 have k:∀(cl:String)(o:Obj),o={cls:=.type cl,data:=.fields<|List.toArray [.str z t,.int 0 0]}->(∀w:Around,w.handled=Qb->Walks X.prog X.w w a.heap.objs.size [a.heap.objs.size] [a.heap.objs.size] z.cps.size (SignAt z) (λi h=>h.IsStrIter a.heap.objs.size cl z t i))->(∀(A:Around)(i:Nat)(s:Shared)(Q:T0a)(E:T0a),s.heap.IsStrIter a.heap.objs.size cl z t i->Q (.ref a.heap.objs.size) s->wpAny (model X.prog X.w) A (QA<|.ref a.heap.objs.size) Q E s)->PIE X B U (.Name x px) R (.ref a.heap.objs.size) {a with heap:=a.heap.push o}:=by
  intro cl o eo W f;subst eo;refine#[a.heap.objs.size,[a.heap.objs.size],_,_,T,rfl,K.kept (t':=a.toks) λb o e=>qC _ e,b0x W (by rintro i h⟨o,g,_,gd⟩;exact#[o,g,λv z=>by rw[gd]at z;cases z]) hv f,#[jJ _,#[_,qP _ rfl,rfl,rfl]],λb hb=>?_,q _ G1 T g1 wk];have e:b=a.heap.objs.size:=by simpa using hb
  subst e;exact K.fpOk (qM _) (K.hok.fresh<|qM _)
 cases N:z.cps.all (·<128);.exact wpAny_pyIter_wide N (k "str_iterator" _ rfl (λw J=>Walks.strWide J _ z t) λA i s Q E C D=>wpAny_pyIter_striter_wide C D)
 .exact wpAny_pyIter_ascii N (k "str_ascii_iterator" _ rfl (λw J=>Walks.strAscii J _ z t) λA i s Q E C D=>wpAny_pyIter_striter_ascii C D)
def c1z{i j:Str}:CmpD X .LtE (.str i) (.str j) (!decide (j.cps.toList<i.cps.toList)):=#[λx y H Q=>∃i j,x=V.str i/\y=V.str j/\Q (.bl<|!decide (j.cps.toList<i.cps.toList)) H,by rintro B s U H x y v u Q I b a⟨i,j,d,c,q⟩;subst d c;let⟨t,rfl⟩:=b;let⟨e,rfl⟩:=a;exact PySem.P.le_str #[.bl _,H,I,rfl,q],λx y G H Q _ b a q=>by cases b;cases a;exact#[_,_,rfl,rfl,q]]
end
def eB.there{h:Heap}{a:Addr}(x:eB P w H h a o):∃u,h.get? a=Qa u:=by cases o with|lst Y=>let⟨_,_,_,_,e⟩:=x;exact#[_,e]|tup Y=>let⟨_,_,_,u,e,_⟩:=x;exact#[u,e]|dK b=>let⟨_,_,_,_,o,_,_,e,_⟩:=x;exact#[_,e]|dT b=>let⟨_,_,_,_,o,_,_,e,_⟩:=x;exact#[_,e]|set S n=>let⟨o,_,_,_,e,_⟩:=x;exact#[_,e]|ins C j fs=>let⟨_,_,_,e,_⟩:=x;exact#[_,e]|own y=>exact x|xd fs=>let⟨_,⟨_,_,_,e,_⟩,_⟩:=x;exact#[_,e]|rng g i=>let⟨_,_,_,e⟩:=x;exact#[_,e]|frz ob u=>let⟨e,_⟩:=x;exact#[_,e]|tbl d=>exact#[_,show h.get? a=Qa _ from x]|met f y=>exact#[_,show h.get? a=Qa _ from x]|ext c=>exact x.2.1
def b7x{h:Heap}{a:Addr}(x:HOk P w H h)(e:h.get? a=Qb):H a=none:=by cases q:H a with|none=>rfl|some u=>let⟨v,z⟩:=eB.there<|x a u q;rw[e]at z;cases z
def tZ(X:Cx)(b:Addr):Prop:=(b∈X.ex\/X.s₀.heap.get? b=Qb)/\∀p∈X.pn,p.1≠b
def a0s(fr:Addr->Prop)(fl:Value)(H:Hp)(a C:Addr)(h:Heap):Prop:=fr a/\H a=Qb/\∃oe vs a0 T oT ts,h.get? a=Qa oe/\oe.cls=.ref C/\oe.data=.fields vs/\vs[0]?=Qa a0/\vs[1]?=Qa (.ref T)/\fr T/\H T=Qb/\T≠a/\h.get? T=Qa oT/\oT.data=.fields ts/\ts[3]?=Qa fl
def ExcAt(fr:Addr->Prop)(H:Hp)(a C:Addr)(h:Heap):Prop:=(fr a/\H a=Qb/\∃oe vs a0,h.get? a=Qa oe/\oe.cls=.ref C/\oe.data=.fields vs/\vs[0]?=Qa a0/\vs[1]?=Qa .none)\/a0s fr .none H a C h
def pV(X:Cx)(fr:Addr->Prop)(H:Hp)(a C:Addr)(h:Heap):Prop:=ExcAt fr H a C h\/∃L,X.env.frame=Qa L/\a0s fr (v7 L) H a C h
def b3A(X:Cx)(c:Str)(e:Value)(H:Hp)(s:Shared):Prop:=∃a C,e=.ref a/\fJ X.K c=Qa C/\pV X (tZ X) H a C s.heap
def a0s.mono{a:Addr}{h:Heap}(x:a0s fr fl H a C h)(k:∀b,fr b->fr' b):a0s fr' fl H a C h:=by let⟨i,g,e,c,u,T,f,d,t,s,r,q,p,o,j⟩:=x;exact#[k _ i,g,e,c,u,T,f,d,t,s,r,q,p,k _ o,j]
theorem ExcAt.mono{fr c:Addr->Prop}{H:Hp}{a C:Addr}{h:Heap}(x:ExcAt fr H a C h)(k:∀b,fr b->c b):ExcAt c H a C h:=by
 obtain⟨e,d⟩|x:=x;.exact .inl #[k _ e,d]
 .exact .inr<|x.mono k
theorem pV.mono{X:Cx}{fr c:Addr->Prop}{H:Hp}{a C:Addr}{h:Heap}(x:pV X fr H a C h)(k:∀b,fr b->c b):pV X c H a C h:=by
 obtain x|⟨L,d,x⟩:=x;.exact .inl (x.mono k)
 .exact .inr #[L,d,x.mono k]
def ExcAt.ob{a:Addr}{h:Heap}(x:ExcAt fr H a C h):fr a/\H a=Qb/\∃b vs,ExO h a C b/\b.data=.fields vs:=by
 obtain⟨d,c,b,vs,i,g,f,e,_⟩|⟨d,c,b,vs,i,T,k,j,g,f,e,_⟩:=x;.exact#[d,c,b,vs,#[g,f],e]
 .exact#[d,c,b,vs,#[g,f],e]
structure Chg(X:Cx)(fr:Addr->Prop)(cs:T0o)(H:Hp)(h h':Heap):Prop where
 ch:∀b∈cs,fr b/\H b=Qb/\∃o vs,h.get? b=Qa o/\o.data=.fields vs
 un:Un (frs X.stack) cs H H h h'
 hok:HOk X.prog X.w H h'
section
variable{U:List (Option V)}{a:Addr}
def a9s{Ts:T0o}{M:Value}(I:Inv X B U H s)(hst:X.stack=X.env::X.outer)(A:fr a/\H a=Qb/\∃o vs,s.heap.get? a=Qa o/\o.data=.fields vs)(hT:∀b∈Ts,fr b/\H b=Qb/\∃o vs,s.heap.get? b=Qa o/\o.data=.fields vs)(J:base=vQ s.heap ((a::Ts)++frs X.stack))(r:∀b,s.heap.get? b=Qb->fr b)(N:Heap.NotedW base (X.env::X.outer) a (.ref C) M fl s.heap h'):Chg X fr (a::Ts) H s.heap h'/\a0s fr fl H a C h':=by
 let⟨Q,ff,⟨R,vs,T,S,E,e1,⟨e2,e3⟩,e4,e5,e6,e7,L,K,D⟩,P⟩:=N;have j:∀b∈frs X.stack,∃o,s.heap.get? b=Qa o/\∀vs,o.data≠.fields vs:=λb d=>by let⟨_,o,ho,t⟩:=I.stack.mem d;exact#[o,ho,t]
 have keep:∀b o,s.heap.get? b=Qa o->b∉frs X.stack->b∉a::Ts->h'.get? b=Qa o:=λb o e p k=>Q b o (by rw[J];exact vj _ e λz=>(qU.mp z).elim k p);have f:∀b o,s.heap.get? b=Qa o->b∈frs X.stack->∃y,h'.get? b=Qa {o with slots:=y}:=λb o e d=>by let⟨F,g,t⟩:=j b d;rw[e]at g;cases g;exact P b o e t
 have i:∀b∈a::Ts,fr b/\H b=Qb/\∃o vs,s.heap.get? b=Qa o/\o.data=.fields vs:=λb d=>by
  obtain rfl|d:=qI.mp d;.exact A
  .exact hT b d
 refine#[#[i,#[λb o e n p k=>keep b o e p k,λb o e n p k=>f b o e p,λb o e n _=>n,λb o e k=>?_,λ_ _ q=>q,λ_ _ _ q=>q,λ_ ps q=>#[(List.toArray []),by rw[q];rfl]],λb u q=>?_],?_]
 .by_cases d:b∈frs X.stack;.let⟨y,z⟩:=f b o e d;exact#[_,z]
  .exact#[o,keep b o e d k]
 .have tr:∀c u,H c=Qa u->c∉frs X.stack/\c∉a::Ts:=λc u q=>#[λz=>(by rw[I.stkFree c z]at q;cases q),λz=>(by rw[(i c z).2.1]at q;cases q)];refine(I.hok b u q).stay (λc v w z=>?_) (λ_ z=>z) λ_ _ z=>z;obtain rfl|w:=w;.exact keep c v z (tr c u q).1 (tr c u q).2
  .exact keep c v z (tr c _ w).1 (tr c _ w).2
 .refine#[A.1,A.2.1,R,vs,M,T,S,E,e1,e2,e4,e3,e5,?_];have G:fr T/\H T=none:=by cases q:s.heap.get? T with|none=>exact#[r T q,b7x I.hok q]|some o=>
    have d:T∈(a::Ts)++frs X.stack:=Classical.byContradiction λz=>by have:=vj _ q z;rw[<-J,e6]at this;cases this
    obtain d|d:=qU.mp d;.exact#[(i T d).1,(i T d).2.1]
    .exfalso;let⟨F,g,t⟩:=j T d;let⟨y,z⟩:=f T F g d;rw[L]at z;cases z;exact t E K
  exact#[G.1,G.2,e7,L,K,D]
def c0p{Q:Unit->Shared->Prop}(k:A.frames=Qa X.stack)(c:X.stack=X.env::X.outer)(v:X.env.frame=Qa X.env.locals)(I:Inv X B U H s)(x:ExcAt fr H a C s.heap)(d:∀b,s.heap.get? b=Qb->fr b)(h:∀h' ch,Chg X fr ch H s.heap h'->a0s fr (v7 X.env.locals) H a C h'->Q () {s with heap:=h'}):wpAny M A (ux (.ref a) X.env) Q E s:=by
 have p:∀(l:T0o),∀g∈X.env::X.outer,∀b,g.frame=Qa b->b∈l++frs X.stack:=λl g he b hb=>qi _ (by rw[c];exact wA.mpr #[g,he,hb]);have R:=I.stack;obtain⟨y,w,t,r,a0,j,F,i,D,u⟩|⟨y,w,t,r,a0,T,P,L,j,F,i,D,u,e6,e7,e8,S,q,G⟩:=x;.have f:=PySem.W.funFrames_hide (c▸R)<|p [a];unfold ux;simp only[v];refine j0<|yi j i u ?_;rw[if_neg<|by decide];refine wpAny_entryW (c▸k) f v j (λb o e=>vt ([a]++frs X.stack) e) (zc ([a]++frs X.stack)<|by simp) i (zq.mp u).1 D λh' N=>?_;rw[F]at N;let⟨K,J⟩:=a9s (Ts:=[]) I c #[y,w,t,r,j,i] (λ_ z=>nomatch z) rfl d N;exact h h' _ K J
 .have f:=PySem.W.funFrames_hide (c▸R)<|p [a,T];refine wpAny_noteFrame_onW (c▸k) f v #[t,r,T,P,L,j,#[F,D],i,u,zc ([a,T]++frs X.stack) (by simp),e8,S,q,G] (λb o e=>vt ([a,T]++frs X.stack) e) (zc ([a,T]++frs X.stack)<|by simp) λh' N=>?_;let⟨K,J⟩:=a9s (Ts:=[T]) I c #[y,w,t,r,j,i] (λb z=>by cases qf.mp z;exact#[e6,e7,P,L,S,q]) rfl d N;exact h h' _ K J
def Chg.same{h:Heap}(a:HOk X.prog X.w H h):Chg X fr [] H h h:=#[(λ_ z=>nomatch z),#[λ_ _ e _ _ _=>e,λ_ o e _ _ _=>#[o.slots,e],λ_ _ _ n _=>n,λ_ o e _=>#[o,e],λ_ _ q=>q,λ_ _ _ q=>q,λ_ b q=>#[(List.toArray []),by rw[q];simp]],a]
def a4j{Q:Unit->Shared->Prop}(e:A.frames=Qa X.stack)(d:X.stack=X.env::X.outer)(f:X.env.frame=Qa X.env.locals)(I:Inv X B U H s)(x:pV X fr H a C s.heap)(c:∀b,s.heap.get? b=Qb->fr b)(h:∀h' ch,Chg X fr ch H s.heap h'->a0s fr (v7 X.env.locals) H a C h'->Q () {s with heap:=h'}):wpAny M A (ux (.ref a) X.env) Q E s:=by
 obtain x|⟨L,j,x⟩:=x;.exact c0p e d f I x c h
 .rw[f]at j;cases j;have q:=h s.heap [] (Chg.same I.hok) x;let⟨z,y,v,t,N,T,w,u,r,K,p,J,o,G,F,D,k,i,g⟩:=x;unfold ux;simp only[f];refine j0<|yi r p o ?_;rw[if_pos<|by rfl];refine j0<|yi k i g ?_;rw[if_pos<|by simp];exact j3 q
def b1B{Q:Unit->Shared->Prop}(g:HOk X.prog X.w H s.heap)(x:a0s fr fl H a C s.heap)(h:∀h' ch,Chg X fr ch H s.heap h'->a0s fr .none H a C h'->Q () {s with heap:=h'}):wpAny M A (setFlight (.ref a) Qb) Q E s:=by
 let⟨K,J,G,D,R,T,I,F,P,N,y,L,w,t,k,r,j,d,p⟩:=x;have sz:=(zq.mp p).1;refine wpAny_setFlight_none P y w j d sz<|h _ [T] #[λb z=>?_,#[λb o e n _ f=>?_,λb o e n _ f=>?_,λb o e n _=>n,λb o e f=>?_,λ_ _ q=>q,λ_ _ _ q=>q,λ_ S q=>#[(List.toArray []),by rw[q];simp]],λb u q=>?_] ?_;.cases qf.mp z;exact#[t,k,I,F,j,d]
 .rwa[qv _ _<|λz=>f<|by simp[z]]
 .exact#[o.slots,by rwa[qv _ _<|λz=>f<|by simp[z]]]
 .exact#[o,by rwa[qv _ _<|λz=>f<|by simp[z]]]
 .have tr:∀c u,H c=Qa u->T≠c:=λc u q z=>by rw[<-z,k]at q;cases q
  refine(g b u q).stay (λc v i z=>?_) (λ_ z=>z) λ_ _ z=>z;obtain rfl|i:=i;.rwa[qv _ _<|tr c u q]
  .rwa[qv _ _<|tr c _ i]
 .refine#[K,J,G,D,R,T,_,_,?_,N,y,L,w,t,k,r,kY _ j<|Obj.isFreed_of_fields<|vI d _,vI d _,by simp[sz]];rwa[qv _ _ r]
def a0P{Q:Unit->Shared->Prop}(e:A.frames=Qa X.stack)(d:X.stack=X.env::X.outer)(p:X.env.frame=Qa X.env.locals)(I:Inv X B U H s)(x:pV X fr H a C s.heap)(c:∀b,s.heap.get? b=Qb->fr b)(h:∀h' ch,Un (frs X.stack) ch H H s.heap h'->(∀b∈ch,fr b)->HOk X.prog X.w H h'->ExcAt fr H a C h'->Q () {s with heap:=h'}):wpAny M A (leaving X.env<|.ref a) Q E s:=by
 refine j0 (a4j e d p I x c λr g j o=>?_);refine b1B (X:=X) (s:={s with heap:=r}) j.hok o λq f i k=>?_;refine h q (g++f) ((j.un.mono (λ_ z=>z) λb z=>je _ z).trans<|i.un.mono (λ_ z=>z) λb z=>qi _ z) (λb z=>?_) i.hok<|.inr k;obtain z|z:=qU.mp z;.exact(j.ch b z).1
 .exact(i.ch b z).1
def Inv.chg(I:Inv X B U H s)(c:Chg X (λb=>tZ X b/\∀p∈B,p.1≠b) ch H s.heap h'):Inv X B U H {s with heap:=h'}:=by
 let⟨m,Q,R⟩:=id I.loc;let⟨oL,T,ep,w,G⟩:=id Q;have cL:X.env.locals∉ch:=λz=>by let⟨_,_,o,L,a,j⟩:=c.ch _ z;rw[w]at a;cases a;rw[G.1]at j;cases j
 have cC:∀x d,X.env.cells.lookup x=Qa d->d∉ch:=λx d e z=>by let⟨_,_,o,L,a,j⟩:=c.ch _ z;let⟨v,J,D,e4⟩:=I.cell x d e;rw[D]at a;cases a;rw[e4]at j;cases j
 have E:∀b o,X.s₀.heap.get? b=Qa o->b∉X.ex->b∉ch:=λb o e n z=>by
  rcases(c.ch b z).1.1.1 with q|q;.exact n q
  .rw[e]at q;cases q
 have cP:∀p∈X.pn++B,p.1∉ch:=λp t z=>by
  obtain t|t:=qU.mp t;.exact(c.ch _ z).1.1.2 p t rfl
  .exact(c.ch _ z).1.2 p t rfl
 have C:∀b o,X.s₀.heap.get? b=Qa o->b≠X.env.locals:=λb o e=>qd<|qX (qQ e) I.ok.above;have nst:∀b,b≠X.env.locals->b∉X.fs->b∉frs X.stack:=λb N M z=>(qI.mp<|I.stkSub b z).elim N M;have f:∀x d,X.env.cells.lookup x=Qa d->∀v,s.heap.IsCell d v->h'.IsCell d v:=by rintro x d e v⟨o,P,S⟩;let⟨F,q⟩:=c.un.any P (I.freeC x d e)<|cC x d e;exact#[_,q,S]
 refine#[I.ok,I.os,I.bare,#[λb o e n y g=>?_,λb o e n y g=>?_,I.base.free,λb o e g=>?_,I.base.tups,I.base.frzs,I.base.tbls],#[m,?_,λi x v a j D=>?_],λx d e=>?_,I.free,I.freeC,λp t=>?_,c.hok,I.len];.exact c.un.keep b o (I.base.keep b o e n y g) (I.base.free b o e n g) (nst b (C b o e) y) (E b o e g)
 .let⟨F,a⟩:=I.base.slot b o e n y g;let⟨A,j⟩:=c.un.any a (I.base.free b o e n g)<|E b o e g;exact#[A,j]
 .let⟨J,a⟩:=I.base.there b o e g;exact c.un.there b J a (E b o e g)
 .let⟨F,q⟩:=c.un.any w I.free cL;exact#[_,T,ep,q,G]
 .let⟨u,r,l⟩:=R i x v a j D;refine#[u,r,?_];obtain l|⟨k,d,e,z⟩:=l;.exact .inl l
  .exact .inr #[k,d,e,f x d e _ z]
 .let⟨v,z⟩:=I.cell x d e;exact#[v,f x d e v z]
 .let⟨e,n,ne,K,d⟩:=I.pin p t;exact#[c.un.keep p.1 p.2 e n (nst p.1 ne K)<|cP p t,n,ne,K,d]
def Inv.track(I:Inv X B U H s)(k:tZ X a/\∀p∈B,p.1≠a)(i:H a=Qb)(J:∃u vs,s.heap.get? a=Qa u/\u.data=.fields vs)(ok:eB X.prog X.w (upd H a o) s.heap a o):Inv X B U (upd H a o) s:=by
 let⟨u,vs,t,j⟩:=J;have F:X.env.locals≠a:=λz=>by let⟨m,⟨M,P,Q,g,A⟩,_⟩:=id I.loc;rw[z,t]at g;cases g;rw[A.1]at j;cases j
 have G:∀x d,X.env.cells.lookup x=Qa d->d≠a:=λx d e z=>by let⟨v,N,y,K⟩:=I.cell x d e;rw[z,t]at y;cases y;rw[K]at j;cases j
 refine#[I.ok,I.os,I.bare,#[I.base.keep,I.base.slot,λb o e n r=>?_,I.base.there,λb Y e=>?_,λb o u e=>?_,λb C e=>?_],I.loc,I.cell,?_,λx d e=>?_,λp f=>?_,λb v e=>?_,I.len]
 .rw[aF (λz=>by
   subst z;obtain q|q:=k.1.1;.exact r q
   .rw[e]at q;cases q)];exact I.base.free b o e n r
 .have q:=I.base.tups b Y e;rwa[aF<|aP q i]
 .have q:=I.base.frzs b o u e;rwa[aF<|aP q i]
 .let⟨more,q⟩:=I.base.tbls b C e;exact#[more,by rwa[aF<|aP q i]]
 .rw[aF F];exact I.free
 .rw[aF<|G x d e];exact I.freeC x d e
 .let⟨e,n,ne,E,d⟩:=I.pin p f;have D:p.1≠a:=by
   obtain f|f:=qU.mp f;.exact k.1.2 p f
   .exact k.2 p f
  exact#[e,by rwa[aF D],ne,E,d]
 .by_cases w:b=a;.subst w;rw[aK]at e;cases e;exact ok
  .rw[aF w]at e;exact(I.hok b v e).stay (λc L _ q=>q) (λc q=>by rwa[aF<|aP q i]) λc Y q=>by rwa[aF<|aP q i]
end
inductive Re(α:Type)where|ok(a:α)|ex(c:Str)
noncomputable abbrev Mm(α:Type):=Option<|Re α
noncomputable abbrev ret{α:Type}(a:α):Mm α:=Qa<|.ok a
noncomputable def bnd{α β:Type}(m:Mm α)(k:α->Mm β):Mm β:=match m with|some (.ok a)=>k a|some (.ex c)=>Qa (.ex c)|none=>Qb
noncomputable def lft{α:Type}(o:Option α):Mm α:=match o with|some a=>Qa (.ok a)|none=>Qb
abbrev EF:=List Ent->Mm q8
abbrev TF:=List Ent->Mm Bool
abbrev AF:=List Ent->Mm (List q8)
section
variable{α β:Type}
def b3x a(k:α->Mm β):bnd (Qa<|.ok a) k=k a:=rfl
def cM{m:Mm α}{k:α->Mm β}{r:Re β}(h:bnd m k=Qa r):(∃a,m=Qa (.ok a)/\k a=Qa r)\/∃c,m=Qa (.ex c)/\r=.ex c:=by match m,h with|some (.ok a),h=>exact .inl #[a,rfl,h]|some (.ex c),h=>exact .inr #[c,rfl,(qA h).symm]|none,h=>cases h
def bS{o:Option α}{r:Re α}(h:lft o=Qa r):∃a,o=Qa a/\r=.ok a:=by match o,h with|some a,h=>exact#[a,rfl,(qA h).symm]|none,h=>cases h
end
def nA(X:Cx)(H0 Gz G:Hp)(Z:List Ent)(c:Str):Prop:=∀ B s'(U:St) H' G' e,Inv X B U H' s'->RepS X.K H0 Gz G' H' U Z->aW G G'->b3A X c e H' s'->X.xe e s'
def nA.mono{c:Str}(h:nA X H0 Gz G Z c)(s:aW G G'):nA X H0 Gz G' Z c:=λB a U b d e I R g x=>h B a U b d e I R (s.trans g) x
def b0r(X:Cx)(H0 Gz G:Hp)(Z:List Ent)(H:Hp)(Q:VK):Re q8->Prop|.ok d=>∀v G' H',Grow G H G' H'->Rep X.K G' v d->Q v H'|.ex c=>nA X H0 Gz G Z c
def b0q(X:Cx)(H0 Gz G:Hp)(Z:List Ent)(H:Hp)(Q:Bool->Hp->Prop):Re Bool->Prop|.ok b=>∀G' H',Grow G H G' H'->Q b H'|.ex c=>nA X H0 Gz G Z c
def b5t(X:Cx)(H0 Gz G:Hp)(Z:List Ent)(H:Hp)(Q:List V->Hp->Prop):Re (List q8)->Prop|.ok O=>∀vs G' H',Grow G H G' H'->RepAll X.K G' vs O->Q vs H'|.ex c=>nA X H0 Gz G Z c
noncomputable def rE(X:Cx)(f:EF):TE:=λU H Q=>∃Z r H0 Gz G,f Z=Qa r/\RepS X.K H0 Gz G H U Z/\b0r X H0 Gz G Z H Q r
noncomputable def rT(X:Cx)(f:TF):TT:=λU H Q=>∃Z r H0 Gz G,f Z=Qa r/\RepS X.K H0 Gz G H U Z/\b0q X H0 Gz G Z H Q r
noncomputable def rA(X:Cx)(f:AF):TA:=λU H Q=>∃Z r H0 Gz G,f Z=Qa r/\RepS X.K H0 Gz G H U Z/\b5t X H0 Gz G Z H Q r
structure DE(X:Cx)(e:Expr)(f:EF):Prop where run:PE X e (rE X f)
structure DT(X:Cx)(e:Expr)(f:TF):Prop where run:PT X e (rT X f)
structure DW(X:Cx)(e:Expr)(f:TF):Prop where run:PW X e (rT X f)
structure DA(X:Cx)(es:T0n)(f:AF):Prop where run:PA X es (rA X f)
variable{r:Re q8}{fa:EF}
def b0r.more(q:b0r X H0 Gz G Z H Q r)(g:Grow G H G1 H1):b0r X H0 Gz G1 Z H1 Q r:=by cases r with|ok d=>exactλv f e b a=>q v f e (g.trans b) a|ex c=>exact nA.mono q g.gg
def b0q.more{Q:Bool->Hp->Prop}{r:Re Bool}(q:b0q X H0 Gz G Z H Q r)(g:Grow G H G1 H1):b0q X H0 Gz G1 Z H1 Q r:=by cases r with|ok d=>exactλe b a=>q e b (g.trans a)|ex c=>exact nA.mono q g.gg
def b5t.more{Q:List V->Hp->Prop}{r:Re (List q8)}(q:b5t X H0 Gz G Z H Q r)(g:Grow G H G1 H1):b5t X H0 Gz G1 Z H1 Q r:=by cases r with|ok d=>exactλv f e b a=>q v f e (g.trans b) a|ex c=>exact nA.mono q g.gg
def bE{k:q8->Mm β}{r:Re β}(R:RepS X.K H0 Gz G H U Z)(e:bnd (fa Z) k=Qa r){T:VK}(hx:∀c,r=.ex c->nA X H0 Gz G Z c)(h:∀x v G1 H1,Grow G H G1 H1->RepS X.K H0 Gz G1 H1 U Z->Rep X.K G1 v x->k x=Qa r->T v H1):rE X fa U H T:=by
 obtain⟨x,b,a⟩|⟨c,b,a⟩:=cM e;.exact#[Z,_,H0,Gz,G,b,R,λv G1 H1 d f=>h x v G1 H1 d (R.more d) f a]
 .exact#[Z,_,H0,Gz,G,b,R,hx c a]
def bT{fa:TF}{d:Type}{k:Bool->Mm d}{r:Re d}(R:RepS X.K H0 Gz G H U Z)(e:bnd (fa Z) k=Qa r){T:Bool->Hp->Prop}(hx:∀c,r=.ex c->nA X H0 Gz G Z c)(h:∀x G1 H1,Grow G H G1 H1->RepS X.K H0 Gz G1 H1 U Z->k x=Qa r->T x H1):rT X fa U H T:=by
 obtain⟨x,b,a⟩|⟨c,b,a⟩:=cM e;.exact#[Z,_,H0,Gz,G,b,R,λG1 H1 f=>h x G1 H1 f (R.more f) a]
 .exact#[Z,_,H0,Gz,G,b,R,hx c a]
def bA{fa:AF}{d:Type}{k:List q8->Mm d}{r:Re d}(R:RepS X.K H0 Gz G H U Z)(e:bnd (fa Z) k=Qa r){T:List V->Hp->Prop}(hx:∀c,r=.ex c->nA X H0 Gz G Z c)(h:∀x v G1 H1,Grow G H G1 H1->RepS X.K H0 Gz G1 H1 U Z->RepAll X.K G1 v x->k x=Qa r->T v H1):rA X fa U H T:=by
 obtain⟨x,b,a⟩|⟨c,b,a⟩:=cM e;.exact#[Z,_,H0,Gz,G,b,R,λv G1 H1 f g=>h x v G1 H1 f (R.more f) g a]
 .exact#[Z,_,H0,Gz,G,b,R,hx c a]
def b0r.x(q:b0r X H0 Gz G Z H Q r):∀c,r=.ex c->nA X H0 Gz G Z c:=λc e=>by subst e;exact q
def b0q.x{Q:Bool->Hp->Prop}{r:Re Bool}(q:b0q X H0 Gz G Z H Q r):∀c,r=.ex c->nA X H0 Gz G Z c:=λc e=>by subst e;exact q
def b5t.x{Q:List V->Hp->Prop}{r:Re (List q8)}(q:b5t X H0 Gz G Z H Q r):∀c,r=.ex c->nA X H0 Gz G Z c:=λc e=>by subst e;exact q
variable{fb fc:EF}{f:AF}{g g':q8->q8->Option Bool}{o' op':CmpOp}{rs:List Expr}
def tY{f:EF}(h:∀Z r,f Z=Qa r->∃d,r=.ok d/\PD X e Z d):DE X e f:=#[by rintro B s U H Q I⟨Z,r,c,g,G,b,R,q⟩;let⟨d,rfl,a⟩:=h Z r b;exact a.run c g G B s U H Q I R q]
def DE.pd{f:EF}(h:DE X e f)(q:f Z=Qa (.ok d)):PD X e Z d:=#[λa b G B s U H Q I R k=>h.run B s U H Q I #[Z,_,a,b,G,q,R,k]]
def DT.ptd{f:TF}(h:DT X e f){d:Bool}(q:f Z=Qa (.ok d)):PTD X e Z d:=#[λa b G B s U H Q I R k=>h.run B s U H Q I #[Z,_,a,b,G,q,R,k]]
noncomputable def cst(d:q8):EF:=λ_=>Qa<|.ok d
noncomputable def var(i:Nat):EF:=λZ=>match Z[i]? with|some (.val d)=>Qa (.ok d)|_=>Qb
def aH{j:_}:DE X (.Constant (.int i) j pos) (cst<|.int i):=tY λZ r e=>#[_,(qA e).symm,c3F]
def aL{x:Str}{j:_}:DE X (.Constant (.str x) j pos) (cst<|.str x):=tY λZ r e=>#[_,(qA e).symm,c3E]
def pS{x:Bool}{j:_}:DE X (.Constant (.bool x) j pos) (cst<|.bool x):=tY λZ r e=>#[_,(qA e).symm,b9X]
def a8h{j:_}:DE X (.Constant .none j pos) (cst .none):=tY λZ r e=>#[_,(qA e).symm,b9V]
def mX{x:Str}(b:Gl X x)(a:∃t,X.mg x=Qa (.int i t))(c:U2 x:=by decide):DE X (.Name x pos) (cst<|.int i):=tY λZ r e=>#[_,(qA e).symm,by let⟨t,a⟩:=a;exact b6B b a c]
def c2J{i:Nat}(h:var i Z=Qa r):∃d,r=.ok d/\Z[i]?=Qa (.val d):=by
 unfold var at h;split at h;.rename_i d e;exact#[d,(qA h).symm,e]
 .cases h
def aC i{x:Str}(a:U0 X i x:=by exact U1):DE X (.Name x pos) (var i):=tY λZ r e=>by let⟨d,c,b⟩:=c2J e;exact#[d,c,c3D i b a]
structure OpD(X:Cx)(op:Operator)(x y d:q8):Prop where ex:∃r:R2,OpR X (wz op) r/\∀v u G H Q,aW G H->Rep X.K G v x->Rep X.K G u y->(∀w G' H',Grow G H G' H'->Rep X.K G' w d->Q w H')->r v u H Q
def op2(g:q8->q8->Option q8)(fa fb:EF):EF:=λZ=>bnd (fa Z) λx=>bnd (fb Z) λy=>lft<|g x y
def a7z{f:Value->Value->Sem Value}:OpR X f (λv u H Q=>∃r,OpR X f r/\r v u H Q):=(by rintro B s U H x y v u Q I b a⟨_,h,q⟩;exact h B s U H x y v u Q I b a q)
def aO{i:Operator}{g:q8->q8->Option q8}(p:∀x y d,g x y=Qa d->OpD X i x y d)(z:DE X a fa)(t:DE X b fb):DE X (.BinOp a i b pos) (op2 g fa fb):=#[by rintro B s U H Q I⟨Z,r,T,Gz,G,e,R,q⟩;exact b6x a7z z.run t.run B s U H Q I<|bE R e q.x λx v G1 S j K k J=>bE K J (q.more j).x λy u N L f R2 o F=>by let⟨d,E,rfl⟩:=bS F;let⟨r,C,A⟩:=(p x y d E).ex;exact#[r,C,A v u N L Q f.sub (k.mono f.gg) o λw P M D c=>q w P M ((j.trans f).trans D) c]]
noncomputable def aG:AF:=λ_=>Qa<|.ok []
def aB(f:EF)(g:AF):AF:=λZ=>bnd (f Z) λx=>bnd (g Z) λY=>Qa<|.ok (x::Y)
def aE:DA X [] aG:=#[by rintro a B s U H Q I⟨Z,r,b,c,G,e,R,q⟩;exact gE a B s U H Q I<|by cases(qA e);exact q [] G H (.refl R.sub) .nil]
def aA(k:DE X e fa)(j:DA X es f)(i:U5 X e es:=by rfl):DA X (e::es) (aB fa f):=#[by rintro a B s U H Q I⟨Z,r,C,D,G,e,R,q⟩;exact dR k.run j.run i a B s U H Q I<|bE R e q.x λx v E A c t d p=>bA t p (q.more c).x λy z w u b R2 g o=>by cases(qA o);exact q _ w u (c.trans b)<|.cons (d.mono b.gg) g]
noncomputable def bN(n:Nat):Bool:=decide (n<=100000)
def fZ{n:Nat}(h:bN n=Qc):n<=j5:=qk (of_decide_eq_true h) (by decide)
def b5P{n:Nat}(h:bN n=Qc):n<j5:=zt (of_decide_eq_true h) (by decide)
def a2G(O:T0l):Option q8:=if bN O.length then Qa (.tuple O)else Qb
def a6u(O:T0l):Option q8:=if bN O.length then Qa (.list O)else Qb
def iR(f:AF):EF:=λZ=>bnd (f Z) λY=>lft<|a2G Y
def nJ(f:AF):EF:=λZ=>bnd (f Z) λY=>lft<|a6u Y
def b7f(h:a2G O=Qa d):d=.tuple O/\O.length<=j5:=by
 unfold a2G at h;split at h;.rename_i z;exact#[(qA h).symm,fZ z]
 .cases h
def b7g(h:a6u O=Qa d):d=.list O/\O.length<=j5:=by
 unfold a6u at h;split at h;.rename_i z;exact#[(qA h).symm,fZ z]
 .cases h
def iC(h:DA X es f):DE X (.Tuple es x1 pos) (iR f):=#[by rintro B s U H Q I⟨Z,r,u,v,G,e,R,q⟩;exact c3v h.run B s U H Q I<|bA R e q.x λY j w t a o b i=>by let⟨d,g,rfl⟩:=bS i;let⟨rfl,k⟩:=b7f g;exact#[by rwa[b.length],λp c=>q _ _ _ (a.trans<|.put a.sub c)<|.tuple (.of aK)<|b.mono<|cW<|a.sub.free c]]
def iD(h:DA X es f):DE X (.List es pos) (nJ f):=#[by rintro B s U H Q I⟨Z,r,u,v,G,e,R,q⟩;exact a0k h.run B s U H Q I<|bA R e q.x λY j w t a o b i=>by let⟨d,g,rfl⟩:=bS i;let⟨rfl,k⟩:=b7g g;exact#[by rwa[b.length],λp c=>q _ _ _ (a.trans<|.put a.sub c)<|.list (.of aK)<|b.mono<|cW<|a.sub.free c]]
def c1F(g:q8->q8->Option Bool)(fa fb:EF):EF:=λZ=>bnd (fa Z) λx=>bnd (fb Z) λy=>lft<|(g x y).map .bool
def eG(g:q8->q8->Option Bool)(fa fb:EF):TF:=λZ=>bnd (fa Z) λx=>bnd (fb Z) λy=>lft<|g x y
def b8C(o:∀x y t,g x y=Qa t->CmpD X op x y t)(w:DE X a fa)(p:DE X b fb)(k:wl op b=false:=by first|exact b6O _|with_unfolding_all rfl):DE X (.Compare a [op] [b] pos) (c1F g fa fb):=#[by rintro B s U H Q I⟨Z,r,N,P,G,e,R,q⟩;exact b9T a7z w.run p.run k B s U H Q I<|bE R e q.x λx v S M f J i F=>bE J F (q.more f).x λy u L K c R2 j E=>by let⟨d,D,rfl⟩:=bS E;let⟨t,C,rfl⟩:=qK.mp D;let⟨r,A,z⟩:=(o x y t C).ex;exact#[r,A,z v u L K Q c.sub (i.mono c.gg) j<|q _ _ _ (f.trans c)<|.bool _]]
def cA(k:∀x y t,g x y=Qa t->CmpD X op x y t)(p:DE X a fa)(o:DE X b fb)(j:wl op b=false:=by first|exact b6O _|with_unfolding_all rfl):DT X (.Compare a [op] [b] pos) (eG g fa fb):=#[by rintro B s U H Q I⟨Z,r,L,M,G,e,R,q⟩;exact b9K a7z p.run o.run j B s U H Q I<|bE R e q.x λx v N K d E f D=>bE E D (q.more d).x λy u J F c R2 i C=>by let⟨t,A,rfl⟩:=bS C;let⟨r,z,w⟩:=(k x y t A).ex;exact#[r,z,w v u J F _ c.sub (f.mono c.gg) i #[_,rfl,q _ _<|d.trans c]]]
def c1I(g g':q8->q8->Option Bool)(fa fb fc:EF):EF:=λZ=>bnd (fa Z) λx=>bnd (fb Z) λy=>bnd (lft<|g x y) λt=>if t then bnd (fc Z) λz=>lft ((g' y z).map .bool)else Qa (.ok<|.bool Qd)
def c5e(g g':q8->q8->Option Bool)(fa fb fc:EF):TF:=λZ=>bnd (fa Z) λx=>bnd (fb Z) λy=>bnd (lft<|g x y) λt=>if t then bnd (fc Z) λz=>lft (g' y z)else Qa (.ok Qd)
section
variable{o:CmpOp}{v:Value}{xv:V}{x:q8}
def a4X{k:q8->Bool->Mm α}{r:Re α}{P:Value->Value->Bool->Shared->Prop}(K:∀x y t,g x y=Qa t->CmpD X o x y t)(J:DE X b fb)(I:Inv X B U H s)(F:RelV xv v)(E:Rep X.K G xv x)(R:RepS X.K H0 Gz G H U Z)(hx:∀c,r=.ex c->nA X H0 Gz G Z c)(e:bnd (fb Z) (λy=>bnd (lft<|g x y)<|k y)=Qa r)(h:∀u d y t a H2 f,Grow G H a H2->Inv X B U H2 f->RelV d u->Rep X.K a d y->RepS X.K H0 Gz a H2 U Z->k y t=Qa r->P u (.bool t) t f):wpAny (model X.prog X.w) X.A (eval b X.env) (λu p=>wpAny (model X.prog X.w) X.A (v9 o v u) (λc f=>wpAny (model X.prog X.w) X.A (truthy c) (λt D=>P u c t D) X.xe f) X.xe p) X.xe s:=by
 refine thn (J.run B s U H (λd H2=>∃y a t,CmpD X o x y t/\Grow G H a H2/\Rep X.K a d y/\RepS X.K H0 Gz a H2 U Z/\k y t=Qa r) I (bE R e hx λy d a H2 j R2 i N=>by
  obtain⟨t,A,C⟩|⟨_,A,_⟩:=cM N;.let⟨t',q,z⟩:=bS A;cases z;exact#[y,a,_,K x y _ q,j,i,R2,C]
  .let⟨_,_,z⟩:=bS A;cases z)) λu p⟨d,H2,I2,r2,y,a,t,ct,j,i,R2,C⟩=>?_;let⟨rr,S,Q⟩:=ct.ex;refine thn (S B p U H2 xv d v u (λw H'=>w=.bl t/\H'=H2) I2 F r2<|Q xv d a H2 _ R2.sub (E.mono j.gg) i #[rfl,rfl]) ?_;rintro c f⟨z,H3,T,r3,L,M⟩;subst L M;cases r3;exact wp<|h u d y t a H3 f j T r2 i R2 C
def Wch(X:Cx)(B:T0b)(U:St)(H0 Gz:Hp)(Z:List Ent){α β:Type}(EN:Hp->Hp->Re α->Prop)(P:β->Shared->Prop)(r:Re α)(M:Value->Sem β)(F:q8->Mm α):Prop:=∀v xv x H G s,Inv X B U H s->RelV xv v->Rep X.K G xv x->RepS X.K H0 Gz G H U Z->EN G H r->F x=Qa r->wpAny (model X.prog X.w) X.A (M v) P X.xe s
noncomputable abbrev c2b(X:Cx)(B:T0b)(U:St)(H0 Gz:Hp)(Z:List Ent)(Q:VK)(r:Re q8):=Wch X B U H0 Gz Z (λG H=>b0r X H0 Gz G Z H Q) (EP X B U Q) r
noncomputable abbrev c2c(X:Cx)(B:T0b)(U:St)(H0 Gz:Hp)(Z:List Ent)(Q:Bool->Hp->Prop)(r:Re Bool):=Wch X B U H0 Gz Z (λG H=>b0q X H0 Gz G Z H Q) (TP X B U Q) r
variable{r':Sem Value}{rs:List (Sem Value)}{QT:Bool->Hp->Prop}
def a2n{F:q8->Mm q8}(A:∀x y t,g x y=Qa t->CmpD X o x y t)(z:DE X b fb)(n:c2b X B U H0 Gz Z Q r (λu=>u8 pos u (o'::ops) (r'::rs)) F):c2b X B U H0 Gz Z Q r (λv=>u8 pos v (o::o'::ops) (eval b X.env::r'::rs)) λx=>bnd (fb Z) λy=>bnd (lft<|g x y) λt=>if t then F y else Qa (.ok<|.bool Qd):=λv D x H G s I w p R q e=>chain_link (a4X A z I w p R q.x e λu i y t C f j a d r2 k R2 c=>by cases t with|false=>cases(qA c);exact#[.bl Qd,f,d,rfl,q _ _ _ a<|.bool _]|true=>exact n u i y f C j d r2 k R2 (q.more a) c)
def a6P(E:∀x y t,g x y=Qa t->CmpD X o x y t)(D:DE X b fb):c2b X B U H0 Gz Z Q r (λv=>u8 pos v [o] [eval b X.env]) λx=>bnd (fb Z) λy=>lft<|(g x y).map .bool:=λv d x H G s I w u R q e=>chain_last (thn (D.run B s U H (λk c=>∃a,OpR X (v9 o) a/\a d k c Q) I
  (bE R e q.x λj k N c f S rk K=>by let⟨P,J,rfl⟩:=bS K;let⟨t,F,rfl⟩:=qK.mp J;let⟨a,i,L⟩:=(E x j t F).ex;exact#[a,i,L d k N c Q f.sub (u.mono f.gg) rk<|q _ _ _ f<|.bool _]))<|by rintro k p⟨C,c,M,z,a,i,A⟩;exact i B p U c d C v k Q M w z A)
def b5f{r:Re Bool}{F:q8->Mm Bool}(A:∀x y t,g x y=Qa t->CmpD X o x y t)(z:DE X b fb)(n:c2c X B U H0 Gz Z QT r (λu=>testChain pos u (o'::ops) (r'::rs)) F):c2c X B U H0 Gz Z QT r (λv=>testChain pos v (o::o'::ops) (eval b X.env::r'::rs)) λx=>bnd (fb Z) λy=>bnd (lft<|g x y) λt=>if t then F y else Qa (.ok Qd):=λv D x H G s I w p R q e=>test_link (a4X A z I w p R q.x e λu i y t C f j a d r2 k R2 c=>by cases t with|false=>cases(qA c);exact#[f,d,q _ _ a]|true=>exact n u i y f C j d r2 k R2 (q.more a) c)
def b5g{r:Re Bool}(f:∀x y t,g x y=Qa t->CmpD X o x y t)(d:DE X b fb):c2c X B U H0 Gz Z QT r (λv=>testChain pos v [o] [eval b X.env]) λx=>bnd (fb Z) λy=>lft<|g x y:=λv A x H G s I c a R q e=>test_last (a4X (k:=λ_ t=>Qa<|.ok t) f d I c a R q.x (e▸congrArg (bnd<|fb Z) (funext λy=>by cases g x y<;>rfl)) λu z y t E w C i p r2 D R2 j=>by cases(qA j);exact#[w,p,q _ _ i])
end
def b0d{o:CmpOp}{F:List Ent->q8->Mm q8}(z:DE X a fa)(y:QG (o::o'::ops) (b::c::rs)=Qd)(W:∀B U Z H0 Gz Q r,c2b X B U H0 Gz Z Q r (λv=>u8 pos v (o::o'::ops) (eval b X.env::eval c X.env::evalEach rs X.env))<|F Z):DE X (.Compare a (o::o'::ops) (b::c::rs) pos) (λZ=>bnd (fa Z)<|F Z):=#[by rintro B s U H Q I⟨Z,r,H0,Gz,G,A,R,q⟩;exact Compare_chain (thn (z.run B s U H (λf e=>∃x d,Rep X.K d f x/\RepS X.K H0 Gz d e U Z/\b0r X H0 Gz d Z e Q r/\F Z x=Qa r) I<|bE R A q.x λx v d e w i p g=>#[x,d,p,i,q.more w,g]) λv j⟨f,e,C,t,x,d,k,i,u,g⟩=>W B U Z H0 Gz Q r v f x e d j C t k i u g) y]
def b8k{o:CmpOp}{F:List Ent->q8->Mm Bool}(z:DE X a fa)(y:QG (o::o'::ops) (b::c::rs)=Qd)(W:∀B U Z H0 Gz Q r,c2c X B U H0 Gz Z Q r (λv=>testChain pos v (o::o'::ops) (eval b X.env::eval c X.env::evalEach rs X.env))<|F Z):DT X (.Compare a (o::o'::ops) (b::c::rs) pos) (λZ=>bnd (fa Z)<|F Z):=#[by rintro B s U H Q I⟨Z,r,H0,Gz,G,A,R,q⟩;exact isTrue_chain (thn (z.run B s U H (λf e=>∃x d,Rep X.K d f x/\RepS X.K H0 Gz d e U Z/\b0q X H0 Gz d Z e Q r/\F Z x=Qa r) I<|bE R A q.x λx v d e w i p g=>#[x,d,p,i,q.more w,g]) λv j⟨f,e,C,t,x,d,k,i,u,g⟩=>W B U Z H0 Gz Q r v f x e d j C t k i u g) y]
def c4V(f:∀x y t,g x y=Qa t->CmpD X op x y t)(d:∀x y t,g' x y=Qa t->CmpD X op' x y t)(k:DE X a fa)(j:DE X b fb)(i:DE X c fc)(e:QG [op,op'] [b,c]=false:=by with_unfolding_all rfl):DE X (.Compare a [op,op'] [b,c] pos) (c1I g g' fa fb fc):=b0d k e λ_ _ _ _ _ _ _=>a2n f j<|a6P d i
def c4N(f:∀x y t,g x y=Qa t->CmpD X op x y t)(d:∀x y t,g' x y=Qa t->CmpD X op' x y t)(k:DE X a fa)(j:DE X b fb)(i:DE X c fc)(e:QG [op,op'] [b,c]=false:=by with_unfolding_all rfl):DT X (.Compare a [op,op'] [b,c] pos) (c5e g g' fa fb fc):=b8k k e λ_ _ _ _ _ _ _=>b5f f j<|b5g d i
variable{ft fu:TF}
section
variable{rest:T0n}
def a8G:q8->Option Bool|.none=>Qa Qd|.bool b=>Qa b|.int i=>Qa (i !=0)|.str x=>if bN x.length then Qa ((x.length:Int)!=0)else Qb|.list O=>Qa (!O.isEmpty)|.tuple O=>Qa (!O.isEmpty)|.dict _=>Qb
def a6m{K:qB}(r:RepAll K G vs O):O.isEmpty=vs.isEmpty:=by have h:=r.length;cases vs<;>cases O<;>simp at h⊢
def b9m{K:qB}(s:aW G H)(r:Rep K G v d)(h:a8G d=Qa t):c5n K v H t:=by cases r with
 |none=>exact(qA h).symm|bool b=>exact(qA h).symm|int i=>exact(qA h).symm|str x=>
  have h:(if bN x.length=Qc then Qa ((x.length:Int)!=0)else Qb)=Qa t:=h;split at h;.rename_i z;exact#[fZ z,(qA h).symm]
  .cases h|list a r=>exact .inl #[_,s.seq a,by rw[<-a6m r];exact(qA h).symm]|tuple a r=>exact .inr (.inl #[_,uD s a,by rw[<-a6m r];exact(qA h).symm])|dict _ _ _=>cases h
def gI(fa:EF):TF:=λZ=>bnd (fa Z) λx=>lft<|a8G x
def iA(f:DE X a fa)(d:∀whole,isTrue a X.env whole=(do let v<-whole;QI a.pos;holding [v]<|truthy v):=by intro _;rfl):DT X a (gI fa):=#[by rintro B s U H Q I⟨Z,r,o,p,G,e,R,q⟩;exact b6l f.run d B s U H Q I<|bE R e q.x λx v u k b j c i=>by let⟨t,g,rfl⟩:=bS i;exact#[t,b9m b.sub c g,q _ _ b]]
def gS(ft:TF):TF:=λZ=>bnd (ft Z) λt=>Qa<|.ok<|!t
def iB(b:DT X a ft):DT X (.UnaryOp .Not a pos) (gS ft):=#[by rintro B s U H Q I⟨Z,r,i,j,G,e,R,q⟩;exact c3r b.run B s U H Q I<|bT R e q.x λt k g c f d=>by cases(qA d);exact q _ _ c]
noncomputable def xI:q8->Option Bool|.bool b=>Qa b|_=>Qb
def c3V(fa:EF):EF:=λZ=>bnd (fa Z) λx=>lft ((xI x).map λt=>.bool<|!t)
def a5d(h:xI d=Qa t):d=.bool t:=by cases d<;>first|(cases h;done)|(cases(qA h);rfl)
def c4S(c:DE X a fa):DE X (.UnaryOp .Not a pos) (c3V fa):=#[by rintro B s U H Q I⟨Z,r,p,u,G,e,R,q⟩;exact c3y c.run B s U H Q I<|bE R e q.x λx v w o f k b j=>by let⟨d,i,rfl⟩:=bS j;let⟨t,g,rfl⟩:=qK.mp i;cases a5d g;cases b;exact#[_,rfl,q _ _ _ f<|.bool _]]
def b2d(f g:TF):TF:=λZ=>bnd (f Z) λt=>if t then g Z else Qa (.ok Qd)
def orT(f g:TF):TF:=λZ=>bnd (f Z) λt=>if t then Qa (.ok Qc)else g Z
def b3j(b:DT X a ft):DW X (.BoolOp .And [a] pos) ft:=#[b9F b.run]
def rQ(b:DT X a ft):DW X (.BoolOp .Or [a] pos) ft:=#[c3m b.run]
def b8j(i:DT X a ft)(g:DW X (.BoolOp .And (b::rest) pos) fu):DW X (.BoolOp .And (a::b::rest) pos) (b2d ft fu):=#[by rintro f B s U H Q I⟨Z,r,k,o,G,e,R,q⟩;exact c3n i.run g.run f B s U H Q I<|bT R e q.x λt p u d j c=>by cases t with|true=>rw[if_pos rfl]at c⊢;exact#[Z,r,k,o,p,c,j,q.more d]|false=>rw[if_neg<|by decide]at c⊢;cases(qA c);exact q _ _ d]
def yR(i:DT X a ft)(g:DW X (.BoolOp .Or (b::rest) pos) fu):DW X (.BoolOp .Or (a::b::rest) pos) (orT ft fu):=#[by rintro f B s U H Q I⟨Z,r,k,o,G,e,R,q⟩;exact c5W i.run g.run f B s U H Q I<|bT R e q.x λt p u d j c=>by cases t with|true=>rw[if_pos rfl]at c⊢;cases(qA c);exact q _ _ d|false=>rw[if_neg<|by decide]at c⊢;exact#[Z,r,k,o,p,c,j,q.more d]]
def DW.dt(h:DW X e ft):DT X e ft:=#[h.run _]
def b2e(f g:EF):EF:=λZ=>bnd (f Z) λx=>bnd (lft<|xI x) λt=>if t then g Z else Qa (.ok<|.bool Qd)
def orE(f g:EF):EF:=λZ=>bnd (f Z) λx=>bnd (lft<|xI x) λt=>if t then Qa (.ok<|.bool Qc)else g Z
def b1M{b:_}(c:DE X a fa):DE X (.BoolOp b [a] pos) fa:=#[c3x c.run]
def a8i(o:DE X a fa)(k:DE X (.BoolOp .And (b::rest) pos) fb):DE X (.BoolOp .And (a::b::rest) pos) (b2e fa fb):=#[λB s U H Q I⟨Z,r,w,y,G,e,R,q⟩=>c3C o.run k.run B s U H Q I (bE R e q.x λx v A D i u j p=>by
  obtain⟨t,g,d⟩|⟨c,g,_⟩:=cM p;.let⟨C,f,z⟩:=bS g;cases z;cases a5d f;cases j;refine#[t,rfl,?_];cases t with|true=>rw[if_pos rfl]at d⊢;exact#[Z,r,w,y,A,d,u,q.more i]|false=>rw[if_neg<|by decide]at d⊢;cases(qA d);exact q _ _ _ i (.bool _)
  .let⟨_,_,z⟩:=bS g;cases z)]
def ifE(f:TF)(fa fb:EF):EF:=λZ=>bnd (f Z) λt=>if t then fa Z else fb Z
def ixD(x i:q8):Option q8:=match x,i with|.tuple O,.int k=>atI O k|.list O,.int k=>atI O k|.str z,.int k=>if bN z.length then(atI z.cps.toList k).map λc=>.str #[(List.toArray [c])]else Qb|_,_=>Qb
def c0P{K:qB}{u:V}{x i:q8}(s:aW G H)(f:Rep K G v x)(o:Rep K G u i)(h:ixD x i=Qa d)(q:∀w,Rep K G w d->Q w H):rIx K v u H Q:=by cases o with
 |int k=>cases f with
  |tuple g r=>let⟨w,e,a⟩:=b3y r (show atI _ k=Qa d from h);exact .inr (.inl #[_,_,_,w,rfl,rfl,uD s g,e,q w a])|list g r=>let⟨w,e,a⟩:=b3y r (show atI _ k=Qa d from h);exact .inl #[_,_,_,w,rfl,rfl,s.seq g,e,q w a]|str z=>
   have h:(if bN z.length=Qc then(atI z.cps.toList k).map λc=>qb #[(List.toArray [c])]else Qb)=Qa d:=h;split at h;.rename_i p;let⟨c,t,rfl⟩:=qK.mp h;exact .inr (.inr #[_,_,c,rfl,rfl,fZ p,t,q _<|.str _])
   .cases h|none=>cases h|bool b=>cases h|int j=>cases h|dict _ _ _=>cases h
 |none=>cases f<;>cases h|bool b=>cases f<;>cases h|str b=>cases f<;>cases h|list _ _=>cases f<;>cases h|tuple _ _=>cases f<;>cases h|dict _ _ _=>cases f<;>cases h
def cB(p:DE X a fa)(o:DE X b fb)(k:a8B b:=by exactλ_ _=>rfl):DE X (.Subscript a b pos) (op2 ixD fa fb):=#[by rintro B s U H Q I⟨Z,r,F,J,G,e,R,q⟩;exact c2j c4u p.run o.run k B s U H Q I<|bE R e q.x λx v L E g C i A=>bE C A (q.more g).x λy u K D f R2 j z=>by let⟨d,t,rfl⟩:=bS z;exact c0P f.sub (i.mono f.gg) j t λw c=>q w _ _ (g.trans f) c]
structure CallD(X:Cx)(f:Value)(O:T0l)(d:q8):Prop where ex:∃r:List V->Hp->VK->Prop,pC X f r/\∀vs G H Q,aW G H->RepAll X.K G vs O->(∀w G' H',Grow G H G' H'->Rep X.K G' w d->Q w H')->r vs H Q
def a6R{f:Value}:pC X f (λvs H Q=>∃r,pC X f r/\r vs H Q):=(by rintro B s U H vs a Q I b⟨_,h,q⟩;exact h B s U H vs a Q I b q)
def eS(g:List q8->Option q8)(fa:AF):EF:=λZ=>bnd (fa Z) λY=>lft<|g Y
def fB{i:String}{x:Str}{g:List q8->Option q8}(A:∀O d,g O=Qa d->CallD X (.builtin i) O d)(v:X.mg x=Qb)(t:wn x=Qa (.builtin i))(C:DA X (e::es) f)(y:Gl X x:=by rfl)(u:x≠"__name__":=by decide)(c:U2 x:=by decide)(z:U5 X e es:=by rfl)(b:U6 X pos es:=by rfl):DE X (.Call (.Name x p) (e::es) [] pos) (eS g f):=#[by rintro B s U H Q I⟨Z,r,T,Gz,G,e,R,q⟩;exact uX a6R y v t C.run u c z b B s U H Q I<|bA R e q.x λY k N L j S o K=>by let⟨d,J,rfl⟩:=bS K;let⟨r,E,D⟩:=(A Y d J).ex;exact#[r,E,D k N L Q j.sub o λw P M F a=>q w P M (j.trans F) a]]
def lH{x:Str}{g:List q8->Option q8}(z:∀O d,g O=Qa d->CallD X (.type T) O d)(u:X.mg x=Qb)(o:wn x=Qa (.type T))(A:DA X (e::es) f)(v:Gl X x:=by rfl)(t:x≠"__name__":=by decide)(c:U2 x:=by decide)(y:U5 X e es:=by rfl)(b:U6 X pos es:=by rfl):DE X (.Call (.Name x p) (e::es) [] pos) (eS g f):=#[by rintro B s U H Q I⟨Z,r,S,Gz,G,e,R,q⟩;exact a6n a6R v u o A.run t c y b B s U H Q I<|bA R e q.x λY j M K i P k J=>by let⟨d,F,rfl⟩:=bS J;let⟨r,D,C⟩:=(z Y d F).ex;exact#[r,D,C j M K Q i.sub k λw N L E a=>q w N L (i.trans E) a]]
def lY:Ent->Ent|.lst O=>.val (.list O)|.dct kvs=>.val (.dict<|kvs.map λp=>(hZ p.1,p.2))|e=>e
def frzAll(Z:List Ent):List Ent:=Z.map lY
noncomputable def b0V:q8->Bool|.none=>Qc|.bool _=>Qc|.int _=>Qc|.str _=>Qc|_=>Qd
def Rep.plain{K:qB}(h:b0V d=Qc)(r:Rep K G v d):Rep K G' v d:=by cases r with|none=>exact .none|bool b=>exact .bool b|int i=>exact .int i|str x=>exact .str x|list _ _=>cases h|tuple _ _=>cases h|dict _ _ _=>cases h
end
section
variable{K:qB}
def b7L(Z:List Ent) n:(∃e,Z[n]?=Qa e/\(Z.take<|n+1).map lY++Z.drop (n+1)=((Z.take n).map lY++Z.drop n).set n (lY e))\/(Z[n]?=Qb/\(Z.take<|n+1).map lY++Z.drop (n+1)=(Z.take n).map lY++Z.drop n):=by
 by_cases b:n<Z.length
 .refine .inl #[Z[n],by simp,?_];apply jW;intro j;rw[kX];by_cases c:j<n;.rw[if_neg (by lia),qt (by simp;lia),qt (by simp;lia),qS,qS,kW (by exact Nat.lt_succ_of_lt ‹_›),kW<|by omega]
  .by_cases a:j=n;.subst a;rw[if_pos rfl,if_pos (by simp;omega),qt (by simp;lia),qS,kW<|by lia];simp[b]
   .rw[if_neg (by lia),jS (by simp;lia),jS (by simp;lia),zw,zw];simp only[qF,jw];congr 1;lia
 .refine .inr #[by simp;omega,?_];rw[kM (by omega),kM (by omega),zM (by omega),zM<|by omega]
theorem RepS.frzTo(R:RepS K H0 Gz G H U Z):∀n:Nat,∃G',aW G G'/\RepS K H0 Gz G' H U ((Z.take n).map lY++Z.drop n)
 |0=>#[G,.refl _,by exact R]|n+1=>by
  let⟨g,f,p⟩:=R.frzTo n;obtain⟨e,t,k⟩|⟨_,k⟩:=b7L Z n
  .have u:=(qW.mp t).1;have at':((Z.take n).map lY++Z.drop n)[n]?=Qa e:=by rw[jS (by simp;lia),zw];simp only[qF,jw];rwa[show n+(n-min n Z.length)=n by lia]
   rw[k];cases e with
   |lst O=>let⟨q,i,R2⟩:=p.freeze at';exact#[q,f.trans i,R2]|dct s=>let⟨q,i,R2⟩:=p.freezeD at';exact#[q,f.trans i,R2]|val d=>
    refine#[g,f,?_];have:((Z.take n).map lY++Z.drop n).set n (lY<|.val d)=(Z.take n).map lY++Z.drop n:=by
     apply jW;intro j;rw[kX];split;.rename_i h;subst h;rw[at'];have:=(qW.mp at').1;rw[if_pos this];rfl
     .rfl
    rwa[this]|no=>
    refine#[g,f,?_];have:((Z.take n).map lY++Z.drop n).set n (lY .no)=(Z.take n).map lY++Z.drop n:=by
     apply jW;intro j;rw[kX];split;.rename_i h;subst h;rw[at'];have:=(qW.mp at').1;rw[if_pos this];rfl
     .rfl
    rwa[this]|exc c=>
    refine#[g,f,?_];have:((Z.take n).map lY++Z.drop n).set n (lY<|.exc c)=(Z.take n).map lY++Z.drop n:=by
     apply jW;intro j;rw[kX];split;.rename_i h;subst h;rw[at'];have:=(qW.mp at').1;rw[if_pos this];rfl
     .rfl
    rwa[this]|adr a=>
    refine#[g,f,?_];have:((Z.take n).map lY++Z.drop n).set n (lY<|.adr a)=(Z.take n).map lY++Z.drop n:=by
     apply jW;intro j;rw[kX];split;.rename_i h;subst h;rw[at'];have:=(qW.mp at').1;rw[if_pos this];rfl
     .rfl
    rwa[this]|ro r b=>
    refine#[g,f,?_];have:((Z.take n).map lY++Z.drop n).set n (lY<|.ro r b)=(Z.take n).map lY++Z.drop n:=by
     apply jW;intro j;rw[kX];split;.rename_i h;subst h;rw[at'];have:=(qW.mp at').1;rw[if_pos this];rfl
     .rfl
    rwa[this]|nst o=>
    refine#[g,f,?_];have:((Z.take n).map lY++Z.drop n).set n (lY<|.nst o)=(Z.take n).map lY++Z.drop n:=by
     apply jW;intro j;rw[kX];split;.rename_i h;subst h;rw[at'];have:=(qW.mp at').1;rw[if_pos this];rfl
     .rfl
    rwa[this]
  .rw[k];exact#[g,f,p]
theorem RepS.frzAll(R:RepS K H0 Gz G H U Z):∃G',aW G G'/\RepS K H0 Gz G' H U (frzAll Z):=by
 let⟨G',s,a⟩:=R.frzTo Z.length;refine#[G',s,?_];have:(Z.take Z.length).map lY++Z.drop Z.length=L3.frzAll Z:=by simp[L3.frzAll]
 rwa[this]at a
end
section
variable{rest:T0n}
def thT(f:TF):TF:=λZ=>match f (frzAll Z)with|some (.ok b)=>Qa (.ok b)|_=>Qb
def c6G(h:DT X e ft):DT X e (thT ft):=#[by
 rintro B s U H Q I⟨Z,r,j,k,G,a,R,q⟩;unfold thT at a;split at a;.rename_i b f;cases(qA a);let⟨o,d,g⟩:=R.frzAll;exact h.run B s U H Q I #[_,_,j,k,o,f,g,λp i c=>q G i #[.refl _,c.hh,d.trans<|c.gg.trans c.sub,λ_ z _=>z,id]]
 .cases a]
end
inductive So where|nx(Z:List Ent)|rt(d:q8)|bk(Z:List Ent)|ct(Z:List Ent)|xc(c:Str)(Z:List Ent)
noncomputable abbrev SF:=List Ent->Option So
noncomputable def bns{α:Type}(m:Mm α)(Z:List Ent)(k:α->Option So):Option So:=match m with|some (.ok a)=>k a|some (.ex c)=>Qa (.xc c Z)|none=>Qb
def sJ{m:Mm α}{k:α->Option So}{r:So}(h:bns m Z k=Qa r):(∃a,m=Qa (.ok a)/\k a=Qa r)\/∃c,m=Qa (.ex c)/\r=.xc c Z:=by match m,h with|some (.ok a),h=>exact .inl #[a,rfl,h]|some (.ex c),h=>exact .inr #[c,rfl,(qA h).symm]|none,h=>cases h
def a1u(X:Cx)(H0 Gz G:Hp)(D:Ends):So->Prop|.nx Z=>∀G' H' σ',aW G G'->RepS X.K H0 Gz G' H' σ' Z->D.nx σ' H'|.rt d=>∀v G' H',aW G G'->Grow Gz H0 G' H'->Rep X.K G' v d->D.rt v H'|.bk Z=>∀G' H' σ',aW G G'->RepS X.K H0 Gz G' H' σ' Z->D.bk σ' H'|.ct Z=>∀G' H' σ',aW G G'->RepS X.K H0 Gz G' H' σ' Z->D.ct σ' H'|.xc c Z=>nA X H0 Gz G Z c
theorem a1u.mono{X:Cx}{i j G k:Hp}{D:Ends}{o:So}(h:a1u X i j G D o)(s:aW G k):a1u X i j k D o:=by cases o with|nx Z=>exactλf e a b R=>h f e a (s.trans b) R|rt d=>exactλv f e b g r=>h v f e (s.trans b) g r|bk Z=>exactλf e a b R=>h f e a (s.trans b) R|ct Z=>exactλf e a b R=>h f e a (s.trans b) R|xc c Z=>exact nA.mono h s
noncomputable def rS(X:Cx)(f:SF):TS:=λD U H=>∃Z o H0 Gz G,f Z=Qa o/\RepS X.K H0 Gz G H U Z/\a1u X H0 Gz G D o
structure DS(X:Cx)(st:Stmt)(f:SF):Prop where run:PS X st (rS X f)
structure DB(X:Cx)(sts:List Stmt)(f:SF):Prop where run:PSs X sts (rS X f)
section
variable{o:So}
def sE{k:q8->Option So}(R:RepS X.K H0 Gz G H U Z)(e:bns (fa Z) Z k=Qa o)(q:a1u X H0 Gz G D o){T:VK}(h:∀x v G1 H1,Grow G H G1 H1->RepS X.K H0 Gz G1 H1 U Z->Rep X.K G1 v x->k x=Qa o->a1u X H0 Gz G1 D o->T v H1):rE X fa U H T:=by
 obtain⟨x,d,b⟩|⟨c,d,b⟩:=sJ e;.exact#[Z,_,H0,Gz,G,d,R,λv G1 H1 a f=>h x v G1 H1 a (R.more a) f b<|q.mono a.gg]
 .subst b;exact#[Z,_,H0,Gz,G,d,R,q]
def sA{fa:AF}{k:List q8->Option So}(R:RepS X.K H0 Gz G H U Z)(e:bns (fa Z) Z k=Qa o)(q:a1u X H0 Gz G D o){T:List V->Hp->Prop}(h:∀x v G1 H1,Grow G H G1 H1->RepS X.K H0 Gz G1 H1 U Z->RepAll X.K G1 v x->k x=Qa o->a1u X H0 Gz G1 D o->T v H1):rA X fa U H T:=by
 obtain⟨x,d,b⟩|⟨c,d,b⟩:=sJ e;.exact#[Z,_,H0,Gz,G,d,R,λv G1 H1 a f=>h x v G1 H1 a (R.more a) f b<|q.mono a.gg]
 .subst b;exact#[Z,_,H0,Gz,G,d,R,q]
def sT{fa:TF}{k:Bool->Option So}(R:RepS X.K H0 Gz G H U Z)(e:bns (fa Z) Z k=Qa o)(q:a1u X H0 Gz G D o){T:Bool->Hp->Prop}(h:∀x G1 H1,Grow G H G1 H1->RepS X.K H0 Gz G1 H1 U Z->k x=Qa o->a1u X H0 Gz G1 D o->T x H1):rT X fa U H T:=by
 obtain⟨x,d,b⟩|⟨c,d,b⟩:=sJ e;.exact#[Z,_,H0,Gz,G,d,R,λG1 H1 a=>h x G1 H1 a (R.more a) b<|q.mono a.gg]
 .subst b;exact#[Z,_,H0,Gz,G,d,R,q]
end
section
variable{rest:List Stmt}{f g:SF}
noncomputable def eM:SF:=λZ=>Qa<|.nx Z
noncomputable def bI(f g:SF):SF:=λZ=>match f Z with|some (.nx ρ')=>g ρ'|r=>r
def cH:DB X [] eM:=#[by rintro B s U H D I⟨Z,o,a,b,G,e,R,q⟩;exact b2C B s U H D I<|by cases(qA e);exact q G H U (.refl _) R]
def aN(t:DS X st f)(C:DB X rest g):DB X (st::rest) (bI f g):=#[by
 rintro B s U H D I⟨Z,o,i,k,G,e,R,q⟩;unfold bI at e;split at e;.rename_i a E;refine wg (thn (t.run B s U H {D with nx:=λb j=>rS X g D b j} I #[Z,_,i,k,G,E,R,λK j b u F=>#[a,o,i,k,K,e,F,q.mono u]]) λp r z=>?_);cases p with|next=>let⟨b,j,J,z⟩:=z;exact C.run B r b j D J z|ret v=>exact z|brk=>exact z|cont=>exact z
 .rename_i z;have A:∀a,o≠.nx a:=λa w=>z a (by rw[e,w]);have y:a1u X i k G {D with nx:=λ_ _=>False} o:=by cases o with|nx a=>exact absurd rfl (A a)|rt d=>exact q|bk a=>exact q|ct a=>exact q|xc c a=>exact q
  refine wg (thn (t.run B s U H {D with nx:=λ_ _=>False} I #[Z,o,i,k,G,e,R,y]) λp r z=>?_);cases p with|next=>let⟨_,_,_,z⟩:=z;exact z.elim|ret v=>exact z|brk=>exact z|cont=>exact z]
def aR(h:DS X st f):DB X [st] f:=#[a3g h.run]
def b4M(i:Nat)(f:SF):SF:=λZ=>match Z[i]? with|some (.lst O)=>f (Z.set i<|.val<|.list O)|some (.dct kvs)=>f (Z.set i<|.val<|.dict<|kvs.map λp=>(hZ p.1,p.2))|_=>f Z
def a8j i(h:DB X rest f):DB X rest (b4M i f):=#[by
 rintro B s U H D I⟨Z,o,d,g,G,e,R,q⟩;unfold b4M at e;split at e;.rename_i O b;let⟨j,a,c⟩:=R.freeze b;exact h.run B s U H D I #[_,o,d,g,j,e,c,q.mono a]
 .rename_i k b;let⟨j,a,c⟩:=R.freezeD b;exact h.run B s U H D I #[_,o,d,g,j,e,c,q.mono a]
 .exact h.run B s U H D I #[Z,o,d,g,G,e,R,q]]
def retS(fa:EF):SF:=λZ=>bns (fa Z) Z λd=>Qa<|.rt d
def aX(h:DE X e fa):DS X (.Return (Qa e) pos) (retS fa):=#[by rintro B s U H D I⟨Z,o,j,k,G,e,R,q⟩;exact b0U h.run B s U H D I<|sE R e q λx v g f i d a c b=>by cases(qA c);exact b v g f (.refl _) d.grow a]
def a4P(fa:EF):SF:=λZ=>bns (fa Z) Z λ_=>Qa<|.nx Z
def b3l(h:DE X e fa)(b:wa e Qb pos.line X.env=pure false:=by rfl):DS X (.Expr e pos) (a4P fa):=#[by rintro B s U H D I⟨Z,o,k,p,G,e,R,q⟩;exact xW h.run b B s U H D I<|sE R e q λx v g f j d i c a=>by cases(qA c);exact a g f U (.refl _) d]
def ifS(ft:TF)(f g:SF):SF:=λZ=>bns (ft Z) Z λt=>if t then f Z else g Z
def eK{x y:List Stmt}(p:DT X c ft)(u:DB X x f)(r:DB X y g):DS X (.If c x y pos) (ifS ft f g):=#[by rintro B s U H D I⟨Z,o,i,j,G,e,R,q⟩;exact c2i p.run u.run r.run B s U H D I<|sT R e q λt k w v d a b=>by cases t with|true=>rw[if_pos rfl]at a⊢;exact#[Z,o,i,j,k,a,d,b]|false=>rw[if_neg<|by decide]at a⊢;exact#[Z,o,i,j,k,a,d,b]]
def dA(i:Nat)(fa:EF):SF:=λZ=>bns (fa Z) Z λd=>Qa<|.nx<|Z.set i<|.val d
def cG i{x:Str}(f:X.N.Nodup)(h:DE X e fa)(hi:X.N[i]?=Qa x:=by rfl)(hx:Loc X.env.scope x:=by first|exact jU rfl|exact qz rfl)(c:wa e (Qa<|.Name x p) pos.line X.env=pure false:=by rfl)(d:U7 X x:=by first|exact .inl rfl|exact .inr rfl):DS X (.Assign [.Name x p] e pos) (dA i fa):=#[by rintro B s U H D I⟨Z,o,u,w,G,e,R,q⟩;exact a4b f hi hx h.run c d B s U H D I<|sE R e q λx v r k t j a g b=>by cases(qA g);exact b r k _ (.refl _)<|j.set a]
def b4p(i:Nat)(f:AF):SF:=λZ=>bns (f Z) Z λO=>if bN O.length then Qa (.nx<|Z.set i<|.lst O)else Qb
def b1J i{x:Str}{f:AF}(t:X.N.Nodup)(h:DA X es f)(hi:X.N[i]?=Qa x:=by rfl)(hx:Loc X.env.scope x:=by first|exact jU rfl|exact qz rfl)(j:wa (.List es p2) (Qa<|.Name x p) pos.line X.env=pure false:=by rfl)(k:U7 X x:=by first|exact .inl rfl|exact .inr rfl):DS X (.Assign [.Name x p] (.List es p2) pos) (b4p i f):=#[λB s U H D I⟨Z,o,A,C,G,e,R,q⟩=>a4b t hi hx (a0k h.run) j k B s U H D I (sA R e q λO w v z y u c b d=>by
 split at b;.rename_i g;cases(qA b);exact#[by rw[c.length];exact fZ g,λa r=>d v _ _ (.refl _)<|u.fresh r c]
 .cases b)]
def a1k(i:Nat)(fa:EF):SF:=λZ=>match Z[i]? with|some (.lst O)=>bns (fa Z) Z λd=>if bN O.length then Qa (.nx<|Z.set i<|.lst<|O++[d])else Qb|_=>Qb
def a4T i{x:Str}(h:DE X e fa)(k:U0 X i x:=by exact U1)(f:U8 X (.Name x p) "append":=by rfl)(j:U4 X cp (e::[]):=by rfl)(c:(ap.endLine==cp.line)=true:=by rfl)(g:U5 X e []:=by rfl)(b:U6 X cp []:=by rfl)(u:wa (.Call (.Attribute (.Name x p) "append" ap) [e] [] cp) Qb pos.line X.env=pure false:=by rfl):DS X (.Expr (.Call (.Attribute (.Name x p) "append" ap) [e] [] cp) pos) (a1k i fa):=#[λB s U H D I⟨Z,o,Q,S,G,t,R,q⟩=>xW (b2I vH PySem.F.slot_list_append PySem.F.type_list_append a1N (dF k.1 k.2 k.3 k.4) (dR h.run gE g) f j c g b) u B s U H D I (by
  unfold a1k at t;split at t
  .rename_i O y;let⟨a,Y,C,z,N,M,r⟩:=R.own y;refine#[.ref a,C,.inl #[rfl,Y,.of z],sE R t q λd v L P A K E w F=>?_];split at w;.rename_i J;cases(qA w);exact#[a,Y,v,rfl,rfl,A.hh.lst z,by rw[r.length];exact b5P J,F L _ U (.refl _)<|K.wrote y C<|(r.mono A.gg).append<|.cons E .nil]
   .cases w
  .cases t)]
end
variable{is:List Nat}{fi:AF}
section
variable{rest:List Stmt}{f g:SF}
inductive Tg where|nm(i:Nat)|tp(is:T0t)|nn(i:Nat)(js:T0t)
noncomputable def lS:List Ent->List Nat->List q8->List Ent|Z,i::is,d::O=>lS (Z.set i<|.val d) is O|Z,_,_=>Z
def tgD(t:Tg)(Z:List Ent)(d:q8):Option (List Ent):=match t,d with|.nm i,d=>Qa (Z.set i<|.val d)|.tp is,.tuple O=>if is.length=O.length then Qa (lS Z is O)else Qb|.nn i js,.tuple [d,.tuple O]=>if js.length=O.length then Qa (lS (Z.set i<|.val d) js O)else Qb|_,_=>Qb
structure DG(X:Cx)(tg:Expr)(t:Tg):Prop where run:∀Z d ρ',tgD t Z d=Qa ρ'->PGD X tg Z d ρ'
structure DGs(X:Cx)(ts:T0n)(is:T0t):Prop where run:∀Z O,is.length=O.length->PGsD X ts Z O (lS Z is O)
def eA i{x:Str}(c:X.N.Nodup)(hi:X.N[i]?=Qa x:=by rfl)(hx:Loc X.env.scope x:=by first|exact jU rfl|exact qz rfl)(b:U7 X x:=by first|exact .inl rfl|exact .inr rfl):DG X (.Name x pos) (.nm i):=#[λZ d a h=>by cases(qA h);exact a9h i c hi hx b]
def b3n:DGs X [] []:=#[λZ O h=>by cases O with|nil=>exact b6t|cons _ _=>cases h]
def xB i{x:Str}(e:X.N.Nodup)(h:DGs X es is)(hi:X.N[i]?=Qa x:=by rfl)(hx:Loc X.env.scope x:=by first|exact jU rfl|exact qz rfl)(c:U7 X x:=by first|exact .inl rfl|exact .inr rfl)(b:(wq (.Name x pos::es) X.env).map (·.2)=assign (.Name x pos) X.env::(wq es X.env).map (·.2):=by rfl):DGs X (.Name x pos::es) (i::is):=#[λZ O a=>by cases O with|nil=>cases a|cons d O=>exact b4k (a9h i e hi hx c) (h.run _ O<|by simpa using a) b]
def b8v(g:X.calm=Qc)(h:DGs X es is)(f:(wq es X.env).length=is.length:=by rfl)(c:(wq es X.env).findIdx? (·.1)=none:=by rfl):DG X (.Tuple es k pos) (.tp is):=#[λZ d b a=>by cases d with
 |tuple O=>
  have a:(if is.length=O.length then Qa (lS Z is O)else Qb)=Qa b:=a;split at a;.rename_i e;cases(qA a);exact b9R g (h.run Z O e) (f.trans e) c
  .cases a|none=>cases a|bool _=>cases a|int _=>cases a|str _=>cases a|list _=>cases a|dict _=>cases a]
def c2N{i:Nat}(h:tgD (.nn i js) Z d=Qa ρ'):∃a O,d=.tuple [a,.tuple O]/\js.length=O.length/\ρ'=lS (Z.set i<|.val a) js O:=by
 unfold tgD at h;split at h;.rename_i e;cases e
 .rename_i e;cases e
 .rename_i f b a O e;cases e;split at h;.rename_i c;exact#[a,O,rfl,c,(qA h).symm]
  .cases h
 .cases h
def rG(X:Cx)(t:Tg):TG:=λv U H Q=>∃Z d ρ' H0 Gz G,tgD t Z d=Qa ρ'/\RepS X.K H0 Gz G H U Z/\Rep X.K G v d/\∀σ',RepS X.K H0 Gz G H σ' ρ'->Q σ' H
def DG.pg{t:Tg}(h:DG X tg t):PG X tg (rG X t):=(by rintro B s U H v u Q I r⟨Z,d,a,c,f,G,e,R,b,q⟩;exact(h.run Z d a e).run B s U H v u Q I r #[c,f,G,R,b,q])
def a7e(t:Tg)(fa:EF):SF:=λZ=>bns (fa Z) Z λd=>(tgD t Z d).map So.nx
def c8l(X:Cx)(H0 Gz G:Hp)(Z:List Ent)(H:Hp)(R:It->Hp->Prop):Re (List q8)->Prop|.ok O=>∀J G' H',Grow G H G' H'->Walk X.K J G' O->R J H'|.ex c=>nA X H0 Gz G Z c
noncomputable def rIt(X:Cx)(f:AF):TI:=λU H R=>∃Z r H0 Gz G,f Z=Qa r/\RepS X.K H0 Gz G H U Z/\c8l X H0 Gz G Z H R r
structure DI(X:Cx)(tg iter:Expr)(f:AF):Prop where run:PI X tg iter (rIt X f)
def DI.pid{f:AF}(h:DI X tg iter f)(e:f Z=Qa (.ok O)):PID X tg iter Z O:=#[by rintro B s U H R I⟨a,b,G,S,q⟩;exact h.run B s U H R I #[Z,_,a,b,G,e,S,q]]
def c6I{f:AF}(h:∀Z r,f Z=Qa r->∃O,r=.ok O/\PID X tg iter Z O):DI X tg iter f:=#[by rintro B s U H R I⟨Z,r,b,c,G,e,S,q⟩;let⟨O,rfl,a⟩:=h Z r e;exact a.run B s U H R I #[b,c,G,S,q]]
noncomputable def a3J:q8->Option (List q8)|.list O=>Qa O|.tuple O=>Qa O|_=>Qb
def nD(fa:EF):AF:=λZ=>bnd (fa Z) λx=>lft<|a3J x
def gL(h:DE X iter fa):DI X tg iter (nD fa):=#[by
 rintro B s U H R I⟨Z,r,f,g,G,e,S,q⟩;obtain⟨x,b,d⟩|⟨c,b,d⟩:=cM e;.let⟨O,a,rfl⟩:=bS d;cases x with|list i=>cases(qA a);exact(b6r<|h.pd b).run B s U H R I #[f,g,G,S,q]|tuple i=>cases(qA a);exact(b9O<|h.pd b).run B s U H R I #[f,g,G,S,q]|none=>cases a|bool _=>cases a|int _=>cases a|str _=>cases a|dict _=>cases a
 .subst d;exact a7x h.run B s U H R I #[Z,_,f,g,G,b,S,q]]
noncomputable def intD:q8->Option Int|.int i=>Qa i|_=>Qb
def a7S(h:intD d=Qa i):d=.int i:=by cases d<;>first|(cases h;done)|(cases(qA h);rfl)
noncomputable def a9P(n:Int):Bool:=decide (-(2^62)<=n)&&decide (n<2^62)
def a4D{n:Int}(h:a9P n=Qc):-(2^62)<=n/\n<2^62:=by unfold a9P at h;rw[qD]at h;exact#[of_decide_eq_true h.1,of_decide_eq_true h.2]
def a3Y(fa:EF):AF:=λZ=>match fa Z with|some (.ok<|.int n)=>if a9P n then Qa (.ok<|a0i 0 n.toNat)else Qb|_=>Qb
def a3r(f:X.mg "range"=Qb)(h:DE X a fa)(d:j4 [a] X.env=[(Qd,eval a X.env)]:=by rfl)(b:j4 [a] X.env=(Qd,eval a X.env)::j4 [] X.env:=by rfl)(g:Gl X "range":=by rfl):DI X tg (.Call (.Name "range" p) [a] [] pos) (a3Y fa):=c6I λZ r e=>by
 unfold a3Y at e;split at e
 .rename_i n i;split at e;.rename_i c;exact#[_,(qA e).symm,b0X f (h.pd i) (a4D c).1 (a4D c).2 d b g]
  .cases e
 .cases e
def lM(t:Tg)(fb:SF):List q8->List Ent->Option So|[],Z=>Qa (.nx Z)|d::O,Z=>match tgD t Z d with|none=>Qb|some ρ1=>(match fb ρ1 with|some (.nx ρ2)=>lM t fb O ρ2|some (.ct ρ2)=>lM t fb O ρ2|some (.bk ρ2)=>Qa (.nx ρ2)|some (.rt d)=>Qa (.rt d)|some (.xc c ρ2)=>Qa (.xc c ρ2)|none=>Qb)
def a9S(t:Tg)(fi:AF)(fb:SF):SF:=λZ=>bns (fi Z) Z λO=>lM t fb O Z
def a8g{t:Tg}(hp:PassesOwn (model X.prog X.w) X.A X.env X.xe)(hc:X.calm=Qc)(hi:DI X tg iter fi)(hg:DG X tg t)(hb:DB X body g)(hs:∀x,v6 iter X.env x=pure x:=by intro _;rfl):DS X (.For tg iter body [] pos) (a9S t fi g):=#[λB s U H D I⟨Z,o,f,j,G,ef,R,q⟩=>b6o hp hc hi.run hg.pg hb.run hs B s U H D I (by
  obtain⟨O,e1,M⟩|⟨c,e1,M⟩:=sJ ef
  .refine#[Z,_,f,j,G,e1,R,λJ G1 H1 L wk=>?_];refine#[λi m u H'=>m=O.length-i/\i<=O.length/\∃k S,aW G1 S/\RepS X.K f j S H' u k/\lM t g (O.drop i) k=Qa o,#[O.length,by simp,jJ _,Z,G1,.refl _,R.more L,by simpa using M],?_];rintro i m u H'⟨rfl,hin,k,S,s',R',d⟩;let⟨F,w⟩:=wk i S H' s' R'.sub;by_cases A:i<O.length
   .rw[List.drop_eq_getElem_cons A]at d;have hx:=qN A;refine .inr #[(F _ hx).1,λE T=>∃a e,aW G1 e/\RepS X.K f j e T E a/\lM t g (O.drop<|i+1) a=Qa o,?_,λx T y=>?_];.rintro E T⟨a,e,s2,R2,M⟩;exact#[O.length-(i+1),by omega,rfl,A,a,e,s2,R2,M]
    .let⟨e,g2,rx⟩:=(F _ hx).2 x T y;unfold lM at d;split at d;.cases d
     .rename_i b et;refine#[k,O[i],b,f,j,e,et,R'.more g2,rx,λσ3 P=>?_];have K:=s'.trans g2.gg;split at d;.rename_i a p;exact#[b,_,f,j,e,p,P,λC Q r z N=>#[a,C,K.trans z,N,d]]
      .rename_i a p;exact#[b,_,f,j,e,p,P,λC Q r z N=>#[a,C,K.trans z,N,d]]
      .rename_i a p;cases(qA d);exact#[b,_,f,j,e,p,P,λC Q r z N=>q C Q r (L.gg.trans<|K.trans z) N]
      .rename_i d' p;cases(qA d);exact#[b,_,f,j,e,p,P,λv C Q z gr rv=>q v C Q (L.gg.trans<|K.trans z) gr rv]
      .rename_i c' a p;cases(qA d);exact#[b,_,f,j,e,p,P,nA.mono q<|L.gg.trans K]
      .cases d
   .have hi':i=O.length:=by lia
    subst hi';rw[List.drop_length]at d;cases(qA d);exact .inl #[w<|qM _,q S H' u (L.gg.trans s') R']
  .subst M;exact#[Z,_,f,j,G,e1,R,q])]
end
def a0O(t:Tg)(ρb:List Ent)(ft:TF)(fe:EF):List q8->Option (List q8)|[]=>Qa []|d::O=>match tgD t ρb d with|none=>Qb|some ρx=>(match ft ρx with|some (.ok Qc)=>(match fe ρx with|some (.ok v)=>(a0O t ρb ft fe O).map (v::·)|_=>Qb)|some (.ok Qd)=>a0O t ρb ft fe O|_=>Qb)
def fK(t:Tg)(cap:T0e)(fi:AF)(ft:TF)(fe:EF):EF:=λZ=>bnd (fi Z) λO=>if bN O.length then lft ((a0O t (cF cap Z) ft fe O).map .list)else Qb
noncomputable def ttT:TF:=λ_=>Qa<|.ok Qc
def cX(t:Tg)(ρb:List Ent)(d:q8):List Ent:=(tgD t ρb d).getD []
def cT(t:Tg)(ρb:List Ent)(ft:TF)(d:q8):Bool:=match ft (cX t ρb d)with|some (.ok b)=>b|_=>Qd
def cV(t:Tg)(ρb:List Ent)(fe:EF)(d:q8):q8:=match fe (cX t ρb d)with|some (.ok v)=>v|_=>.none
theorem a0N{t:Tg}{ρb:List Ent}{ft:TF}{fe:EF}:∀{O es:T0l},a0O t ρb ft fe O=Qa es->(∀d∈O,tgD t ρb d=Qa (cX t ρb d)/\ft (cX t ρb d)=Qa (.ok<|cT t ρb ft d)/\(cT t ρb ft d=Qc->fe (cX t ρb d)=Qa (.ok<|cV t ρb fe d)))/\es=(O.filter<|cT t ρb ft).map (cV t ρb fe)
 |[],es,h=>by cases(qA h);exact#[λ_ z=>absurd z (by simp),rfl]|d::O,es,h=>by
  unfold a0O at h;split at h;.cases h
  .rename_i f j;have ex:cX t ρb d=f:=by unfold cX;rw[j];rfl
   split at h
   .rename_i e;have a:cT t ρb ft d=true:=by unfold cT;rw[ex,e]
    split at h
    .rename_i v o;let⟨p,q,rfl⟩:=qK.mp h;let⟨i,g⟩:=a0N q;have c:cV t ρb fe d=v:=by unfold cV;rw[ex,o]
     refine#[λk b=>?_,?_]
     .obtain rfl|b:=qI.mp b;.rw[ex,a,c];exact#[j,e,λ_=>o]
      .exact i k b
     .rw[jG a,qE,c,g]
    .cases h
   .rename_i e;have a:cT t ρb ft d=false:=by unfold cT;rw[ex,e]
    let⟨i,g⟩:=a0N h;refine#[λk b=>?_,?_]
    .obtain rfl|b:=qI.mp b;.rw[ex,a];exact#[j,e,λz=>by cases z]
     .exact i k b
    .rw[jT (by rw[a];decide),g]
   .cases h
noncomputable def a3y(cap:T0e):Tg->Bool
 |.nm i=>(match cap[i]? with|some (Qa _)=>Qd|_=>Qc)|.tp is=>is.all λi=>match cap[i]? with|some (Qa _)=>Qd|_=>Qc
 |.nn i js=>(match cap[i]? with|some (Qa _)=>Qd|_=>Qc)&&js.all λi=>match cap[i]? with|some (Qa _)=>Qd|_=>Qc
theorem uI:∀{a b:List Ent}{i:Nat}{e:Ent},Weak a b->(b[i]?=Qa .no\/b[i]?=Qb)->Weak (a.set i e) b
 |_,_,_,_,.nil,_=>.nil|_::_,_,0,_,.keep w,h=>by
  obtain h|h:=h;.cases(qA h);exact .no w
  .cases h|_::_,_,0,_,.no w,_=>.no w|_::_,_,i+1,_,.keep w,h=>.keep (uI w<|by exact h)|_::_,_,i+1,_,.no w,h=>.no<|uI w (by exact h)
def a8n{cap:T0e}{i:Nat}(h:(match cap[i]? with|some (Qa _)=>Qd|_=>Qc)=Qc):(cF cap Z)[i]?=Qa .no\/(cF cap Z)[i]?=none:=by unfold cF;rw[qS];cases e:cap[i]? with|none=>exact .inr rfl|some o=>rw[e]at h;cases o with|none=>exact .inl rfl|some j=>cases h
theorem a3u{cap:T0e}{Z:List Ent}:∀{is:T0t}{O:T0l}{a:List Ent},(is.all λi=>match cap[i]? with|some (Qa _)=>Qd|_=>Qc)=Qc->Weak a (cF cap Z)->Weak (lS a is O) (cF cap Z)|[],O,a,_,w=>by cases O<;>exact w|i::is,[],a,_,w=>w|i::is,d::O,a,h,w=>by rw[zi,qD]at h;exact a3u (is:=is) (O:=O) (a:=a.set i<|.val d) h.2<|uI w<|a8n h.1
def a3c{cap:T0e}{ρx:List Ent}{t:Tg}(b:a3y cap t=Qc)(h:tgD t (cF cap Z) d=Qa ρx):Weak ρx (cF cap Z):=by cases t with
 |nm i=>cases(qA h);exact uI (.refl _) (a8n b)|tp c=>cases d with
  |tuple O=>
   have h:(if c.length=O.length then Qa (lS (cF cap Z) c O)else Qb)=Qa ρx:=h;split at h;.cases(qA h);exact a3u b (.refl _)
   .cases h|none=>cases h|bool _=>cases h|int _=>cases h|str _=>cases h|list _=>cases h|dict _=>cases h
 |nn i e=>let⟨a,O,rfl,f,rfl⟩:=c2N h;have b:((match cap[i]? with|some (Qa _)=>Qd|_=>Qc)&&e.all λi=>match cap[i]? with|some (Qa _)=>Qd|_=>Qc)=true:=b;rw[qD]at b;exact a3u b.2<|uI (.refl _)<|a8n b.1
section
variable{cap:T0e}{t:Tg}{fe:EF}
structure DTs(X:Cx)(ifs:T0n)(f:TF):Prop where run:∀Z b,f Z=Qa (.ok b)->PTsD X ifs Z b
def gW:DTs X [] ttT:=#[λZ b e=>by cases(qA e);exact b6k]
def a3q(h:DT X c ft):DTs X [c] ft:=#[λZ b e=>b6j<|h.ptd e]
def fW(v:X.calm=Qc)(B0:Blk X scope N' cap)(hi:DI X tg iter fi)(F:a3y cap t=Qc)(E:∀C a b fp,DG (cZ X scope N' C a b fp) tg t)(D:∀C a b fp,DTs (cZ X scope N' C a b fp) ifs ft)(J:∀C a b fp,DE (cZ X scope N' C a b fp) elt fe)(u:∀x,v6 iter X.env x=pure x:=by intro _;rfl):DE X (.ListComp elt [#[tg,iter,ifs,0]] scope pos) (fK t cap fi ft fe):=#[by
 rintro B s U H Q I⟨Z,r,w,y,G,e,R,q⟩;obtain⟨O,p,j⟩|⟨c,p,j⟩:=cM e
 .split at j;.rename_i A;let⟨d,K,rfl⟩:=bS j;let⟨M,L,rfl⟩:=qK.mp K;let⟨k,rfl⟩:=a0N L;exact(b9W (Y:=O) (φ:=λd=>d) (ρb:=cF cap Z) (ρx:=cX t<|cF cap Z) (cnd:=cT t (cF cap Z) ft) (f:=cV t (cF cap Z) fe) v B0 (by simpa using hi.pid p) (.refl _) (λx i=>a3c F (k x i).1) (fZ A)
    (λC a b fp x i=>(E C a b fp).run _ _ _ (k x i).1) (λC a b fp x i=>(D C a b fp).run _ _ (k x i).2.1) (λC a b fp x i o=>(J C a b fp).pd<|(k x i).2.2 o) u).run w y G B s U H Q I R q
  .cases j
 .subst j;exact b2H (g:=λ_ _ _ _=>False) (tc:=λ_ _ _=>False) (te:=λ_ _ _=>False) v B0 hi.run (λ_ _ _ _ _ _ _ _ _ _ _ _ _ z=>z.elim) (λ_ _ _ _ _ _ _ _ _ _ z=>z.elim) (λ_ _ _ _ _ _ _ _ _ _ z=>z.elim) u B s U H Q I
   #[Z,_,w,y,G,p,R,q]]
def b3k i{x:Str}(J:X.N.Nodup)(F:X.calm=Qc)(B0:Blk X scope N' cap)(hi:DI X tg iter fi)(Q:a3y cap t=Qc)(P:∀C a b fp,DG (cZ X scope N' C a b fp) tg t)(N:∀C a b fp,DTs (cZ X scope N' C a b fp) ifs ft)(S:∀C a b fp,DE (cZ X scope N' C a b fp) elt fe)(k:X.N[i]?=Qa x:=by rfl)(hx:X.env.scope.names.lookup x=Qa .local:=by rfl)(r:wa (.ListComp elt [#[tg,iter,ifs,0]] scope pos) (Qa<|.Name x p) spos.line X.env=pure true:=by rfl)(E:∀x,v6 iter X.env x=pure x:=by intro _;rfl):DS X (.Assign [.Name x p] (.ListComp elt [#[tg,iter,ifs,0]] scope pos) spos) (dA i<|fK t cap fi ft fe):=#[by
 rintro B s U H D I⟨Z,o,K,L,G,e,R,q⟩;obtain⟨d,A,y⟩|⟨c,A,y⟩:=sJ e
 .cases(qA y);obtain⟨O,v,j⟩|⟨c,_,j⟩:=cM A
  .split at j;.rename_i M;let⟨d',T,z⟩:=bS j;cases z;let⟨es,e5,rfl⟩:=qK.mp T;let⟨u,rfl⟩:=a0N e5;exact(b6m i (Y:=O) (φ:=λd=>d) (ρb:=cF cap Z) (ρx:=cX t<|cF cap Z) (cnd:=cT t (cF cap Z) ft) (f:=cV t (cF cap Z) fe) J F B0 (by simpa using hi.pid v) (.refl _) (λx hx=>a3c Q (u x hx).1) (fZ M)
     (λC a b fp x hx=>(P C a b fp).run _ _ _ (u x hx).1) (λC a b fp x hx=>(N C a b fp).run _ _ (u x hx).2.1) (λC a b fp x hx w=>(S C a b fp).pd<|(u x hx).2.2 w) k hx r E).run B s U H D I #[K,L,G,R,q]
   .cases j
  .cases j
 .subst y;obtain⟨O,v,j⟩|⟨c',v,j⟩:=cM A
  .split at j;.let⟨_,_,z⟩:=bS j;cases z
   .cases j
  .cases j;exact b2D (g:=λ_ _ _ _=>False) (tc:=λ_ _ _=>False) (te:=λ_ _ _=>False) J k hx F B0 hi.run (λ_ _ _ _ _ _ _ _ _ _ _ _ _ z=>z.elim) (λ_ _ _ _ _ _ _ _ _ _ z=>z.elim) (λ_ _ _ _ _ _ _ _ _ _ z=>z.elim) r E B s U H D I
    #[Z,_,K,L,G,v,R,q]]
end
noncomputable def pY(m:Nat)(O:T0l):List Ent:=O.map .val++qx (m-O.length) .no
def lV(m n:Nat)(f:SF)(O:T0l):Mm q8:=if O.length=n then(match f (pY m O)with|some (.rt d)=>Qa (.ok d)|some (.nx _)=>Qa (.ok .none)|_=>Qb)else Qb
abbrev dU(P:Program)(w:World)(K:qB)(mg:T0d)(base:Heap)(x:Str)(k:Nat)(ps:T0q)(F:List q8->Mm q8):Prop:=Callee P w K mg base x k ps λO d=>F O=Qa (.ok d)
section
variable{K:qB}{x:Str}{F:List q8->Mm q8}
def aS(F:List q8->Mm q8)(fa:AF):EF:=λZ=>bnd (fa Z) λO=>match F O with|some (.ok d)=>Qa (.ok d)|_=>Qb
def aU{fa:AF}(C:dU X.prog X.w X.K X.mg X.base x k ps F)(u:Room k X.A)(z:DA X (e::es) fa)(w:Gl X x:=by rfl)(i:U2 x:=by decide)(y:U5 X e es:=by rfl)(g:U6 X pos es:=by rfl):DE X (.Call (.Name x p) (e::es) [] pos) (aS F fa):=#[by
 rintro B s U H Q I⟨Z,r,H0,Gz,G,E,R,q⟩;let⟨f,S,a,b,c,N⟩:=C.ex;refine b9U N u w a b c .nil (b6C (X:=X)) z.run i y g B s U H Q I (bA R E q.x λO P M T o J t j=>?_);split at j;.rename_i d D;cases(qA j);exact#[M,O,d,#[o.sub,J.tab],by simpa using t,D,λv L K A r2=>q v L K (o.trans A) r2]
 .cases j]
def xP N O:nB N O=pY N.length O:=rfl
def c4C{f:SF}{fa:Addr} m n(J:Fun K x x st fa fd)(S:FnScope N ps (aD st))(D:N.length=m)(C:ps.length=n)(c:∀ cdv A a s H E,Room k (A.deeper<|wx x (aD st) s.heap.objs.size fa cdv)->DB (fcx P w K mg base N x (aD st) fa cdv A a s H E) (bU st) f):FnOk P w K mg base CX0 (k+1) fa fd ps (spD K λO d=>lV m n f O=Qa (.ok d)):=by
 refine J.ok S (λy H Q E⟨G,O,d,s,r,b,_⟩=>?_) (λcdv A a s H y Q E p⟨G,O,d,o,r,b,q⟩=>?_)
 .have b:lV m n f O=Qa (.ok d):=b;unfold lV at b;split at b;.rename_i F;rw[r.length,F,C]
  .cases b
 .have b:lV m n f O=Qa (.ok d):=b;unfold lV at b;split at b
  .rw[<-D,<-xP]at b;split at b;.rename_i L e;cases(qA b);exact#[_,(c cdv A a s H E p).run,nB N O,_,H,G,G,e,lO o r,λv j i _ g z=>q v j i g z]
   .rename_i u e;cases(qA b);exact#[_,(c cdv A a s H E p).run,nB N O,_,H,G,G,e,lO o r,λj i t _ I=>q .non j i I.grow .none]
   .cases b
  .cases b
def bV{f:SF} m n(D:Def K mg x st)(S:FnScope N ps (aD st))(i:N.length=m)(g:ps.length=n)(j:∀ kV doc pm(an:T0k) cdv ct(us:T0m),us.length=ps.length->ye (jY x x (fV st) (bU st) (aD st) .none kV doc pm an cdv ct) #[us,[]]=pure (ps.zip us))(b:∀ fa cdv A a s H E,Room k (A.deeper<|wx x (aD st) s.heap.objs.size fa cdv)->DB (fcx P w K mg base N x (aD st) fa cdv A a s H E) (bU st) f):dU P w K mg base x (k+1) ps (lV m n f):=by let⟨fa,o,d,c⟩:=D.ex;exact#[fa,o,c,d.kp,d.binds j,c4C m n d S i g λcdv A a s H E e=>b fa cdv A a s H E e]
end
noncomputable def lJ{α:Type}(f:q8->Option α):List q8->Option (List α)|[]=>Qa []|d::O=>match f d with|none=>Qb|some a=>(lJ f O).map (a::·)
noncomputable def a7j:q8->Option Str|.str i=>Qa i|_=>Qb
def a0A{i:Str}(h:a7j d=Qa i):d=.str i:=by cases d<;>first|(cases h;done)|(cases(qA h);rfl)
theorem iO{f:q8->Option α}{g:α->q8}(h:∀d a,f d=Qa a->d=g a):∀{O:T0l}{b:List α},lJ f O=Qa b->O=b.map g
 |[],b,e=>by cases(qA e);rfl|d::O,b,e=>by
  unfold lJ at e;split at e;.cases e
  .rename_i a c;let⟨j,i,rfl⟩:=qK.mp e;rw[qE,<-h d a c,iO h i]
theorem lI{f:q8->Option α}{g:α->q8}(h:∀a,f (g a)=Qa a):∀b:List α,lJ f (b.map g)=Qa b|[]=>rfl|a::b=>by rw[qE,lJ,h a];rw[lI h b];rfl
def b3N(ns:T0q):lJ a7j (ns.map .str)=Qa ns:=lI (g:=.str) (λ_=>rfl) ns
variable{y:q8}
section
variable{x:q8}
def b6J{a:Operator}{g:Int->Int->Int}(d:OpR X (wz a) (rI0 λi j=>.int<|g i j)):OpD X a (.int i) (.int j) (.int<|g i j):=#[_,d,λv u G H Q s b c q=>by cases b;cases c;exact#[_,_,rfl,rfl,q _ _ _ (.refl s)<|.int _]]
def a7A{a:Operator}{C:Int->Int->Prop}{g:Int->Int->Int}(d:OpR X (wz a) (rI C λi j=>.int<|g i j))(e:C i j):OpD X a (.int i) (.int j) (.int<|g i j):=#[_,d,λv u G H Q s b c q=>by cases b;cases c;exact#[_,_,rfl,rfl,e,q _ _ _ (.refl s)<|.int _]]
def aY(x y:q8):Option q8:=match x,y with|.int i,.int j=>Qa (.int<|i+j)|.str i,.str j=>if bN (i.length+j.length)then Qa (.str<|i++j)else Qb|.list a,.list b=>if bN (a.length+b.length)then Qa (.list<|a++b)else Qb|.tuple a,.tuple b=>if bN (a.length+b.length)then Qa (.tuple<|a++b)else Qb|_,_=>Qb
def aV x y d(h:aY x y=Qa d):OpD X .Add x y d:=by
 unfold aY at h;split at h;.cases(qA h);exact b6J c3T
 .split at h;.rename_i i j g;cases(qA h);exact#[_,b1b,λv u G H Q s e f q=>by cases e;cases f;exact#[_,_,rfl,rfl,fZ g,q _ _ _ (.refl s)<|.str _]]
  .cases h
 .split at h;.rename_i a b g;cases(qA h);exact#[_,b2P,λv u G H Q s e f q=>by cases e with|list p c=>cases f with|list o r2=>exact#[_,_,_,_,rfl,rfl,s.seq p,s.seq o,by rw[c.length,r2.length];exact fZ g,λl k=>q _ _ _ (.put s k)<|.list (.of aK)<|(c.append r2).mono<|cW<|s.free k]]
  .cases h
 .split at h;.rename_i a b g;cases(qA h);exact#[_,c0g,λv u G H Q s e f q=>by cases e with|tuple p c=>cases f with|tuple o r2=>
      refine#[_,_,_,_,rfl,rfl,uD s p,uD s o,by rw[c.length,r2.length];exact fZ g,λz=>?_,λz r=>?_,λ_ _ l k=>q _ _ _ (.put s k)<|.tuple (.of aK)<|(c.append r2).mono<|cW<|s.free k];.subst z;cases c;exact q _ G H (.refl s) (.tuple o r2)
      .subst r;cases r2;exact q _ G H (.refl s)<|by rw[ja];exact .tuple p c]
  .cases h
 .cases h
noncomputable def b3M(x y:q8):Option q8:=match x,y with|.int i,.int j=>Qa (.int<|i-j)|_,_=>Qb
def b5Q x y d(h:b3M x y=Qa d):OpD X .Sub x y d:=by
 unfold b3M at h;split at h;.cases(qA h);exact b6J c3K
 .cases h
noncomputable def fQ(i:Int):Bool:=decide (-(2^64)<i)&&decide (i<2^64)
def a6e(h:fQ i=Qc):-(2^64)<i/\i<2^64:=by unfold fQ at h;rw[qD]at h;exact#[of_decide_eq_true h.1,of_decide_eq_true h.2]
def pF(x y:q8):Option q8:=match x,y with|.int i,.int j=>if fQ i||fQ j then Qa (.int<|i*j)else Qb|_,_=>Qb
def tH x y d(h:pF x y=Qa d):OpD X .Mult x y d:=by
 unfold pF at h;split at h
 .split at h;.rename_i a;cases(qA h);rw[Bool.or_eq_true]at a;exact a7A c3N (a.imp a6e a6e)
  .cases h
 .cases h
noncomputable def pG(x y:q8):Option q8:=match x,y with|.int i,.int j=>if 0<j then Qa (.int<|i%j)else Qb|_,_=>Qb
def rH x y d(h:pG x y=Qa d):OpD X .Mod x y d:=by
 unfold pG at h;split at h
 .split at h;.rename_i a;cases(qA h);exact a7A c3O a
  .cases h
 .cases h
noncomputable def a2a(x y:q8):Option q8:=match x,y with|.int i,.int j=>if 0<j/\j<1073741824 then Qa (.int<|i/j)else Qb|_,_=>Qb
def a4J x y d(h:a2a x y=Qa d):OpD X .FloorDiv x y d:=by
 unfold a2a at h;split at h
 .split at h;.rename_i a;cases(qA h);exact a7A c0f a
  .cases h
 .cases h
noncomputable def ltD(x y:q8):Option Bool:=match x,y with|.int i,.int j=>Qa (decide (i<j))|_,_=>Qb
noncomputable def leD(x y:q8):Option Bool:=match x,y with|.int i,.int j=>Qa (decide (i<=j))|.str i,.str j=>Qa (!decide (j.cps.toList<i.cps.toList))|_,_=>Qb
noncomputable def gtD(x y:q8):Option Bool:=match x,y with|.int i,.int j=>Qa (decide (j<i))|_,_=>Qb
noncomputable def geD(x y:q8):Option Bool:=match x,y with|.int i,.int j=>Qa (decide (j<=i))|_,_=>Qb
def a6w x y t(h:ltD x y=Qa t):CmpD X .Lt x y t:=by
 unfold ltD at h;split at h;.cases(qA h);exact c4Z
 .cases h
def a6z x y t(h:leD x y=Qa t):CmpD X .LtE x y t:=by
 unfold leD at h;split at h;.cases(qA h);exact c5a
 .cases(qA h);exact c1z
 .cases h
def c2t x y t(h:gtD x y=Qa t):CmpD X .Gt x y t:=by
 unfold gtD at h;split at h;.cases(qA h);exact cmp_gt
 .cases h
def c6y x y t(h:geD x y=Qa t):CmpD X .GtE x y t:=by
 unfold geD at h;split at h;.cases(qA h);exact c5b
 .cases h
noncomputable def eqD(x y:q8):Option Bool:=match x,y with|.int i,.int j=>Qa (decide (i=j))|.str i,.str j=>Qa (decide (i=j))|.bool i,.bool j=>Qa (decide (i=j))|x,y=>if qm x&&qm y then Qa (ji x y)else Qb
noncomputable def neD(x y:q8):Option Bool:=match x,y with|.int i,.int j=>Qa (!decide (i=j))|.str i,.str j=>Qa (!decide (i=j))|.bool i,.bool j=>Qa (!decide (i=j))|x,y=>if qm x&&qm y then Qa (!PyData.eqv x y)else Qb
def nQ(hu:X.A.units+64<cLine) x y t(h:eqD x y=Qa t):CmpD X .Eq x y t:=by
 unfold eqD at h;split at h;.cases(qA h);exact c1D
 .cases(qA h);exact c1C
 .cases(qA h);exact c1E
 .split at h;.rename_i a;rw[qD]at a;cases(qA h);exact c5c hu a.1 a.2
  .cases h
def a2E(hu:X.A.units+64<cLine) x y t(h:neD x y=Qa t):CmpD X .NotEq x y t:=by
 unfold neD at h;split at h;.cases(qA h);exact c1x
 .cases(qA h);exact c1w
 .cases(qA h);exact c1y
 .split at h;.rename_i a;rw[qD]at a;cases(qA h);exact c4Y hu a.1 a.2
  .cases h
def inD(x y:q8):Option Bool:=match x,a3J y with|.int i,Qa O=>(lJ intD O).map λns=>decide (i∈ns)|.str i,Qa O=>(lJ a7j O).map λns=>decide (i∈ns)|_,_=>Qb
def c3Z(x y:q8):Option Bool:=(inD x y).map (!·)
def sO{K:qB}(s:aW G H)(h:a3J y=Qa O)(r:Rep K G v y):∃p vs,v=.ref p/\(SqL K H p vs\/SqT K H p vs)/\RepAll K G vs O:=by cases r with|list a r=>cases(qA h);exact#[_,_,rfl,.inl<|s.seq a,r]|tuple a r=>cases(qA h);exact#[_,_,rfl,.inr<|uD s a,r]|dict _ _ _=>cases h|none=>cases h|bool _=>cases h|int _=>cases h|str _=>cases h
def c6t x y t(h:inD x y=Qa t):CmpD X .In x y t:=by
 unfold inD at h;split at h;.rename_i i O e;let⟨f,o,rfl⟩:=qK.mp h;have:=iO (g:=.int) (λd a q=>a7S q) o;subst this;exact#[_,a6s,λv u G H Q s b c q=>by let⟨p,w,rfl,j,r⟩:=sO s e c;have k:=r.ints;subst k;cases b;exact#[p,_,rfl,j,rfl,a6J f,by rw[a9O];simpa using q]]
 .rename_i i O e;let⟨f,o,rfl⟩:=qK.mp h;have:=iO (g:=.str) (λd a q=>a0A q) o;subst this;exact#[_,a6s,λv u G H Q s b c q=>by let⟨p,w,rfl,j,r⟩:=sO s e c;have k:=r.strs;subst k;cases b;exact#[p,_,rfl,j,rfl,a6I f,by rw[a9N];simpa using q]]
 .cases h
def c3X x y t(h:c3Z x y=Qa t):CmpD X .NotIn x y t:=by
 let⟨z,b,rfl⟩:=qK.mp h;clear h;unfold inD at b;split at b;.rename_i i O e;let⟨j,o,rfl⟩:=qK.mp b;have:=iO (g:=.int) (λd a q=>a7S q) o;subst this;exact#[_,a0I,λv u G H Q s c f q=>by let⟨p,w,rfl,b,r⟩:=sO s e f;have k:=r.ints;subst k;cases c;exact#[p,_,rfl,b,rfl,a6J j,by rw[a9O];simpa using q]]
 .rename_i i O e;let⟨j,o,rfl⟩:=qK.mp b;have:=iO (g:=.str) (λd a q=>a0A q) o;subst this;exact#[_,a0I,λv u G H Q s c f q=>by let⟨p,w,rfl,b,r⟩:=sO s e f;have k:=r.strs;subst k;cases c;exact#[p,_,rfl,b,rfl,a6I j,by rw[a9N];simpa using q]]
 .cases b
def mS(O:T0l):Option q8:=match O with|[.list Y]=>Qa (.int Y.length)|[.tuple Y]=>Qa (.int Y.length)|[.str z]=>if bN z.length then Qa (.int z.length)else Qb|_=>Qb
def rJ O d(h:mS O=Qa d):CallD X (.builtin "len") O d:=by
 unfold mS at h;split at h;.cases(qA h);exact#[_,a1g,λc G H Q s r q=>by cases r with|cons r a=>cases a;cases r with|list b r=>exact#[_,_,rfl,.inl<|s.seq b,by rw[r.length];exact q _ G H (.refl s)<|.int _]]
 .cases(qA h);exact#[_,a1g,λc G H Q s r q=>by cases r with|cons r a=>cases a;cases r with|tuple b r=>exact#[_,_,rfl,.inr<|uD s b,by rw[r.length];exact q _ G H (.refl s)<|.int _]]
 .split at h;.rename_i e;cases(qA h);exact#[_,a8r,λc G H Q s r q=>by cases r with|cons r a=>cases a;cases r with|str z=>exact#[_,rfl,fZ e,q _ G H (.refl s)<|.int _]]
  .cases h
 .cases h
def c7M(O:T0l):Option q8:=match O with|[.int i,.int j]=>Qa (.int<|max i j)|[.list Y]=>(match lJ intD Y with|some (n::ns)=>Qa (.int<|c6g (n::ns))|_=>Qb)|_=>Qb
def c7K(O:T0l):Option q8:=match O with|[.int i,.int j]=>Qa (.int<|min i j)|[.list Y]=>(match lJ intD Y with|some (n::ns)=>Qa (.int<|c6f (n::ns))|_=>Qb)|_=>Qb
def allB(O:T0l):Option q8:=match O with|[.list Y]=>(lJ xI Y).map λns=>.bool (ns.all id)|_=>Qb
def b8Z(i:X.calm=Qc) O d(h:allB O=Qa d):CallD X (.builtin "all") O d:=by
 unfold allB at h;split at h;.let⟨c,e,rfl⟩:=qK.mp h;have:=iO (g:=.bool) (λd a q=>a5d q) e;subst this;exact#[_,b5h i,λj G H Q s r q=>by cases r with|cons r b=>cases b;cases r with|list f r=>have e:=r.bools;subst e;exact#[_,c,rfl,s.seq f,q _ G H (.refl s)<|.bool _]]
 .cases h
noncomputable def uK(O:T0l):Option q8:=match O with|[.list Y]=>Qa (.tuple Y)|[.tuple Y]=>Qa (.tuple Y)|_=>Qb
def uJ O d(h:uK O=Qa d):CallD X (.type "tuple") O d:=by
 unfold uK at h;split at h;.cases(qA h);exact#[_,yS,λe G H Q s r q=>by cases r with|cons r b=>cases b;cases r with|list a r=>exact#[_,_,rfl,.inl #[s.seq a,λl c=>q _ _ _ (.put s c)<|.tuple (.of aK)<|r.mono<|cW<|s.free c]]]
 .cases(qA h);exact#[_,yS,λe G H Q s r q=>by cases r with|cons r b=>cases b;cases r with|tuple a r=>exact#[_,_,rfl,.inr #[uD s a,q _ G H (.refl s)<|.tuple a r]]]
 .cases h
noncomputable def c6j(O:T0l):Option q8:=match O with|[.list Y]=>Qa (.list Y)|[.tuple Y]=>Qa (.list Y)|_=>Qb
noncomputable def c7Y(O:T0l):Option q8:=match O with|[.bool b]=>Qa (.int<|if b then 1 else 0)|[.int i]=>Qa (.int i)|_=>Qb
end
noncomputable def b4q:q8->Option q8|.int i=>Qa (.int<|-i)|_=>Qb
def op1(g:q8->Option q8)(fa:EF):EF:=λZ=>bnd (fa Z) λx=>lft<|g x
def b1N(f:DE X a fa):DE X (.UnaryOp .USub a pos) (op1 b4q fa):=#[by rintro B s U H Q I⟨Z,r,p,t,G,e,R,q⟩;exact c5X c2K f.run B s U H Q I<|bE R e q.x λx v u o g k c j=>by let⟨d,b,rfl⟩:=bS j;cases x with|int i=>cases(qA b);cases c;exact#[_,rfl,q _ _ _ g<|.int _]|none=>cases b|bool _=>cases b|str _=>cases b|list _=>cases b|tuple _=>cases b|dict _=>cases b]
def b8I(g1 g2 g3:q8->q8->Option Bool)(fa fb fc fd:EF):EF:=λZ=>bnd (fa Z) λx=>bnd (fb Z) λy=>bnd (lft<|g1 x y) λt=>if t then bnd (fc Z) λz=>bnd (lft<|g2 y z) λu=>if u then bnd (fd Z) λw=>lft ((g3 z w).map .bool)else Qa (.ok<|.bool Qd)else Qa (.ok<|.bool Qd)
noncomputable def isB(k x:q8):Option Bool:=match k,x with|.none,.none=>Qa Qc|.none,.bool _=>Qa Qd|.none,.int _=>Qa Qd|.none,.str _=>Qa Qd|.none,.list _=>Qa Qd|.none,.tuple _=>Qa Qd|.none,.dict _=>Qa Qd|.bool a,.bool b=>Qa (b==a)|_,_=>Qb
def isE(neg:Bool)(k:q8)(fa:EF):EF:=λZ=>bnd (fa Z) λx=>lft ((isB k x).map λt=>.bool<|neg !=t)
def isT(neg:Bool)(k:q8)(fa:EF):TF:=λZ=>bnd (fa Z) λx=>lft ((isB k x).map λt=>neg !=t)
abbrev OF:=List Ent->Mm (Option Int)
noncomputable def bX:OF:=λ_=>Qa<|.ok Qb
def bK(fa:EF):OF:=λZ=>bnd (fa Z) λx=>lft<|(intD x).map Qa
def slD(x:q8)(lo hi:Option Int):Option q8:=match x with|.list O=>Qa (.list<|cutD O lo hi)|.tuple O=>if HT.sIx O.length 0 lo=0/\HT.sIx O.length O.length hi=O.length then Qb else Qa (.tuple<|cutD O lo hi)|_=>Qb
def slE(fa:EF)(lo hi:OF):EF:=λZ=>bnd (fa Z) λx=>bnd (lo Z) λl=>bnd (hi Z) λh=>lft<|slD x l h
noncomputable def b6c:q8->Option q8|.list O=>Qa (.list O.reverse)|_=>Qb
noncomputable def tyI:q8->Option Bool|.int _=>Qa Qc|.bool _=>Qa Qc|.dict _=>Qb|_=>Qa Qd
noncomputable def tyB:q8->Option Bool|.bool _=>Qa Qc|.dict _=>Qb|_=>Qa Qd
noncomputable def tyS:q8->Option Bool|.str _=>Qa Qc|.dict _=>Qb|_=>Qa Qd
noncomputable def tyT:q8->Option Bool|.tuple _=>Qa Qc|.dict _=>Qb|_=>Qa Qd
def c0R(T:String)(x:q8):Option Bool:=if T="int"then tyI x else if T="bool"then tyB x else if T="str"then tyS x else if T="tuple"then tyT x else Qb
def isD(T:String)(x:q8):Option q8:=(c0R T x).map .bool
noncomputable def fD(ns:T0q):List Str:=ns.foldl (λa n=>if n∈a then a else a++[n]) []
noncomputable def bQ(a b:Str):Bool:=!decide (b.cps.toList<a.cps.toList)
def fG(ns:T0q):List Str:=ns.mergeSort bQ
section
variable{d:Expr}{fd:EF}
def c1t{g f e:q8->q8->Option Bool}(s:∀x y t,g x y=Qa t->CmpD X o1 x y t)(r:∀x y t,f x y=Qa t->CmpD X o2 x y t)(q:∀x y t,e x y=Qa t->CmpD X o3 x y t)(p:DE X a fa)(o:DE X b fb)(k:DE X c fc)(j:DE X d fd)(i:QG [o1,o2,o3] [b,c,d]=false:=by with_unfolding_all rfl):DE X (.Compare a [o1,o2,o3] [b,c,d] pos) (b8I g f e fa fb fc fd):=b0d p i λ_ _ _ _ _ _ _=>a2n s o<|a2n r k<|a6P q j
def c3Q:OpR X (v9 .Is) (λx y H Q=>∃c d,x=.bl c/\y=.bl d/\Q (.bl<|c==d) H):=by rintro B s U H x y v u Q I b a⟨c,d,f,e,q⟩;subst f e;cases b;cases a;exact is_bool<|cK I q rfl
def c1B{x:q8}(h:isB .none x=Qa t):CmpD X .Is x .none t:=#[_,c3P,λv u G H Q s a b q=>by cases b;refine#[rfl,?_];cases a<;>(have h:=qA h;subst h;exact q)]
def b7t{c:Bool}{x:q8}(h:isB (.bool c) x=Qa t):∃d,x=.bool d/\t=(d==c):=by cases x<;>first|(cases h;done)|(exact⟨_,rfl,(qA h).symm⟩)
def c1A{c:Bool}{x:q8}(h:isB (.bool c) x=Qa t):CmpD X .Is x (.bool c) t:=by let⟨d,rfl,rfl⟩:=b7t h;exact#[_,c3Q,λv u G H Q s a b q=>by cases a;cases b;exact#[_,_,rfl,rfl,q]]
def isG(neg:Bool)(k:q8)(x y:q8):Option Bool:=match k,y with|.none,.none=>(isB k x).map λt=>neg !=t|.bool a,.bool b=>if a=b then(isB k x).map λt=>neg !=t else Qb|_,_=>Qb
def c4w a k(b:k=.none\/∃c,k=.bool c):isT a k fa=eG (isG a k) fa (cst k):=by funext Z;unfold isT eG cst;cases fa Z with|none=>rfl|some r=>cases r with|ex c=>rfl|ok x=>
   obtain rfl|⟨c,rfl⟩:=b;.rfl
   .show lft _=lft _;simp only[isG,if_pos]
def c4x{k x:q8}(h:isG Qd k x y=Qa t):CmpD X .Is x y t:=by
 unfold isG at h;split at h;.let⟨a,e,rfl⟩:=qK.mp h;have:=c1B (X:=X) e;cases a<;>exact this
 .split at h;.rename_i b;subst b;let⟨a,e,rfl⟩:=qK.mp h;have:=c1A (X:=X) e;cases a<;>exact this
  .cases h
 .cases h
def b1I{j:_}(b:DE X a fa):DT X (.Compare a [.Is] [.Constant .none j p] pos) (isT Qd .none fa):=by rw[c4w _ _<|.inl rfl];exact cA (λ_ _ _ h=>c4x h) b a8h
end
end L2.L3
variable{s':List L2.L3.Mt}{t:L2.L3.Tg}{r:L2.L3.Re q8}{f:L2.L3.SF}{Z ρ' ρ1 ρ2:List L2.L3.Ent}{fa fb fc fe fk fv fx fo:L2.L3.EF}{ft fu:L2.L3.TF}{fi aa:L2.L3.AF}{fh:L2.L3.OF}{b':L2.L3.BS}{e2 e6 e7 e8:L2.L3.Ent}
namespace L2.SX
open PySem
def yM(Y:Array Nat):Prop:=Y.toList.Pairwise (·<·)
variable{Y:Array Nat}
def yM.lt(h:yM Y)(a:i<j)(b:j<Y.size):Y[i]<Y[j]:=by have:=List.pairwise_iff_getElem.mp h i j (by simpa using zr a b) (by simpa using b) a;exact this
theorem b7E{Y:Array Nat}{j:Nat}(h:yM Y):∀ a lo hi,hi-lo<=a->lo<=hi->hi<=Y.size->(∀i b,i<lo->Y[i]<j)->(∀i b,hi<=i->j<=Y[i])->zg Y j a lo hi<=Y.size/\(∀i b,i<zg Y j a lo hi->Y[i]<j)/\∀i(b:i<Y.size),zg Y j a lo hi<=i->j<=Y[i]
 |0,lo,hi,hf,hl,hs,h1,h2=>by
  have:lo=hi:=by lia
  subst this;exact#[hs,h1,h2]|a+1,lo,hi,hf,hl,hs,h1,h2=>by
  unfold zg;by_cases c:lo<hi
  .rw[if_pos c];dsimp only;have f:(lo+hi)/2<Y.size:=by lia
   have o:Y.getD ((lo+hi)/2) j=Y[(lo+hi)/2]:=by simp[f]
   rw[o];by_cases d:Y[(lo+hi)/2]<j
   .rw[if_pos d];refine b7E h a _ hi (by lia) (by lia) hs (λi b g=>?_) h2;by_cases e:i=(lo+hi)/2;.subst e;exact d
    .exact zr (h.lt (by lia) f) d
   .rw[if_neg d];refine b7E h a lo _ (by lia) (by lia) (by exact Nat.le_of_lt ‹_›) h1 (λi b k=>?_);by_cases e:i=(lo+hi)/2;.subst e;lia
    .have:=h.lt (i:=(lo+hi)/2) (j:=i) (by lia) b;lia
  .rw[if_neg c];have:lo=hi:=by lia
   subst this;exact#[hs,h1,h2]
def a5f(h:yM Y) j:ql Y j<=Y.size/\(∀i a,i<ql Y j->Y[i]<j)/\∀i(a:i<Y.size),ql Y j<=i->j<=Y[i]:=b7E h _ _ _ (by lia) (jJ _) (qM _) (λ_ _ z=>absurd z<|by lia) (λi a z=>absurd z<|by lia)
def b1Y(h:yM Y)(hi:i<Y.size):ql Y (Y[i]+1)=i+1:=by
 let⟨e,b,a⟩:=a5f h<|Y[i]+1;have d:¬ql Y (Y[i]+1)<=i:=λz=>by have:=a i hi z;lia
 have c:¬i+1<ql Y (Y[i]+1):=λz=>by
  have lt:i+1<Y.size:=by lia
  have:=b (i+1) lt z;have:=h.lt (i:=i) (j:=i+1) (by lia) lt;lia
 lia
def b1X Y(h:yM Y):ql Y 0=0:=by let⟨c,a,b⟩:=a5f h 0;cases e:ql Y 0 with|zero=>rfl|succ n=>have:=a 0 (by lia) (by lia);lia
def b6b(h:yM Y)(w:Y[ql Y j]?≠Qa j):yM (j8.insertAt Y (ql Y j) j):=by
 let⟨C,z,v⟩:=a5f h j;unfold yM;rw[j8.toList_insertAt,List.pairwise_append];have ne:∀i(c:i<Y.size),ql Y j<=i->j<Y[i]:=λi c o=>by
  have a:=v i c o;by_cases e:Y[i]=j
  .exfalso;by_cases y:i=ql Y j;.exact w (by rw[<-y];simp[c,e])
   .have lt:ql Y j<i:=by lia
    have:=h.lt (i:=ql Y j) (j:=i) lt c;have:=v (ql Y j) (by exact Q6 ‹_› ‹_›)<|qM _;lia
  .lia
 refine#[h.sublist<|ku _ _,?_,λa q b p=>?_]
 .rw[jh];refine#[λa q=>?_,h.sublist<|wK _ _];let⟨k,g,e⟩:=ze.mp q;rw[List.getElem_drop]at e;subst e;have:ql Y j+k<Y.size:=by simpa using(by rw[kQ,qa]at g;lia:ql Y j+k<Y.size)
  have:=ne (ql Y j+k) this (by lia);simpa using this
 .let⟨k,g,e⟩:=ze.mp q;rw[List.getElem_take]at e;subst e;rw[jw,qa]at g;have t:k<Y.size:=by lia
  have A:=z k t (by lia);have r:Y.toList[k]'(by exact t)<j:=by simpa using A
  obtain rfl|p:=qI.mp p;.exact r
  .let⟨d,f,u⟩:=ze.mp p;rw[List.getElem_drop]at u;subst u;have s:ql Y j+d<Y.size:=by rw[kQ,qa]at f;lia
   have:=ne (ql Y j+d) s (by lia);have:j<Y.toList[ql Y j+d]'(by simpa using s):=by simpa using this
   omega
structure TOk(t:j8)(led:Bool):Prop where
 led:t.led=led
 rise:t.plain=Qc->yM t.place
theorem TOk.fresh led:TOk (j8.fresh 0 0 led) led:=#[rfl,λ_=>by simp[j8.fresh,yM]]
theorem TOk.standIn{t:j8}{led:Bool}(h:TOk t led) n:TOk (t.standIn n) led:=#[h.led,λz=>by cases z]
variable{t:j8}
def TOk.off(h:TOk t led):TOk {t with plain:=Qd} led:=#[h.led,λz=>by cases z]
theorem TOk.orStandIn{t:j8}{led:Bool}(h:TOk t led) n:TOk (t.orStandIn n) led:=by
 unfold j8.orStandIn;split;.exact h
 .exact h.standIn n
def b3S(h:t.slot j=.empty\/t.slot j=.dummy):t.place[ql t.place j]?≠Qa j:=by
 intro z;have:t.slot j=.live (ql t.place j):=by unfold j8.slot;rw[if_pos<|by rw[z];simp]
 obtain h|h:=h<;>(rw[this]at h;cases h)
theorem a0j{t:j8}{f:Nat->Int}{h:Int}:∀ a p j d,(∀k,p.dummy=Qa k->t.slot k=.dummy)->j8.probe.go t f h a p=Qa (.empty j d)->(t.slot j=.empty)/\∀k,d=Qa k->t.slot k=.dummy
 |0,p,j,d,_,e=>by cases e|a+1,p,j,d,hd,e=>by
  unfold j8.probe.go at e;split at e;.rename_i g;cases(qA e);exact#[g,hd]
  .rename_i g;refine a0j a _ j d (λk c=>?_) e;have b:∀q:j8.Probe,(t.advance q).dummy=q.dummy:=λq=>by unfold j8.advance;split<;>rfl
   rw[b]at c;cases c;exact g
  .split at e;.cases e
   .refine a0j a _ j d (λk c=>?_) e;have b:∀q:j8.Probe,(t.advance q).dummy=q.dummy:=λq=>by unfold j8.advance;split<;>rfl
    rw[b]at c;exact hd k c
theorem TOk.layNew{t:j8}{led:Bool}(h:TOk t led) es g x:TOk (layNew t es g x).2.1 led:=by
 unfold PySem.layNew;split
 .rename_i c r e;have f:TOk (t.put c).1 led:=by
   refine#[h.led,λo=>?_];have i:=h.rise o;refine b6b i<|b3S ?_;unfold j8.freeSlot j8.probe at e;split at e;.rename_i j d q;let⟨a,b⟩:=a0j _ _ j d (λk p=>by simp[j8.probeStart]at p) q;cases(qA e);cases d with|none=>exact .inl a|some k=>exact .inr (b k rfl)
   .cases e
  exact f.orStandIn _
 .exact h.standIn _
theorem TOk.relayAll{t:j8}{led:Bool}(h:TOk t led) es c:TOk (relayAll t es c).2.1 led:=by
 unfold PySem.relayAll;split
 .rename_i p f e;dsimp only;split;.unfold j8.relaid j8.laid at e;cases i:j8.layClean (j8.sizeAbove c-1) (es.map (·.1))with|none=>rw[i]at e;cases e|some d=>rw[i]at e;have e:=qA e;have o:=(congrArg Prod.fst e).symm;subst o;refine#[h.led,λ_=>?_];show List.Pairwise (·<·) _;simp only;rw[jp,List.pairwise_filterMap];refine List.pairwise_lt_range.imp ?_;intro a b g x k y j;let⟨u,_,rfl⟩:=qK.mp k;let⟨v,_,rfl⟩:=qK.mp j;exact g
  .exact h.standIn _
 .exact h.standIn _
end L2.SX
namespace L2.SX
open PySem PyProof.Rows
variable{es:Array (Int×Value)}{t:j8}
section
variable{K:Type}[DecidableEq K]
structure Good(knd:KeyKind prog w K)(h:Heap)(a:Addr)(ks:List K)(led:Bool):Prop where
 ex:∃o es ep t,h.get? a=Qa o/\o.ExactSet/\o.data=.set es ep t/\ElemsOf knd es.toList/\(∀k,k∈ks↔∃e∈es.toList,knd.is k e.2=Qc)/\es.size=ks.length/\t.fits es.size=Qc/\TOk t led
 nd:ks.Nodup
 few:ks.length<y4
noncomputable def addK(ks:List K)(k:K):List K:=if k∈ks then ks else ks++[k]
variable{knd:KeyKind prog w K}{ks:List K}
def Good.keeps{h:Heap}(g:Good knd h a ks led)(k:∀o,h.get? a=Qa o->h'.get? a=Qa o):Good knd h' a ks led:=by let⟨o,c,d,t,b,r⟩:=g.ex;exact#[#[o,c,d,t,k o b,r],g.nd,g.few]
def stored{h:Heap}{o:Obj}{es':Array (Int×Value)}{t':j8}(b:h.get? a=Qa o)(c:o.data=.set es ep t):(h.update a<|Obj.putSet es' t').get? a=Qa {o with data:=.set es' (ep+1) t'}:=by have e:=putSet_of es' t' c;have q:=kY (Obj.putSet es' t') b (by rw[e];rfl);rwa[e]at q
def aV{k:K}{x:Value}{Q:Bool->Shared->Prop}(u:knd.is k x=Qc)(M:x.scannable=Qc)(g:Good knd s.heap a ks led)(hroom:ks.length+1<y4)(h:∀h' b,kZ a s.heap h'->Good knd h' a (addK ks k) led->Q b {s with heap:=h'}):wpAny (model prog w) A (setAddHashed a x<|knd.hash k) Q E s:=by
 let⟨o,T,ep,t,ho,hex,hd,P,D,hn,hf,hT⟩:=g.ex;have hb:T.size<y4:=by rw[hn];exact g.few
 refine v3<|j0<|wpAny_setState_of ho hd hf ?_;dsimp only;rw[byScan_of M hb P];simp only;refine j0<|j0<|yk<|j0<|wpAny_setScan_of u ho hd hf P ?_;cases hr:List.findIdx? (λe=>knd.is k e.2) T.toList with|some j=>let⟨hj,hpj,_⟩:=List.findIdx?_eq_some_iff_getElem.mp hr;have hk:=(D k).mpr #[T.toList[j],jm hj,hpj];refine j3<|j3 ?_;have q:=h s.heap Qd (Heap.SameBut.refl a s.heap) (by unfold addK;rwa[if_pos hk]);exact q|none=>
  have hk:k∉ks:=λz=>by let⟨e,v,X⟩:=(D k).mp z;have:=List.findIdx?_eq_none_iff.mp hr e v;rw[X]at this;cases this
  have gone:∀(b:Bool){i:Shared}{G:Unit->Shared->Prop},G () i->wpAny (model prog w) A (match b with|true=>rule "set.scan.the-table-gave-way"|false=>pure ()) G E i:=by
   intro b i G q;cases b;.exact j3 q
   .exact yk q
  have d:=layNew_perm t T (knd.hash k) x;have f:=layNew_fits t T (knd.hash k) x;have F:=hT.layNew T (knd.hash k) x;generalize layNew t T (knd.hash k) x=L at d f F⊢;let⟨c,t1,wd,gave⟩:=L;dsimp only at d f F⊢;rw[Array.toList_push]at d;have I:=(P.push u M).perm d;have C:∀J,J∈addK ks k↔∃e∈c.toList,knd.is J e.2=true:=by
   intro J;unfold addK;rw[if_neg hk,qU,qf,D J];constructor
   .rintro(⟨e,v,X⟩|rfl);.exact#[e,d.mem_iff.mpr<|je _ v,X]
    .exact#[_,d.mem_iff.mpr<|qi _<|qf.mpr rfl,u]
   .rintro⟨e,v,X⟩;rcases qU.mp (d.mem_iff.mp v)with v|v;.exact .inl #[e,v,X]
    .rw[qf]at v;subst v;exact .inr (knd.inj x J k X u)
  have r:(addK ks k).length=ks.length+1:=by unfold addK;rw[if_neg hk];simp
  have H:c.size=(addK ks k).length:=by rw[r,<-hn,<-qa,d.length_eq];simp
  have hb1:c.size<y4:=by rwa[H,r]
  have hnd:(addK ks k).Nodup:=by unfold addK;rw[if_neg hk,jc];exact#[g.nd,by simp,λa ha b hb=>by rw[qf]at hb;subst hb;exactλz=>hk<|z▸ha]
  have y:∀{gv:Bool->Sem Unit}(hgv:∀(b:Bool)(i:Shared)(G:Unit->Shared->Prop),G () i->wpAny (model prog w) A (gv b) G E i){p:j8},p.fits c.size=Qc->TOk p led->∀{R:Option Bool->Shared->Prop},(∀h',kZ a s.heap h'->Good knd h' a (addK ks k) led->R (Qa Qc) {s with heap:=h'})->wpAny (model prog w) A (do
     storeSet a c p if(!wd&&p.tooFull)=Qc then do
       gv (relayAll p c<|zH c.size).2.2
       storeSet a (relayAll p c<|zH c.size).1 (relayAll p c<|zH c.size).2.1
       pure (Qa Qc)else pure (Qa Qc)) R E s:=by
   intro gv hgv p hf2 hT2 R hR;refine j0<|wpAny_storeSet_of ho hd ?_<|fits_of_scanBound hb1;have N:=stored (es':=c) (t':=p) ho hd;have sb1:=Heap.SameBut.update s.heap a<|Obj.putSet c p;split
   .have p2:=relayAll_perm p c<|zH c.size;have f2:=relayAll_fits p c<|zH c.size;have hT3:=hT2.relayAll c<|zH c.size;generalize relayAll p c (zH c.size)=W at p2 f2 hT3⊢;let⟨S,t3,gv2⟩:=W;have sz2:S.size=c.size:=by rw[<-qa,p2.length_eq,qa]
    refine j0<|hgv _ _ _ ?_;refine j0<|wpAny_storeSet_of N rfl ?_<|fits_of_scanBound (by rwa[sz2]);have ho2:=stored (a:=a) (es':=S) (t':=t3) N rfl;refine j3 (hR _ (sb1.trans<|Heap.SameBut.update _ a _) #[#[_,S,_,t3,ho2,hex,rfl,I.perm p2,λJ=>(C J).trans #[by rintro ⟨e,v,q⟩;exact#[e,p2.mem_iff.mpr v,q],by rintro ⟨e,v,q⟩;exact#[e,p2.mem_iff.mp v,q]],by rwa[sz2],f2,hT3],hnd,by rwa[r]])
   .exact j3 (hR _ sb1 #[#[_,c,_,p,N,hex,rfl,I,C,H,hf2,hT2],hnd,by rwa[r]])
  refine j0<|gone _ ?_;split
  .refine j0 ?_;rw[hashByValue_scannable 8 M];refine j3 ?_;split;.refine y (λb i G q=>by cases b<;>first|exact j3 q|exact yk q) f F λh' sb gg=>?_;exact j3 (h h' Qc sb gg)
   .refine y (λb i G q=>by cases b<;>first|exact j3 q|exact yk q) (j8.fits_plain_off f) F.off λh' sb gg=>?_;exact j3 (h h' Qc sb gg)
  .refine j0<|j3 ?_;simp only;refine y (λb i G q=>by cases b<;>first|exact j3 q|exact yk q) f F λh' sb gg=>?_;exact j3<|h h' Qc sb gg
end
section
variable{K:Type}[DecidableEq K]{knd:KeyKind prog w K}{R:Result->Shared->Prop}{wr:T0o}{G:Array uh->Array uh->Prop}{n:Nat}{P:Nat->Value->Prop}{St:Nat->Shared->Prop}
def metK(val:Nat->K)(i:Nat):List K:=((qj i).map val).foldl addK []
def a6v(val:Nat->K) i:metK val (i+1)=addK (metK val i) (val i):=by unfold metK;rw[vT,jD,List.foldl_append];rfl
theorem metK_len(val:Nat->K):∀i,(metK val i).length<=i
 |0=>by simp[metK]|i+1=>by
  have:=metK_len val i;rw[a6v];unfold addK;split;.lia
  .simp;omega
def c0F(W:WalksS prog w A.in1 I fp wr G n P St) S(k:S∉fp) val(j:∀i v,P i v->knd.is (val i) v=Qc/\v.scannable=Qc)(u:∀i v A'(E':T0a) s' M,P i v->M (knd.hash<|val i) {s' with toks:=s'.toks+1}->wpAny (model prog w) A' (pyHash v) M E' s')(K:n+1<y4):∀ m i s,n-i=m->i<=n->St i s->Good knd s.heap S (metK val i) led->(∀s',Moved (S::wr) G s s'->Good knd s'.heap S (metK val n) led->R (.ok<|.ret .none) s')->
   wm (model prog w) A (.builtin "set.update.loop" #[[.ref S,.ref I],[]]) R s:=by have J:S∉wr:=λz=>k<|W.sub _ z;have E:∀b∈wr,b∈S::wr:=λb K=>qG _ K;intro m;induction m with|zero=>
  intro i s Q X q g C;obtain rfl:i=n:=by lia
  refine we F.entry_set_update_loop ?_;rw[jn wN _];show wpAny _ A.in1 (yz (.ref I)>>=_) _ _ s;exact j0 (W.done s _ _ q λs' f=>j3<|C s' (f.mono E)<|g.keeps λo e=>f.heap S o J e)|succ m N=>
  intro i s Q X q g C;have lt:i<n:=by lia
  refine we F.entry_set_update_loop ?_;rw[jn wN _];refine j0 (W.item i s _ _ lt q λv s' pv p f=>?_);have g':=g.keeps (h':=s'.heap) λo e=>f.heap S o J e;let⟨T,t⟩:=j i v pv;refine j0<|v3 ?_;refine v3<|j0<|u i v _ _ _ _ pv ?_;have a:(metK val i).length+1<y4:=by have:=metK_len val i;lia
  refine aV (knd:=knd) (s:={s' with toks:=s'.toks+1}) T t g' a λh' b H L=>?_;rw[<-a6v]at L;refine j3 #[yb wN _,N (i+1) _ (by lia) lt (W.frame _ s' _ _ p (ki _) λc y o e=>?_) L λr d D=>?_];.rwa[H.2 c (λz:c=S=>k<|z▸y)]
  .refine C r (Moved.trans W.gtrans ((f.mono E).then_heap (ki _) λc o y e=>?_) d) D;rwa[H.2 c (λz:c=S=>y<|by rw[z];exact qr)]
end
noncomputable def ledOf(w:World):Bool:=!w.params.followText "set-order"
abbrev mJ(w:World):Obj:={cls:=.type "set",dict:=Qb,data:=.set (List.toArray []) 0<|.fresh 0 0<|ledOf w}
section
variable{K:Type}[DecidableEq K]{knd:KeyKind prog w K}
def b7C(h:Heap):Good knd (h.push<|mJ w) h.objs.size [] (ledOf w):=#[#[_,(List.toArray []),0,_,qP _ rfl,#[rfl,rfl,rfl],rfl,λe a=>by simp at a,λk=>by simp,rfl,rfl,.fresh _],List.nodup_nil,by show 0<y4;decide]
def new_one v{Q1:T0a}(h:Q1 (.ref s.heap.objs.size) {s with heap:=s.heap.push<|mJ w}):wm (model prog w) A (.call (.builtin "set.__new__") #[[.type "set",v],[]]) (wants Q1 E) s:=by refine codeAny_of_tree ?_;refine j0<|ub (F.newCall_set_1 v)<|j3 #[yb F.plain_set_new _,we F.entry_set_new ?_];rw[jn F.plain_set_new _];have sub:=sub_set_self;let⟨c,gs,d,a,b⟩:=s;wp_walk;refine w9<|j3 ?_;exact j0<|wpAny_alloc<|j3<|j3 h
def set_of{l:Addr}{val:Nat->K}(hh:A.handled=Qb)(hl:s.heap.IsList l items)(hval:∀i v,items[i]?=Qa v->knd.is (val i) v=Qc/\v.scannable=Qc)(hpy:∀i v A'(E':T0a) s' Q',items[i]?=Qa v->Q' (knd.hash<|val i) {s' with toks:=s'.toks+1}->wpAny (model prog w) A' (pyHash v) Q' E' s')(hb:items.size+1<y4)(h:∀ h' tk,Good knd h' s.heap.objs.size (metK val items.size) (ledOf w)->(∀b o,b<s.heap.objs.size->s.heap.get? b=Qa o->h'.get? b=Qa o)->Q (.ref s.heap.objs.size) {s with heap:=h',toks:=tk}):wpAny (model prog w) A (call (.type "set") [.ref l]) Q E s:=by
 let⟨c,tl,hmro⟩:=zN.mro;have hmade:=zN.made;have hsub:=zN.sub;refine yh<|codeAny_of_tree ?_;show wpAny _ _ (callAny (.type "set") #[[.ref l],[]]) _ _ _;refine j3 #[Code.quiet_builtin _ (by decide+kernel),we F.entry_type_call ?_];rw[Around.under_plain (weight_type_call_type "set" [.ref l] []) rfl];have n1:=zN.notType;have n2:=zN.canCreate;have n3:=F.typeCall_set_1<|.ref l;repeat(any_goals(first|assumption|wp_step))
 refine wf (new_one (.ref l) (E:=E) (Q1:=λob s1=>ob=.ref s.heap.objs.size/\s1={s with heap:=s.heap.push<|mJ w}) #[rfl,rfl]) λr s1 hr=>?_;cases r with|error e=>exact hr|ok fl=>cases fl with
  |ret ob=>
   let⟨rfl,rfl⟩:=hr;have hS:(s.heap.push<|mJ w).get? s.heap.objs.size=Qa (mJ w):=qP _ rfl;have hT:va {s with heap:=s.heap.push<|mJ w} (.ref s.heap.objs.size) "set":=#[_,hS,rfl];have k1:=zN.init.lookup;have k2:=zN.init.bind<|.ref s.heap.objs.size;repeat(any_goals(first|assumption|wp_step))
   refine wf (ua (R:=wants (λr s2=>r=.none/\∃h' tk,s2={s with heap:=h',toks:=tk}/\Good knd h' s.heap.objs.size (metK val items.size) (ledOf w)/\∀b o,b<s.heap.objs.size->s.heap.get? b=Qa o->h'.get? b=Qa o) E)
    zN.init.plain F.entry_set_init (check_set_init_1 hT ?_)) λr2 s2 hr2=>?_
   .let⟨ol,g0,c0,nl,d0⟩:=hl;let⟨ocl,odc,odt,osl⟩:=ol;dsimp only at c0 d0;subst c0 d0;have g1:(s.heap.push<|mJ w).get? l=Qa {cls:=.type "list",dict:=odc,data:=.seq items nl,slots:=osl}:=qC _ g0;have s1:=F.sub_list_set;have s2:=F.sub_list_frozenset;have ne:(zf "list"==zf "dict")=false:=by decide
    have L1:(s.heap.push<|mJ w).IsList l items:=#[_,g1,rfl,nl,rfl];unfold Builtin.«set.__init__»noKeywords Builtin.Frozenset.updateFrom;generalize hI:QA=PI;wp_walk;subst hI;refine yu L1<|j0<|wpAny_runValue ?_;have lt:l<s.heap.objs.size:=qQ g0;have h3:A.in1.in1.in1.handled=none:=by simp[hh]
    have nI:l≠(s.heap.push<|mJ w).objs.size:=by rw[jr];exact qd (kI lt)
    have nf:s.heap.objs.size∉[(s.heap.push<|mJ w).objs.size,l]:=by
     rw[jr];intro z;rcases qI.mp z with z|z;.exact absurd z (qd<|za _)
     .rw[qf]at z;exact absurd z (kc lt)
    refine c0F (knd:=knd) (led:=ledOf w) ((Walks.list h3 _ l nI items).toS) s.heap.objs.size nf val hval hpy hb (items.size-0) 0 _ (by omega) (jJ _) #[#[_,qP _ rfl,rfl,rfl],L1.push _] ?g0 ?gR;case g0=>exact(b7C (knd:=knd) s.heap).keeps λo e=>qC _ e
    case gR=>
     intro s' mv g';let⟨h',gs',dr',tk',os'⟩:=s';obtain rfl:gs'=s.gens:=mv.gens;obtain rfl:dr'=s.drawn:=mv.drawn;obtain rfl:os'=s.os:=mv.os;show wpAny _ _ _ _ _ _;refine j3 ?_;show wpAny _ _ (ret kE) _ _ _;refine j3 #[rfl,h',tk',rfl,g',λb o hb' e=>?_];refine mv.heap b o (λz=>?_)<|qC _<|qC _ e;rcases qI.mp z with z|z;.exact absurd z (qd hb')
     .rw[qf,jr]at z;exact absurd z (qd<|kI hb')
   .cases r2 with|error e=>exact hr2|ok fl2=>
     cases fl2 with|ret r=>
      let⟨rfl,h',tk,rfl,g',kp⟩:=hr2;repeat(any_goals(first|assumption|wp_step))
      exact h _ _ g' kp|_=>exact hr2.elim
  |_=>exact hr.elim
end
def slot_next:Slot "set_iterator" "__next__" "set_iterator.__next__":=.of (owner:="set_iterator") (n:="__next__") (by rw[typeLookup_type,yw];kernel_rfl) (by decide+kernel) (by decide+kernel) (by decide+kernel) (by first|exact .inl (by decide+kernel)|exact .inr (by decide+kernel)) (by rw[isSubtype_type];kernel_rfl)
def entry_next:entryFor table "set_iterator.__next__"=Qa Builtin.«set_iterator.__next__»:=entryFor_of_fast (by kernel_rfl)
def args_next v:argsOk "set_iterator.__next__" #[[v],[]]:=by kernel_rfl
def b1F:entryFor table "set.__iter__"=Qa Builtin.«frozenset.__iter__»:=entryFor_alias (id':="frozenset.__iter__") (by kernel_rfl) rfl (by decide+kernel) (by kernel_rfl)
noncomputable abbrev itO(f0:Value)(i:Nat)(a:Addr)(n ep:Nat):Obj:={cls:=.type "set_iterator",data:=.fields<|List.toArray [f0,v7 i,.ref a,v7 n,v7 ep]}
structure SetAt(h:Heap)(a:Addr)(es:Array (Int×Value))(ep:Nat)(t:j8):Prop where
 ex:∃o,h.get? a=Qa o/\o.cls=.type "set"/\o.data=.set es ep t
 fits:t.fits es.size=Qc
def SetAt.keeps{h:Heap}(g:SetAt h a es ep t)(k:∀o,h.get? a=Qa o->h'.get? a=Qa o):SetAt h' a es ep t:=by let⟨o,b,r⟩:=g.ex;exact#[#[o,k o b,r],g.fits]
def SetAt.state{Q:(Array (Int×Value)×Nat×j8)->Shared->Prop}(g:SetAt s.heap a es ep t)(h:Q (es,ep,t) s):wpAny (model prog w) A (setState a) Q E s:=by let⟨o,b,_,c⟩:=g.ex;exact wpAny_setState_of b c g.fits h
def SetAt.entries{Q:Array (Int×Value)->Shared->Prop}(g:SetAt s.heap a es ep t)(h:Q es s):wpAny (model prog w) A (ul a) Q E s:=by exact j0 (g.state<|j3 h)
def next_item{x:Value}{nx:Nat}{Q:Option Value->Shared->Prop}(hI:s.heap.get? I=Qa (itO (v7 f0) i a es.size ep))(g:SetAt s.heap a es ep t)(hn:∀ A'(E':T0a) Q',Q' (Qa (x,nx)) s->wpAny (model prog w) A' (ue a f0 i ep) Q' E' s)(hQ:∀h',h'.get? I=Qa (itO (v7 nx) (i+1) a es.size ep)->kZ I s.heap h'->Q (Qa x) {s with heap:=h'}):wpAny (model prog w) A (yz<|.ref I) Q E s:=by have hT:s.TypeIs (.ref I) "set_iterator":=#[_,hI,rfl];refine j0<|yc<|wo (name:=qH "__next__") hT slot_next<|wb slot_next hT entry_next ?_<|args_next _;unfold Builtin.«set_iterator.__next__»;generalize hSE:ul=SE;generalize hSN:ue=SN;generalize hSF:setField=SF;wp_walk;subst hSE hSN hSF;refine g.entries ?_;rw[if_neg<|by simp];show wpAny _ A.in1 (ue a (f0:Int).toNat (i:Int).toNat (ep:Int).toNat>>=_) _ _ s;rw[jq,jq,jq];refine j0<|hn _ _ _ ?_;refine j0 (ww hI (by simp) λh1 g1 s1=>?_);refine j0 (ww g1 (by simp) λh2 g2 s2=>?_);refine j3 #[x,rfl,j3<|hQ h2 ?_<|s1.trans s2];rw[g2];rfl
def next_end{Q:Option Value->Shared->Prop}(hh:A.handled=Qb)(hI:s.heap.get? I=Qa (itO (v7 f0) i a es.size ep))(g:SetAt s.heap a es ep t)(hn:∀ A'(E':T0a) Q',Q' Qb s->wpAny (model prog w) A' (ue a f0 i ep) Q' E' s)(hQ:∀h',Heap.ExtBut I s.heap h'->Q Qb {s with heap:=h'}):wpAny (model prog w) A (yz<|.ref I) Q E s:=by have hT:s.TypeIs (.ref I) "set_iterator":=#[_,hI,rfl];refine j0<|yc<|wo (name:=qH "__next__") hT slot_next<|wb slot_next hT entry_next ?_<|args_next _;unfold Builtin.«set_iterator.__next__»;generalize hSE:ul=SE;generalize hSN:ue=SN;generalize hSF:setField=SF;generalize hNE:newExc=NE;generalize hRN:@raiseNew=RN;wp_walk;subst hSE hSN hSF hNE hRN;refine g.entries ?_;rw[if_neg<|by simp];show wpAny _ A.in1 (ue a (f0:Int).toNat (i:Int).toNat (ep:Int).toNat>>=_) _ _ s;rw[jq,jq,jq];refine j0<|hn _ _ _ ?_;refine j0 (ww hI (by simp) λh1 g1 s1=>?_);refine j0 ?_;refine j0<|v5 ?_ (by size_fits);refine j0 (m:=uj _ _)<|ub (a:=kE) (by first|rfl|(simp only;rfl)) ?_;refine v5 ?_ (by size_fits);refine j0<|wpAny_handled ?_;rw[show A.in1.handled=Qb from hh];refine j0<|j3<|wpAny_throw ?_;exact j0<|u0 (T:="StopIteration") (b:=Qc) #[_,qP _ rfl,rfl] isSubtype_stop (j3<|hQ _<|(s1.extBut.push _).push _)
variable{T:Addr}
noncomputable abbrev plO(pl:T0t):Obj:={cls:=.type "tuple",data:=.seq (pl.map λ(k:Nat)=>v7 k).toArray}
def b1e{p:Nat}{hx:Int}{x:Value}{Q:Option Value->Shared->Prop}(hI:s.heap.get? I=Qa (itO (.ref T) i a es.size ep))(hT:s.heap.get? T=Qa (plO pl))(g:SetAt s.heap a es ep t)(hp:pl[i]?=Qa p)(he:es[p]?=Qa (hx,x))(hQ:∀h',h'.get? I=Qa (itO (.ref T) (i+1) a es.size ep)->kZ I s.heap h'->Q (Qa x) {s with heap:=h'}):wpAny (model prog w) A (yz<|.ref I) Q E s:=by
 have hty:s.TypeIs (.ref I) "set_iterator":=#[_,hI,rfl];refine j0<|yc<|wo (name:=qH "__next__") hty slot_next<|wb slot_next hty entry_next ?_<|args_next _;unfold Builtin.«set_iterator.__next__»;generalize hSE:ul=SE;generalize hSN:setNextDrawn=SN;generalize hSF:setField=SF;generalize hSI:seqItems?=SI;wp_walk;subst hSE hSN hSF hSI;refine g.entries ?_;rw[if_neg<|by simp];refine j0<|wpAny_seqItems hT rfl ?_;dsimp only;have e1:(pl.map λ(k:Nat)=>v7 k).toArray[(i:Int).toNat]?=Qa (v7 p):=by rw[jq,zX,qS,hp];rfl
 rw[e1];show wpAny _ A.in1 (setNextDrawn a (p:Int).toNat (ep:Int).toNat>>=_) _ _ s;rw[jq,jq];refine j0<|j0<|g.state ?_;dsimp only;rw[if_neg (by simp),he];refine j3 ?_;refine j0 (ww hI (by simp) λh1 g1 s1=>?_);refine j3 #[x,rfl,j3<|hQ h1 ?_ s1];rw[g1];rfl
def b4o{Q:Option Value->Shared->Prop}(hh:A.handled=Qb)(hI:s.heap.get? I=Qa (itO (.ref T) i a es.size ep))(hT:s.heap.get? T=Qa (plO pl))(g:SetAt s.heap a es ep t)(hp:pl[i]?=Qb)(hQ:∀h',Heap.ExtBut I s.heap h'->Q Qb {s with heap:=h'}):wpAny (model prog w) A (yz<|.ref I) Q E s:=by
 have hty:s.TypeIs (.ref I) "set_iterator":=#[_,hI,rfl];refine j0<|yc<|wo (name:=qH "__next__") hty slot_next<|wb slot_next hty entry_next ?_<|args_next _;unfold Builtin.«set_iterator.__next__»;generalize hSE:ul=SE;generalize hSF:setField=SF;generalize hSI:seqItems?=SI;generalize hNE:newExc=NE;generalize hRN:@raiseNew=RN;wp_walk;subst hSE hSF hSI hNE hRN;refine g.entries ?_;rw[if_neg<|by simp];refine j0<|wpAny_seqItems hT rfl ?_;dsimp only;have e1:(pl.map λ(k:Nat)=>v7 k).toArray[(i:Int).toNat]?=none:=by rw[jq,zX,qS,hp];rfl
 rw[e1];refine j0 (ww hI (by simp) λh0 g0 s0=>?_);refine j0 (ww g0 (by simp) λh1 g1 s1=>?_);refine j0 ?_;refine j0<|v5 ?_ (by size_fits);refine j0 (m:=uj _ _)<|ub (a:=kE) (by first|rfl|(simp only;rfl)) ?_;refine v5 ?_ (by size_fits);refine j0<|wpAny_handled ?_;rw[show A.in1.handled=Qb from hh];refine j0<|j3<|wpAny_throw ?_;exact j0<|u0 (T:="StopIteration") (b:=Qc) #[_,qP _ rfl,rfl] isSubtype_stop (j3<|hQ _<|((s0.trans s1).extBut.push _).push _)
theorem b3d b:∀ c k a(d:Array α),a.length=c->(w8.go b c k a d).toList.Perm (d.toList++a)
 |0,k,a,d,h=>by have:a=[]:=List.length_eq_zero_iff.mp h;subst this;simp[w8.go]|c+1,k,a,d,h=>by
  unfold w8.go;have lt:b k%a.length<a.length:=Nat.mod_lt _ (by lia);rw[qN lt];refine(b3d b c (k+1) _ _<|by rw[List.length_eraseIdx,if_pos lt];lia).trans ?_;rw[Array.toList_push,jd];refine List.Perm.append_left _ ?_;show(a[b k%a.length]::a.eraseIdx (b k%a.length)).Perm a;generalize b k%a.length=m at lt;rw[wJ];have e:a=a.take m++a[m]::a.drop (m+1):=by rw[List.getElem_cons_drop,List.take_append_drop]
  exact List.Perm.trans List.perm_middle.symm<|List.Perm.of_eq e.symm
def a1L a(Y:Array α):(w8 a Y).toList.Perm Y.toList:=by unfold w8;have:=b3d a Y.size 0 Y.toList (List.toArray []) (by simp);simpa using this
def c5u(b:w.params.followText "set-order"=Qc){Q:Array (Int×Value)->Shared->Prop}(g:SetAt s.heap a es ep t)(h:Q (w8 (w.params.setOrder a ep) es) s):wpAny (model prog w) A (setWalk a) Q E s:=by refine j0 (g.state ?_);refine j0<|j0<|w9<|j3 ?_;show wpAny _ _ (if w.params.followText "set-order"=Qc then _ else _) _ _ s;rw[if_pos b];exact j0<|w9<|j3 h
def nextT(b:w.params.followText "set-order"=Qc){Q:Option (Value×Nat)->Shared->Prop}(g:SetAt s.heap a es ep t)(h:Q (((w8 (w.params.setOrder a ep) es)[i]?).map λe=>(e.2,f0)) s):wpAny (model prog w) A (ue a f0 i ep) Q E s:=by refine j0 (g.state ?_);refine j0 ?_;refine j0<|w9<|j3 ?_;show wpAny _ _ (if w.params.followText "set-order"=Qc then _ else _) _ _ s;rw[if_pos b,if_neg<|by simp];exact j0<|c5u b g<|j3 h
def c2l(d:w.params.followText "set-order"=Qd)(b:(!t.plain&&decide (es.size>1))=Qd)(c:t.led=Qc){Q:Option (Value×Nat)->Shared->Prop}(g:SetAt s.heap a es ep t)(h:Q (match es[ql t.place f0]?,t.place[ql t.place f0]? with|some (_,x),Qa j=>Qa (x,j+1)|_,_=>Qb) s):wpAny (model prog w) A (ue a f0 i ep) Q E s:=by refine j0 (g.state ?_);refine j0 ?_;refine j0<|w9<|j3 ?_;show wpAny _ _ (if w.params.followText "set-order"=Qc then _ else(if(!t.plain&&decide (es.size>1))=Qc then _ else _)) _ _ s;rw[d,if_neg (by decide),b,if_neg<|by decide];show wpAny _ _ ((if(!t.led&&!es.isEmpty)=Qc then unsupported "set:maker-not-led"else pure PUnit.unit)>>=λ_=>_) _ _ s;rw[c];rw[if_neg<|by simp];exact j0<|j3<|j3 h
def b5e{n:Nat}{Q:Nat->Shared->Prop}(b:n≠0)(h:∀k,k<n->Q k {s with drawn:=s.drawn.bump src}):wpAny M A (choose src n) Q E s:=λa p ha=>by unfold choose;rw[Sem.wp_choose];exact#[b,h _<|Nat.mod_lt _<|by lia]
theorem b3m{M:Model}{A:Around}{E:T0a}:∀ n Y s(Q:List α->Shared->Prop),Y.length=n->(∀ys d',ys.Perm Y->Q ys {s with drawn:=d'})->wpAny M A (drawOrder n Y) Q E s
 |0,Y,s,Q,hn,h=>by have:Y=[]:=List.length_eq_zero_iff.mp hn;subst this;exact j3 (h [] s.drawn .nil)|n+1,[],s,Q,hn,h=>by cases hn|n+1,x::Y,s,Q,hn,h=>by
  refine j0 (b5e (by simp) λk a=>?_);rw[qN a];refine j0 (b3m n _ _ _ (by rw[List.length_eraseIdx,if_pos a];lia) λys d' b=>j3<|h _ d' ?_);refine(b.cons _).trans ?_;generalize c:x::Y=left at a⊢;rw[wJ];have e:left=left.take k++left[k]::left.drop (k+1):=by rw[List.getElem_cons_drop,List.take_append_drop]
  exact List.perm_middle.symm.trans<|List.Perm.of_eq e.symm
def slot_self:Slot "set_iterator" "__iter__" "set_iterator.__iter__":=.of (owner:="set_iterator") (n:="__iter__") (by rw[typeLookup_type,yw];kernel_rfl) (by decide+kernel) (by decide+kernel) (by decide+kernel) (by first|exact .inl (by decide+kernel)|exact .inr (by decide+kernel)) (by rw[isSubtype_type];kernel_rfl)
def entry_self:entryFor table "set_iterator.__iter__"=Qa Builtin.«dict_keyiterator.__iter__»:=entryFor_alias (id':="dict_keyiterator.__iter__") (by kernel_rfl) rfl (by decide+kernel) (by kernel_rfl)
def args_self v:argsOk "set_iterator.__iter__" #[[v],[]]:=by kernel_rfl
def a1D(a:s.TypeIs (.ref I) "set_iterator")(h:Q (.ref I) s):wpAny (model prog w) A (QA<|.ref I) Q E s:=by refine wpAny_pyIter_slot a slot_self (wb slot_self a entry_self ?_<|args_self _);exact j3 #[_,rfl,"set_iterator",_,a,slot_next.lookup,h]
def c2G(d:w.params.followText "set-order"=Qc)(p:a≠I)(z:A.handled=Qb):Walks prog w A I [I,a] [I] es.size (λi v=>((w8 (w.params.setOrder a ep) es).toList.map (·.2))[i]?=Qa v)
  (λi h=>h.get? I=Qa (itO (v7 0) i a es.size ep)/\SetAt h a es ep t)where
 sub:=λb d=>by simp at d;simp[d]
 frame:=λi h j c u=>#[u I (by simp) _ c.1,c.2.keeps λo e=>u a (by simp) o e];item:=λi s Q E H c g=>by
  have y:(w8 (w.params.setOrder a ep) es).size=es.size:=by rw[<-qa,(a1L _ _).length_eq,qa]
  have f:i<(w8 (w.params.setOrder a ep) es).size:=by lia
  refine next_item c.1 c.2 (x:=(w8 (w.params.setOrder a ep) es)[i].2) (nx:=0) (λG F D q=>nextT d c.2<|by rwa[jI f]) λj C r=>?_;refine g _ j s.toks ?_ #[C,c.2.keeps λo e=>r.extBut _ _ p e] λb o d e=>r.extBut b o (by simpa using d) e;rw[qS,jt,jI f];rfl
 done:=λs Q E c g=>by
  have y:(w8 (w.params.setOrder a ep) es).size=es.size:=by rw[<-qa,(a1L _ _).length_eq,qa]
  refine next_end z c.1 c.2 (λG F D q=>nextT d c.2<|by rwa[Array.getElem?_eq_none<|by lia]) λj x=>g j s.toks λb o d e=>x b o (by simpa using d) e
 self:=λi s Q E c g=>by have k:s.TypeIs (.ref I) "set_iterator":=#[_,c.1,rfl];exact a1D k g
noncomputable def slotAt(t:j8):Nat->Nat|0=>0|i+1=>t.place.getD i 0+1
def a1h{n:Nat}(a:yM t.place)(b:t.place.size=n):∀i,i<=n->ql t.place (slotAt t i)=i
 |0,_=>b1X _ a|i+1,h=>by
  have lt:i<t.place.size:=by lia
  show ql t.place (t.place.getD i 0+1)=i+1;have:t.place.getD i 0=t.place[i]:=by simp[lt]
  rw[this];exact b1Y a lt
def c2I(d:w.params.followText "set-order"=Qd)(f:(!t.plain&&decide (es.size>1))=Qd)(D:t.led=Qc)(z:yM t.place)(C:t.place.size=es.size)(p:a≠I)(F:A.handled=Qb):Walks prog w A I [I,a] [I] es.size (λi v=>(es.toList.map (·.2))[i]?=Qa v) (λi h=>i<=es.size/\h.get? I=Qa (itO (v7<|slotAt t i) i a es.size ep)/\SetAt h a es ep t)where
 sub:=λb d=>by simp at d;simp[d]
 frame:=λi h k c y=>#[c.1,y I (by simp) _ c.2.1,c.2.2.keeps λo e=>y a (by simp) o e];item:=λi s Q E r c j=>by
  have g:i<t.place.size:=by lia
  have bl:=a1h z C i (by exact Nat.le_of_lt ‹_›);refine next_item c.2.1 c.2.2 (x:=es[i].2) (nx:=slotAt t<|i+1) (λK J H q=>c2l d f D c.2.2 (by
   rw[bl,jI r,jI g];have:slotAt t (i+1)=t.place[i]+1:=by show t.place.getD i 0+1=_;simp[g]
   rwa[this]at q)) λk G u=>?_;refine j _ k s.toks ?_ #[r,G,c.2.2.keeps λo e=>u.extBut _ _ p e] λb o d e=>u.extBut b o (by simpa using d) e;rw[qS,jt,jI r];rfl
 done:=λs Q E c j=>by have bl:=a1h z C es.size<|qM _;refine next_end F c.2.1 c.2.2 (λK J H q=>c2l d f D c.2.2<|by rwa[bl,Array.getElem?_eq_none<|qM _]) λk x=>j k s.toks λb o d e=>x b o (by simpa using d) e
 self:=λi s Q E c j=>a1D #[_,c.2.1,rfl] j
def c2H(d:pl.Perm (qj es.size))(C:a≠I)(D:T≠I)(G:A.handled=Qb):Walks prog w A I [I,a,T] [I] es.size (λi v=>(pl.map λk=>(es.toList.map (·.2)).getD k .none)[i]?=Qa v) (λi h=>h.get? I=Qa (itO (.ref T) i a es.size ep)/\h.get? T=Qa (plO pl)/\SetAt h a es ep t)where
 sub:=λb g=>by simp at g;simp[g]
 frame:=λi h u c z=>#[z I (by simp) _ c.1,z T (by simp) _ c.2.1,c.2.2.keeps λo e=>z a (by simp) o e];item:=λi s Q E J c r=>by
  have q:pl.length=es.size:=by rw[d.length_eq,kJ]
  have f:i<pl.length:=by lia
  have F:=d.mem_iff.mp<|jm f;have j:=kH.mp F;refine b1e (p:=pl[i]) (hx:=es[pl[i]].1) (x:=es[pl[i]].2) c.1 c.2.1 c.2.2 (qN f) (jI j) λu H y=>?_;refine r _ u s.toks ?_ #[H,y.extBut _ _ D c.2.1,c.2.2.keeps λo e=>y.extBut _ _ C e] λb o g e=>y.extBut b o (by simpa using g) e;rw[qS,qN f];simp[j]
 done:=λs Q E c r=>by
  have q:pl.length=es.size:=by rw[d.length_eq,kJ]
  exact b4o G c.1 c.2.1 c.2.2 (jE<|by lia) λu x=>r u s.toks λb o g e=>x b o (by simpa using g) e
 self:=λi s Q E c r=>a1D #[_,c.1,rfl] r
def b0Y{b:Type} Y(d:b)(h:pl.Perm (qj Y.length)):(pl.map λk=>Y.getD k d).Perm Y:=by
 refine(h.map _).trans<|List.Perm.of_eq ?_;apply jW;intro i;rw[qS];by_cases a:i<Y.length;.rw[zC a,qN a];simp[a]
 .rw[jE (by simpa using a),jE<|by lia];rfl
def b7o(g:SetAt s.heap a es ep t)(hT:TOk t (ledOf w))(few:es.size<=j5)(h:∀ h' d'(I:Addr)(vs:T0m)(fp:T0o)(St:Nat->Heap->Prop),vs.Perm (es.toList.map (·.2))->(U9 s.heap h')->s.heap.objs.size<=I->I∈fp->(∀b∈fp,b=a\/s.heap.objs.size<=b)->(∀A':Around,A'.handled=Qb->Walks prog w A' I fp [I] es.size (λi v=>vs[i]?=Qa v) St)->St 0 h'->Q (.ref I) {s with heap:=h',drawn:=d'}):wpAny (model prog w) A (QA<|.ref a) Q E s:=by
 let⟨o,ho,hc,hd⟩:=g.ex;have hty:s.TypeIs (.ref a) "set":=#[o,ho,hc];have lt:=qQ ho;have hpl:t.place.size=es.size:=by have:=g.fits;simp only[j8.fits,qD,beq_iff_eq]at this;exact this.1
 refine wpAny_pyIter_slot hty F.slot_set_iter<|wb F.slot_set_iter hty b1F ?_<|F.args_set_iter_1 _;unfold Builtin.«frozenset.__iter__»;generalize hSD:setDrawn=SD;generalize hSE:setEpoch=SE;generalize hSZ:Builtin.Frozenset.sizeOf=SZ;wp_walk;subst hSD hSE hSZ;refine j0<|g.entries<|j3 ?_;have fin:∀(f0:Value)(s2:Shared),SetAt s2.heap a es ep t->Q (.ref s2.heap.objs.size) {s2 with heap:=s2.heap.push<|itO f0 0 a es.size ep}->wpAny (model prog w) A.in1 (setEpoch a>>=λe=>newFields "set_iterator" [f0,v7 0,jC a,v7 (es.size:Nat),v7 (e:Nat)]>>=λv=>ret v) (λfin s'=>∃v,fin=Fin.done (Flow.ret v)/\∃T' r,s'.TypeIs v T'/\typeLookup (zf T') (qH "__next__")=pure (Qa r)/\Q v s') E s2:=by intro f0 s2 g2 q;refine j0 ?_;refine j0<|g2.state<|j3 ?_;refine j0 ?_;exact v5 (j3 #[_,rfl,"set_iterator",_,#[_,qP _ rfl,rfl],slot_next.lookup,q]) (by size_fits)
 have plain:∀(vs:T0m)(St:Nat->Heap->Prop),vs.Perm (es.toList.map (·.2))->(∀A':Around,A'.handled=Qb->Walks prog w A' s.heap.objs.size [s.heap.objs.size,a] [s.heap.objs.size] es.size (λi v=>vs[i]?=Qa v) St)->St 0 (s.heap.push<|itO (v7 0) 0 a es.size ep)->Q (.ref s.heap.objs.size) {s with heap:=s.heap.push<|itO (v7 0) 0 a es.size ep}:=by
  intro vs St hp W st;refine h _ s.drawn s.heap.objs.size vs [s.heap.objs.size,a] St hp (λb o e=>qC _ e) (qM _) (by simp) (λb hb=>?_) W st;obtain z|z:=qI.mp hb;.exact .inr (by rw[z];exact qM _)
  .exact .inl (qf.mp z)
 have hne:=qd lt;have g1:SetAt (s.heap.push<|itO (v7 0) 0 a es.size ep) a es ep t:=g.keeps λo e=>qC _ e;refine j0 ?_;refine j0<|g.state ?_;refine j0<|j0<|w9<|j3<|j3 ?_;show wpAny _ _ (if(!w.params.followText "set-order"&&(!t.plain&&decide (es.size>1)))=Qc then _ else _) _ _ s;cases hbt:w.params.followText "set-order"with|true=>rw[if_neg<|by simp];exact j0 (j3<|fin (v7 0) s g<|plain _ _ ((a1L _ _).map _) (λA' hA=>c2G hbt hne hA) #[qP _ rfl,g1])|false=>
  have hled:t.led=true:=by rw[hT.led];unfold ledOf;rw[hbt];rfl
  cases hdr:(!t.plain&&decide (es.size>1))with|false=>
   rw[if_neg<|by simp];refine j0<|j3 ?_;have hr:yM t.place:=by cases hp:t.plain with|true=>exact hT.rise hp|false=>
     rw[hp]at hdr;have:¬es.size>1:=by simpa using hdr
     unfold yM;have hl:t.place.toList.length<=1:=by rw[qa];lia
     match t.place.toList,hl with|[],_=>exact .nil|[x],_=>exact List.pairwise_singleton _ _
   exact fin (v7 0) s g (plain _ _ (.refl _) (λA' hA=>c2I hbt hdr hled hr hpl hne hA) #[jJ _,qP _ rfl,g1])|true=>
   rw[if_pos<|by simp];refine j0 (b3m es.size (qj es.size) s _ (by simp) λpl d' hpl'=>?_);refine j0 ?_;refine v5 ?_ (by
    have h1:pl.length=es.size:=by rw[hpl'.length_eq,kJ]
    show(pl.map λ(k:Nat)=>v7 k).toArray.size<=j5;rwa[qT,qF,h1]);have g2:SetAt (s.heap.push<|plO pl) a es ep t:=g.keeps λo e=>qC _ e;refine fin (.ref s.heap.objs.size) {s with heap:=s.heap.push<|plO pl,drawn:=d'} g2 ?_;have sz:(s.heap.push<|plO pl).objs.size=s.heap.objs.size+1:=jr ..;have hp2:(pl.map λk=>(es.toList.map (·.2)).getD k kE).Perm (es.toList.map (·.2)):=b0Y _ _ (by simpa using hpl');refine h _ d' (s.heap.push<|plO pl).objs.size _ [(s.heap.push<|plO pl).objs.size,a,s.heap.objs.size] _ hp2 (λb o e=>qC _<|qC _ e) (by rw[sz];exact ki _) (by simp) (λb hb=>?_)
    (λA' hA=>c2H (ep:=ep) (t:=t) hpl' (by rw[sz];exact qd<|kI lt) (by rw[sz];exact qd<|za _) hA) #[qP _ rfl,qC _<|qP _ rfl,g2.keeps λo e=>qC _ e];obtain z|z:=qI.mp hb;.exact .inr (by rw[z,sz];exact ki _)
   .obtain z|z:=qI.mp z;.exact .inl z
    .rw[qf]at z;exact .inr (by rw[z];exact qM _)
def b9x:typeLookup (.type "set") "__len__"=pure (Qa<|.builtin "set.__len__"):=by rw[typeLookup_type,yw];kernel_rfl
def b0i{Q:List Value->Shared->Prop}(hh:A.handled=Qb)(g:SetAt s.heap a es ep t)(hT:TOk t (ledOf w))(G:es.size<=j5)(hQ:∀ h' d' tk(vs:T0m),vs.Perm (es.toList.map (·.2))->(U9 s.heap h')->s.heap.objs.size<h'.objs.size->Q vs {s with heap:=h',drawn:=d',toks:=tk}):wpAny (model prog w) A (collect<|.ref a) Q E s:=by
 let⟨o,L,hc,_⟩:=g.ex;have lt:=qQ L;refine j0<|wpAny_runValue<|we F.entry_proto_collect ?_;rw[jn F.plain_proto_collect _];refine j0<|v5 ?_;refine j3 #[yb vX _,we F.entry_list_iadd ?_];rw[jn vX _];have g1:SetAt (s.heap.push {cls:=.type "list",data:=.seq ([]:T0m).toArray}) a es ep t:=g.keeps λo e=>qC _ e;have P:(s.heap.push {cls:=.type "list",data:=.seq ([]:T0m).toArray}).get? s.heap.objs.size=Qa {cls:=.type "list",data:=.seq ([]:T0m).toArray}:=qP _ rfl;have J:va {s with heap:=s.heap.push {cls:=.type "list",data:=.seq ([]:T0m).toArray}} (.ref a) "set":=#[o,qC _ L,hc];show wpAny _ A.in1 (jx (.ref s.heap.objs.size) (.ref a)<|.ref s.heap.objs.size) _ _ _;refine j0<|ym J ?_;have e1:Builtin.List.listSameRef (.ref s.heap.objs.size) (.ref a)=false:=by simp[Builtin.List.listSameRef,kc lt]
 have e2:(zf "set"==zf "list")=false:=by decide
 have e3:(zf "set"==zf "tuple")=false:=by decide
 simp only[e1,if_false];refine j0 (b7o (w:=w) g1 hT G λh' d' I vs fp St X K hI hIf M W st=>?_);have f:va {s with heap:=h',drawn:=d'} (.ref a) "set":=#[o,K a o<|qC _ L,hc];refine j0<|v3 ?_;have r:∀R:Bool->Shared->Prop,R Qd {s with heap:=h',drawn:=d'}->wpAny (model prog w) A.in1 (Builtin.List.listLengthHint<|.ref a) R E {s with heap:=h',drawn:=d'}:=by intro R q;refine j0<|wpAny_specialOf f b9x ?_;generalize u:("set.__len__":String)=i0;wp_delta;rw[show splitId i0=Qa ("set","__len__")from by rw[<-u];decide+kernel];rw[<-u];refine j0<|u0 (T:="set") (b:=Qc) f sub_set_self ?_;refine wpAny_ite_split (λz=>absurd z<|by decide) λ_=>?_;exact wpAny_ite_split (λ_=>j0<|ym f<|j3 q) λz=>absurd (by decide+kernel) z
 refine r _ ?_;have v:s.heap.objs.size∉fp:=λH=>by
  obtain z|z:=M _ H;.exact absurd z (kc lt)
  .rw[jr]at z;exact absurd z (Nat.not_succ_le_self _)
 refine wpAny_ite_split (λ_=>?_) λz=>absurd (by decide+kernel) z;have C:=K _ _ P;refine j0<|yk ?_;refine j0 ?_;refine j0<|wpAny_updateSeq C rfl ?_;have y:=kY (kG (·.push kE)) C rfl;refine wpAny_updateSeq y rfl ?_;have N:=kY (kG (·.pop)) y rfl;have k:∀b o,b≠s.heap.objs.size->h'.get? b=Qa o->((h'.update s.heap.objs.size (kG (·.push kE))).update s.heap.objs.size (kG (·.pop))).get? b=Qa o:=λb o j e=>by rwa[qv _ _<|jL j,qv _ _<|jL j]
 have W1:=W A.in1 hh;refine j3 #[yb F.plain_extend_loop _,codeAny_extend_loopS W1.toS G _ v _ es.size 0 _ _ _ rfl (jJ _)
  (W1.frame 0 _ _ st λb j o e=>k b o (λz=>v<|z▸j) e) N (ItemsOf.nil _) λS d c' H D c=>?_];refine j0<|wpAny_load D<|j3 ?_;have hv:d.toList=vs:=by
  have hl:vs.length=es.size:=by rw[X.length_eq];simp
  refine jW λi=>?_;by_cases hi:i<es.size
  .have h1:i<d.size:=by rwa[c.1]
   have h2:=c.2 i _<|jI h1;rw[h2,jt,jI h1]
  .rw[jE (by rw[qa,c.1];omega),jE<|by rw[hl];omega]
 rw[hv,Moved.eq_with H];refine hQ S.heap d' S.toks vs X (λb o e=>?_)<|qQ D;have j:=qd<|qQ e;refine H.heap b o (λp=>?_)<|k b o j<|K b o<|qC _ e;obtain z|z:=qI.mp p;.exact j z
 .rw[qf]at z;rw[jr]at hI;have q:=qQ e;rw[z]at q;exact jl _<|qX (kI q) hI
theorem b2F{c:Type}[DecidableEq c]:∀(ks qs:List c),ks.Nodup->(∀k∈ks,k∈qs)->qs.length=ks.length->qs.Perm ks
 |[],[],_,_,_=>.refl _|k::ks,qs,hn,hm,hl=>by
  have d:=List.perm_cons_erase<|hm k (by simp);have a:=kB.mp hn;refine d.trans<|.cons k<|b2F ks _ a.2 (λx b=>?_) ?_;.exact(List.mem_erase_of_ne<|λz=>by rw[z]at b;exact a.1 b).mpr (hm x<|by simp[b])
  .have:=d.length_eq;simp only[qO]at this hl;lia
variable{vs:List Value}
section
variable{K:Type}[DecidableEq K]{knd:KeyKind prog w K}
inductive Keys(knd:KeyKind prog w K):List Value->List K->Prop|nil:Keys knd [] []|cons{v k vs ks:_}:knd.is k v=Qc->Keys knd vs ks->Keys knd (v::vs) (k::ks)
def Keys.len{vs ks:_}(h:Keys knd vs ks):ks.length=vs.length:=by induction h<;>simp[*]
def Keys.mem{vs ks:_}(h:Keys knd vs ks){v:Value}{k:K}(a:v∈vs)(e:knd.is k v=Qc):k∈ks:=by induction h with|nil=>cases a|cons c _ b=>
  obtain z|z:=qI.mp a;.subst z;rw[knd.inj _ _ _ e c];simp
  .exact qG _<|b z
theorem b2Y:∀(es:List (Int×Value)),ElemsOf knd es->∃qs,Keys knd (es.map (·.2)) qs|[],_=>#[[],.nil]|e::es,h=>by let⟨qs,b⟩:=b2Y es λx a=>h x<|qG _ a;let⟨⟨k,c,_⟩,_⟩:=h e (by simp);exact#[k::qs,.cons c b]
def Keys.perm(j:us.Perm vs):∀{ks:_},Keys knd vs ks->∃qs,Keys knd us qs/\qs.Perm ks:=by induction j with
 |nil=>intro ks h;exact#[ks,h,.refl _]|cons v _ f=>intro ks h;cases h with|cons d c=>let⟨qs,a,b⟩:=f c;exact#[_::qs,.cons d a,.cons _ b]
 |swap x y l=>intro ks h;cases h with|cons d c=>cases c with|cons o k=>exact#[_,.cons o<|.cons d k,.swap ..]
 |trans _ _ i g=>intro ks h;let⟨t,s,q⟩:=g h;let⟨e,r,p⟩:=i s;exact#[e,r,p.trans q]
def Good.keys{h:Heap}{ks:List K}(g:Good knd h a ks led):∃es ep t,SetAt h a es ep t/\TOk t led/\es.size=ks.length/\∀vs,vs.Perm (es.toList.map (·.2))->∃qs,Keys knd vs qs/\qs.Perm ks:=by let⟨o,es,ep,t,j,f,v,y,p,c,s,w⟩:=g.ex;refine#[es,ep,t,#[#[o,j,f.1,v],s],w,c,λvs i=>?_];let⟨qs,b⟩:=b2Y es.toList y;have z:=b2F ks qs g.nd (λk q=>by let⟨e,u,r⟩:=(p k).mp q;exact b.mem (kA u) r) (by rw[b.len,qF,qa,c]);let⟨d,C,A⟩:=Keys.perm i.symm.symm b;exact#[d,C,A.trans z]
def keys_strs(h:Keys (zh prog w) vs ks):um vs ks:=by induction h with|nil=>exact .nil|cons b _ a=>let⟨t,rfl⟩:=Value.isStrOf_shape b;exact .cons _ t a
def sorted_set{Out:Array Value->Prop}(hh:A.handled=Qb)(g:SetAt s.heap a es ep t)(hT:TOk t (ledOf w))(few:es.size<64)(hsort:∀ A'(E':T0a) s' l(vs:T0m) n(P:Fin->Shared->Prop),vs.Perm (es.toList.map (·.2))->s'.heap.get? l=Qa (v8 "list" vs.toArray n)->(∀b o,s.heap.get? b=Qa o->b≠l/\s'.heap.get? b=Qa o)->(∀out,Out out->P (.done<|.ret .none) {s' with heap:=y6 s'.heap l vs out})->wpAny (model prog w) A' (Builtin.«list.sort» #[[.ref l],[]]) P E' s')(h:∀ h' d' tk(D:Addr) out e,(U9 s.heap h')->s.heap.objs.size<=D->h'.get? D=Qa (v8 "list" out e)->Out out->Q (.ref D) {s with heap:=h',drawn:=d',toks:=tk}):wpAny (model prog w) A (call (.builtin "sorted") [.ref a]) Q E s:=by
 have big:(64:Nat)<=j5:=by decide
 refine vL kind_sorted plain_sorted entry_sorted (args_sorted1 _) ?_;refine j0 (m:=checkCount "sorted" 1 1 _)<|j3 ?_;refine j0 (b0i hh g hT (qk (jg few) big) λh1 d1 tk vs hp kp hlt=>?_);have hl:vs.length=es.size:=by rw[hp.length_eq];simp
 refine j0<|ur ?_ (by rw[hl];exact qk (jg few) big);have hoL:(h1.push<|v8 "list" vs.toArray 0).get? h1.objs.size=Qa (v8 "list" vs.toArray 0):=qP _ rfl;refine j0<|v3<|wb slot_list_sort #[_,hoL,rfl] entry_list_sort (hsort _ _ _ _ vs 0 _ hp hoL (λb o q=>#[qd<|qQ<|kp _ _ q,qC _<|kp _ _ q]) λout ho=>#[_,rfl,?_]) (args_list_sort _);let⟨e,he⟩:=sortedHeap_at (out:=out) hoL;refine j3 #[_,rfl,h _ d1 tk h1.objs.size out e (λb o g=>?_) (jg hlt) he ho];have hb:=qQ<|kp b o g;rw[sortedHeap_old (qd hb) (by rw[jr];exact kI hb),qC _<|kp b o g]
end
end L2.SX
namespace L2.L3
open PySem PySem.Spec PyProof.Rows
def c8j(X:Cx)(H0 Gz G:Hp)(Z:List Ent)(H:Hp)(Q:Option Int->Hp->Prop):Re (Option Int)->Prop|.ok b=>∀G' H',Grow G H G' H'->Q b H'|.ex c=>nA X H0 Gz G Z c
noncomputable def rO(X:Cx)(f:OF):TO:=λU H Q=>∃Z r H0 Gz G,f Z=Qa r/\RepS X.K H0 Gz G H U Z/\c8j X H0 Gz G Z H Q r
structure DO(X:Cx)(e:Option Expr)(f:OF):Prop where run:PO X e (rO X f)
variable{a d:Expr}{fd:EF}{vs:List Value}
section
variable{fl:OF}
def bO{fa:OF}{d:Type}{k:Option Int->Mm d}{r:Re d}(R:RepS X.K H0 Gz G H U Z)(e:bnd (fa Z) k=Qa r){T:Option Int->Hp->Prop}(hx:∀c,r=.ex c->nA X H0 Gz G Z c)(h:∀x G1 H1,Grow G H G1 H1->RepS X.K H0 Gz G1 H1 U Z->k x=Qa r->T x H1):rO X fa U H T:=by
 obtain⟨x,b,a⟩|⟨c,b,a⟩:=cM e;.exact#[Z,_,H0,Gz,G,b,R,λG1 H1 f=>h x G1 H1 f (R.more f) a]
 .exact#[Z,_,H0,Gz,G,b,R,hx c a]
def dH:DO X Qb bX:=#[by rintro B s U H Q I⟨Z,r,a,b,G,e,R,q⟩;cases(qA e);exact b9N B s U H Q I<|q G H<|.refl R.sub]
def cQ(f:DE X a fa):DO X (Qa a) (bK fa):=#[by rintro B s U H Q I⟨Z,r,t,u,G,e,R,q⟩;refine b9M f.run B s U H Q I (bE R e (λc z=>by subst z;exact q) λx v o j g p d i=>?_);let⟨k,b,rfl⟩:=bS i;cases x<;>simp only[Option.map]at b<;>cases b;cases d;exact#[_,rfl,q o j g]]
def xF(t:DE X a fa)(c:DO X lo fl)(p:DO X hi fh):DE X (.Subscript a (.Slice lo hi Qb p2) pos) (slE fa fl fh):=#[λB s U H Q I⟨Z,r,J,K,G,e,R,q⟩=>a9i (b2u.or b5T) t.run c.run p.run B s U H Q I (bE R e q.x λx v N F g A j z=>bO A z (q.more g).x λl M E k R2 y=>bO R2 y ((q.more g).more k).x λh L D u C w=>by
  let⟨d,f,rfl⟩:=bS w;have b:=k.trans u;unfold slD at f;split at f;.cases(qA f);cases j with|list i r=>exact .inl #[_,_,rfl,(b.gg.trans b.sub).seq i,λl c=>q _ _ _ ((g.trans b).trans<|.put b.sub c)<|.list (.of aK)<|a1c (r.mono<|b.gg.trans<|cW<|b.sub.free c) _ _]
  .split at f;.cases f
   .rename_i o;cases(qA f);cases j with|tuple i r=>exact .inr #[_,_,rfl,uD (b.gg.trans b.sub) i,by rw[r.length];exact o,λl c=>q _ _ _ ((g.trans b).trans<|.put b.sub c)<|.tuple (.of aK)<|a1c (r.mono<|b.gg.trans<|cW<|b.sub.free c) _ _]
  .cases f)]
def Inv.draws(I:Inv X B U H s):Inv X B U H {s with drawn:=d'}:=#[I.ok,I.os,I.bare,I.base,I.loc,I.cell,I.free,I.freeC,I.pin,I.hok,I.len]
def b1L{a:Type}[DecidableEq a] d(ns:List a):SX.metK (λi=>ns.getD i d) ns.length=ns.foldl SX.addK []:=by
 unfold SX.metK;have:(qj ns.length).map (λi=>ns.getD i d)=ns:=by
  refine jW λi=>?_;rw[qS];by_cases h:i<ns.length;.rw[zC h,qN h];simp[h]
  .rw[jE (by simp;omega),jE<|by omega];rfl
 rw[this]
def a0p ns:SX.metK (λi=>ns.getD i "") ns.length=fD ns:=b1L ("":Str) ns
def b2o(h:um vs ns):∀ i v,vs[i]?=Qa v->∃t:Tok,v=vN (ns.getD i "") t:=by induction h with|nil=>intro i v e;simp at e|cons n t _ a=>intro i v e;cases i with|zero=>simp at e;exact#[t,by simp[<-e]]|succ i=>exact a i v (by simpa using e)
def a3D:∀{us:T0m},bJ (ns.map V.str) us->um us ns:=by induction ns with|nil=>intro us r;cases r;exact .nil|cons n ns b=>intro us r;cases r with|cons a r2=>let⟨t,rfl⟩:=a;exact .cons n t<|b r2
theorem a1x:∀{vs:T0m}{ns:T0q},um vs ns->bJ (ns.map V.str) vs|_,_,.nil=>.nil|_,_,.cons n t h=>.cons #[t,rfl] (a1x h)
theorem nV{K:qB}{G:Hp}:∀ns:List Str,RepAll K G (ns.map V.str) (ns.map .str)|[]=>.nil|_::r=>.cons (.str _)<|nV r
def a8M(h:um vs ns):vs.length=ns.length:=by induction h<;>simp[*]
def wY{a b c:Str}(e:bQ a b=Qc)(d:bQ b c=Qc):bQ a c=true:=by unfold bQ at*;simp only[jX,decide_eq_false_iff_not,List.not_lt]at*;exact List.le_trans e d
def pO a b:(bQ a b||bQ b a)=true:=by unfold bQ;simp only[Bool.or_eq_true,jX,decide_eq_false_iff_not,List.not_lt];exact List.le_total _ _
def a4r{a b:Str}(d:bQ a b=Qc)(c:bQ b a=Qc):a=b:=by unfold bQ at*;simp only[jX,decide_eq_false_iff_not,List.not_lt]at*;have e:=List.le_antisymm d c;cases a;cases b;congr 1;exact wT.mp e
def bP ns:(fG ns).Perm ns:=List.mergeSort_perm _ _
def dP ns:(fG ns).Pairwise (λa b=>bQ a b=Qc):=List.pairwise_mergeSort (le:=bQ) (λa b c e d=>wY e d) pO ns
theorem a6l:∀(l:T0q) p,risingS p l=Qc->(p::l).Pairwise (λa b=>bQ a b=Qc)
 |[],p,_=>List.pairwise_singleton _ _|x::r,p,h=>by
  have c:(!ltCps x.cps.toList p.cps.toList&&risingS x r)=true:=h;rw[qD]at c;have f:bQ p x=true:=by unfold bQ;rw[<-ltCps_eq];exact c.1
  have d:=a6l r x c.2;refine jh.mpr #[λy e=>?_,d];obtain z|z:=qI.mp e;.rwa[z]
  .exact wY f<|(jh.mp d).1 y z
def b3Q(l:T0q)(h:sortedS l=Qc):l.Pairwise (λa b=>bQ a b=Qc):=by cases l with|nil=>exact .nil|cons x r=>exact a6l r x h
theorem lU:∀{a b:T0q},a.Perm b->a.Pairwise (λa b=>bQ a b=Qc)->b.Pairwise (λa b=>bQ a b=Qc)->a=b|[],b,hp,_,_=>by rw[List.nil_perm.mp hp]|x::a,b,hp,ha,hb=>by match b,hp,hb with
  |[],hp,_=>exact absurd hp.length_eq (by simp)|y::b,hp,hb=>
   have d:=jh.mp ha;have c:=jh.mp hb;have e:x=y:=by
    rcases qI.mp (hp.mem_iff.mp<|qr (a:=x) (l:=a))with z|z;.exact z
    .rcases qI.mp (hp.mem_iff.mpr<|qr (a:=y) (l:=b))with q|q;.exact q.symm
     .exact a4r (d.1 y q) (c.1 x z)
   subst e;rw[lU (List.Perm.cons_inv hp) d.2 c.2]
def a8S{a:T0q}(c:a.Perm ns)(b:sortedS a=Qc):a=fG ns:=lU (c.trans (bP ns).symm) (b3Q a b)<|dP ns
def a8R{a:Addr}(F:A.handled=Qb)(g:SX.Good (zh prog w) s.heap a ks (SX.ledOf w))(K:ks.length<64)(h:∀ h' d' tk(D:Addr) b e,(U9 s.heap h')->s.heap.objs.size<=D->h'.get? D=Qa (v8 "list" b e)->um b.toList (fG ks)->Q (.ref D) {s with heap:=h',drawn:=d',toks:=tk}):wpAny (model prog w) A (call (.builtin "sorted") [.ref a]) Q E s:=by let⟨R,S,t,J,G,i,v⟩:=g.keys;refine SX.sorted_set (Out:=λb=>um b.toList<|fG ks) F J G (by rwa[i]) (λX T L l k n P f z _ q=>?_) h;let⟨M,C,y⟩:=v k f;have j:=SX.keys_strs C;refine list_sort_treeK strKind_oneLt z j.keysOf (λp o rest e=>keyKind_strs<|by rwa[<-e]) (by rwa[f.length_eq,qF,qa,i]) λr d c=>q _ ?_;let⟨u,N,I,H⟩:=sorted_out_str j d c;rwa[<-a8S (I.trans y) H]
end
def a8N(d:q8):Option q8:=match d with|.list Y=>(match lJ a7j Y with|some ns=>if ns.length<64 then Qa (.list<|(fG<|fD ns).map .str)else Qb|none=>Qb)|_=>Qb
def c2P(K:qB)(t:TA):TE:=λU H Q=>t U H λvs H1=>∃a ns,vs=[.ref a]/\SqL K H1 a (ns.map V.str)/\ns.length<64/\∀l,H1 l=Qb->Q (.ref l) (upd H1 l<|.lst<|(fG<|fD ns).map V.str)
def b6w{t:TA}(hc:X.calm=Qc)(h1:Gl X "sorted")(m1:X.mg "sorted"=Qb)(K:Gl X "set")(m2:X.mg "set"=Qb)(b2:wn "set"=Qa (.type "set"))(ha:PA X [e] t)(he:j4 [e] X.env=(Qd,eval e X.env)::j4 [] X.env)(j:j4 [.Call (.Name "set" p2) [e] [] pos2] X.env=(Qd,eval (.Call (.Name "set" p2) [e] [] pos2) X.env)::j4 [] X.env)(d:∀q,U6 X q [])(hn:∀q,j9 q (j4 [] X.env)=[]):PE X (.Call (.Name "sorted" p) [.Call (.Name "set" p2) [e] [] pos2] [] pos) (c2P X.K t):=by
 intro B s U H Q I h;refine v1<|a1T I h1 m1 boot_sorted ?_;refine callWith_builtin1 ?_ j<|d _;rw[j];show wpAny _ _ (spliced ((Qd,eval (.Call (.Name "set" p2) [e] [] pos2) X.env)::j9 pos (j4 [] X.env))) _ _ s;rw[hn];refine ky<|v1<|a1T I K m2 b2 ?_;refine callWith_type1 (thn (ha pos2 B s U H _ I h) ?_) he<|d _;rintro us M⟨vs,H1,y,R,a,w,e1,hq,r,q⟩;subst e1;let⟨u,rfl,N⟩:=vals1 R;cases N;let⟨E,P,T,hz⟩:=y.list hq;have J:=a3D P;have L:=y.ok.hd hc;have hl:=a8M J;have c:E.toArray.size=w.length:=by rw[qT,hl]
 refine SX.set_of (knd:=zh X.prog X.w) (val:=λi=>w.getD i "") L T.isList (λi v e=>?_) (λi v A' E' s' Q' e S=>?_) ?_ λh' tk g kp=>?_;.let⟨t,rfl⟩:=b2o J i v (by simpa using e);exact#[by simp[zh,Value.isStrOf],rfl]
 .let⟨t,rfl⟩:=b2o J i v (by simpa using e);exact(zh X.prog X.w).pyHash (k:=w.getD i "") (by simp[zh,Value.isStrOf]) S
 .rw[c];exact zt r (by decide)
 .rw[c,a0p]at g;refine zE (a8R L g ?_ λK d2 A D C ep k2 G ho f=>?_);.rw[<-a0p];exact zt (SX.metK_len _ _) r
  .have kk:∀b o,M.heap.get? b=Qa o->K.get? b=Qa o:=λb o z=>k2 b o<|kp b o (qQ z) z;let⟨so,_,_,_,F,_⟩:=g.ex;have lt:=qk (jg<|qQ F) G;have hf:=y.hok.fresh lt;refine#[.ref D,_,Inv.draws<|y.laid (t':=A) (a:=D) (o:=.lst<|(fG<|fD w).map V.str) kk lt #[?_,C.toList,ep,a1x f,?_],rfl,q _ hf];.rw[qF,(bP _).length_eq,<-a0p];exact qk (SX.metK_len _ _) (jg<|xQ<|by exact Q4 ‹_› rfl)
   .rw[ho]
def b8z(z:X.calm=Qc)(u:X.mg "sorted"=Qb)(t:X.mg "set"=Qb)(A:DE X e fa)(D:Gl X "sorted":=by rfl)(C:Gl X "set":=by rfl)(j:j4 [e] X.env=(Qd,eval e X.env)::j4 [] X.env:=by rfl)(c:j4 [.Call (.Name "set" p2) [e] [] pos2] X.env=(Qd,eval (.Call (.Name "set" p2) [e] [] pos2) X.env)::j4 [] X.env:=by rfl):DE X (.Call (.Name "sorted" p) [.Call (.Name "set" p2) [e] [] pos2] [] pos) (op1 a8N fa):=#[λB s U H Q I⟨Z,r,N,P,G,E,R,q⟩=>b6w z D u C t boot_set (dR A.run gE j) j c (λ_=>rfl) (λ_=>rfl) B s U H Q I (bE R E q.x λx v S M i L k K=>by
  let⟨d,b,rfl⟩:=bS K;unfold a8N at b;split at b
  .split at b
   .rename_i Y o J;split at b;.rename_i f;cases(qA b);have:=iO (g:=.str) (λd a q=>a0A q) J;subst this;cases k with|list w r=>have F:=r.strs;subst F;exact#[_,o,rfl,i.sub.seq w,f,λl y=>q _ _ _ (i.trans<|.put i.sub y)<|.list (.of aK)<|nV _]
    .cases b
   .cases b
  .cases b)]
variable{t:Bool}
def b7q{K:qB}{x:q8}(h:c0R T x=Qa t):zV K (.type<|tyD x) (.type T)=Qa t:=by
 unfold c0R at h;by_cases c:T="int";.rw[if_pos c]at h;subst c;cases x<;>first|(cases h;rfl)|cases h
 rw[if_neg c]at h;by_cases c:T="bool";.rw[if_pos c]at h;subst c;cases x<;>first|(cases h;rfl)|cases h
 rw[if_neg c]at h;by_cases c:T="str";.rw[if_pos c]at h;subst c;cases x<;>first|(cases h;rfl)|cases h
 rw[if_neg c]at h;by_cases c:T="tuple";.rw[if_pos c]at h;subst c;cases x<;>first|(cases h;rfl)|cases h
 rw[if_neg c]at h;cases h
def c6i:q8->Option (List q8)|.str z=>Qa ((lettersOf z).map .str)|_=>Qb
def c6h(fa:EF):AF:=λZ=>bnd (fa Z) λx=>lft<|c6i x
def c5L(O:T0l)(y:q8):Option q8:=match y with|.int k=>if bN O.length&&a9P k&&bN (O.length*k.toNat)then Qa (.list (qx k.toNat O).flatten)else Qb|_=>Qb
def c3j(fa:AF)(fb:EF):EF:=λZ=>bnd (fa Z) λO=>if bN O.length then bnd (fb Z) λy=>lft (c5L O y)else Qb
section
variable{x:Str}
def lZ(D:X.mg "isinstance"=Qb)(hx:X.mg x=Qb)(z:wn x=Qa (.type T))(J:DE X a fa)(C:x≠"__name__":=by decide)(i:U2 x:=by decide)(k:j4 [a,.Name x p2] X.env=(Qd,eval a X.env)::j4 [.Name x p2] X.env:=by rfl)(g:j4 [.Name x p2] X.env=(Qd,eval (.Name x p2) X.env)::j4 [] X.env:=by rfl)(c:(j9 pos<|j4 [.Name x p2] X.env).any (·.1)=false:=by rfl)(E:Gl X "isinstance":=by rfl)(f:Gl X x:=by rfl):DE X (.Call (.Name "isinstance" p) [a,.Name x p2] [] pos) (op1 (isD T) fa):=by
 have F:pC X (.builtin "isinstance") (λY H Q=>∃v d t,Y=[v,.ty T]/\Rep X.K H v d/\c0R T d=Qa t/\Q (.bl t) H):=by rintro B s U H Y N Q I r⟨v,d,t,j,b,A,q⟩;subst j;let⟨u,M,rfl,y,r2⟩:=vals2 r;cases r2;exact b7p I b y (b7q A) λw=>#[.bl t,H,I.tok w,rfl,q]
 exact#[by rintro B s U H Q I⟨Z,r,H0,Gz,G,e,R,q⟩;exact uX F E D boot_isinstance (dR J.run (dR (b2J (v:=.ty T) f hx z rfl C i) gE g) k) (by decide) (by decide) k c B s U H Q I<|bE R e q.x λx v G1 S o P b j=>by let⟨d,L,rfl⟩:=bS j;let⟨t,K,rfl⟩:=qK.mp L;exact#[v,x,t,rfl,b.mono o.sub,K,q _ _ _ o<|.bool t]]
theorem a9c{K:qB}{vs:List V}{O:T0l}(r:RepAll K G vs O):∀k:Nat,RepAll K G (qx k vs).flatten (qx k O).flatten|0=>.nil|k+1=>by rw[kK,kK,qe,qe];exact r.append<|a9c r k
def c4Q{f:AF}(E:DA X es f)(D:DE X b fb):DE X (.BinOp (.List es p) .Mult b pos) (c3j f fb):=#[λB s U H Q I⟨Z,r,P,S,G,e,R,q⟩=>b6x c3L (a0k E.run) D.run B s U H Q I (bA R e q.x λO w G1 N t L j v=>by
 split at v
 .rename_i C;refine#[by rw[j.length];exact fZ C,λl z=>?_];have a:=t.trans<|.put (o:=.lst w) t.sub z;exact bE (R.more a) v (q.more a).x λy u T M i R2 A F=>by
   let⟨d,c,rfl⟩:=bS F;unfold c5L at c;split at c
   .split at c;.rename_i k;simp only[qD]at k;have K:=a4D k.1.2;cases(qA c);cases A;refine#[l,_,w,rfl,rfl,i.hh.lst aK,by lia,by omega,by rw[j.length];exact fZ k.2,λJ g=>q _ _ _ ((a.trans i).trans<|.put i.sub g)<|.list (.of aK)<|a9c (j.mono<|((cW<|t.sub.free z).trans i.gg).trans<|cW<|i.sub.free g) _]
    .cases c
   .cases c
 .cases v)]
def c4f(i:X.calm=Qc)(h:DE X iter fa):DI X (.Name x px) iter (c6h fa):=#[by
 rintro B s U H R I⟨Z,r,f,g,G,e,S,q⟩;obtain⟨x,b,a⟩|⟨c,b,a⟩:=cM e;.let⟨O,d,rfl⟩:=bS a;cases x<;>simp only[c6i]at d<;>cases d;exact(b9P (h.pd b) i).run B s U H R I #[f,g,G,S,q]
 .subst a;exact a7x h.run B s U H R I #[Z,_,f,g,G,b,S,q]]
end
section
variable{x:Str}
noncomputable def a6H(x:q8)(O:T0l):Option Bool:=if qm x&&O.all qm then Qa (O.any λd=>ji d x)else Qb
def inX(x y:q8):Option Bool:=match x with|.tuple _=>(match a3J y with|some O=>a6H x O|none=>Qb)|.list _=>(match a3J y with|some O=>a6H x O|none=>Qb)|_=>inD x y
def a7C(x y:q8):Option Bool:=(inX x y).map (!·)
noncomputable def c5Q(K:qB)(neg:Bool)(dx:q8)(O:T0l):R2:=λx y H Q=>∃p Y,y=.ref p/\(SqL K H p Y\/SqT K H p Y)/\Rep K H x dx/\RepAll K H Y O/\qm dx=Qc/\O.all qm=Qc/\Q (.bl<|if neg then !(O.any λd=>ji d dx)else O.any λd=>ji d dx) H
open Classical in theorem a4C{B:T0b}{s:Shared}{A:Around}(I:Inv X B U H s)(hu:A.units+64<cLine){v:Value}{dx:q8}{bs:T0o}(rx:Reads s.heap v dx bs)(hx:qm dx=true):∀{Y:List V}{O:T0l}{us:T0m},RepAll X.K H Y O->bJ Y us->O.all qm=true->(∀u∈us,SeqAt.EqAt A s u v (decide (∃d as,Reads s.heap u d as/\qm d=true/\ji d dx=true)))/\us.any (λu=>decide (∃d as,Reads s.heap u d as/\qm d=true/\ji d dx=true))=O.any λd=>ji d dx
 |_,_,_,.nil,.nil,_=>⟨(λu hm=>by cases hm),rfl⟩|_,_,_,.cons (d:=d) r rr,.cons t tt,hs=>by
  rw[zi,qD]at hs;obtain⟨h1,h2⟩:=a4C I hu rx hx rr tt hs.2;obtain⟨as,ra⟩:=r.reads I t;have key0:∀u,Reads s.heap u d as->decide (∃d as,Reads s.heap u d as/\qm d=true/\ji d dx=true)=ji d dx:=by intro u ra;cases e:ji d dx with|true=>exact decide_eq_true ⟨d,as,ra,hs.1,e⟩|false=>refine decide_eq_false λ⟨d',as',r',s',e'⟩=>?_;rw[SeqAt.Reads.unique d d' _ _ _ (vh hs.1) ra r']at e;rw[e]at e';cases e'
  have key:=key0 _ ra;refine⟨λu hu'=>?_,by rw[kD,kD,key,h2]⟩;rcases qI.mp hu' with z|z;·subst z;rw[key];exact SeqAt.eqAt_reads d dx A s _ v as bs ra rx (vh hs.1) (vh hx) (SeqAt.room_of_shaped hs.1 hu)
  ·exact h1 u z
open Classical in theorem c3R(hu:X.A.in1.units+64<cLine)(dx:q8)(O:T0l):OpR X (v9 .In) (c5Q X.K false dx O):=by
 intro B s U H x y v u Q I rx ry h;obtain⟨p,Y,rfl,hq,r1,r2,h1,h2,q⟩:=h;cases ry;obtain⟨bs,rb⟩:=r1.reads I rx;rcases hq with hq|hq;·obtain⟨its,r,pl,hz⟩:=I.list hq;obtain⟨e1,e2⟩:=a4C (A:=X.A.in1) I hu rb h1 r2 r h2;refine SeqAt.in_listAt _ pl.isList (λw hw=>e1 w (by simpa using hw)) ⟨.bl _,H,I,rfl,?_⟩;rw[<-vK,e2];exact q
 ·obtain⟨its,r,pl,hz⟩:=I.tuple hq;obtain⟨e1,e2⟩:=a4C (A:=X.A.in1) I hu rb h1 r2 r h2;refine SeqAt.in_tupleAt _ pl (λw hw=>e1 w (by simpa using hw)) ⟨.bl _,H,I,rfl,?_⟩;rw[<-vK,e2];exact q
open Classical in theorem c0e(hu:X.A.in1.units+64<cLine)(dx:q8)(O:T0l):OpR X (v9 .NotIn) (c5Q X.K true dx O):=by
 intro B s U H x y v u Q I rx ry h;obtain⟨p,Y,rfl,hq,r1,r2,h1,h2,q⟩:=h;cases ry;obtain⟨bs,rb⟩:=r1.reads I rx;rcases hq with hq|hq;·obtain⟨its,r,pl,hz⟩:=I.list hq;obtain⟨e1,e2⟩:=a4C (A:=X.A.in1) I hu rb h1 r2 r h2;refine SeqAt.notIn_listAt _ pl.isList (λw hw=>e1 w (by simpa using hw)) ⟨.bl _,H,I,rfl,?_⟩;rw[<-vK,e2];exact q
 ·obtain⟨its,r,pl,hz⟩:=I.tuple hq;obtain⟨e1,e2⟩:=a4C (A:=X.A.in1) I hu rb h1 r2 r h2;refine SeqAt.notIn_tupleAt _ pl (λw hw=>e1 w (by simpa using hw)) ⟨.bl _,H,I,rfl,?_⟩;rw[<-vK,e2];exact q
def a0T{hu:X.A.in1.units+64<cLine}{x y:q8}(e:a3J y=Qa O)(h:a6H x O=Qa t):CmpD X .In x y t/\CmpD X .NotIn x y (!t):=by
 unfold a6H at h;split at h
 .rename_i a;rw[qD]at a;cases(qA h);refine#[#[_,c3R hu x O,λv u G H Q s c d q=>?_],#[_,c0e hu x O,λv u G H Q s c d q=>?_]];.let⟨p,b,rfl,f,r⟩:=sO s e d;exact#[p,b,rfl,f,c.mono s,r.mono s,a.1,a.2,q]
  .let⟨p,b,rfl,f,r⟩:=sO s e d;exact#[p,b,rfl,f,c.mono s,r.mono s,a.1,a.2,q]
 .cases h
def b1x(hu:X.A.in1.units+64<cLine) x y t(h:inX x y=Qa t):CmpD X .In x y t:=by
 unfold inX at h;split at h
 .split at h;.rename_i O e;exact(a0T (hu:=hu) e h).1
  .cases h
 .split at h;.rename_i O e;exact(a0T (hu:=hu) e h).1
  .cases h
 .exact c6t x y t h
def a7B(hu:X.A.in1.units+64<cLine) x y t(h:a7C x y=Qa t):CmpD X .NotIn x y t:=by
 let⟨b,a,rfl⟩:=qK.mp h;unfold inX at a;split at a
 .split at a;.rename_i O e;exact(a0T (hu:=hu) e a).2
  .cases a
 .split at a;.rename_i O e;exact(a0T (hu:=hu) e a).2
  .cases a
 .exact c3X x y _ (by unfold c3Z;rw[a];rfl)
end
theorem _root_.L2.Room.units1(r:Room k A):A.in1.units+64<cLine:=by have:=r.un;show A.units+1+64<cLine;lia
section
variable{x:Str}
end
end L2.L3
namespace L2.ZT
open PySem PyProof.Rows
section
variable{z TI TO c d t u:Addr}{Y ys:Array Value}{a b:Value}
end
end L2.ZT
namespace L2.L3
open PySem PySem.Spec PyProof.Rows
def Itt(K:qB)(l1 l2:Addr):It:=#[λi H=>∃Y ys x y,SqT K H l1 Y/\SqT K H l2 ys/\Y[i]?=Qa x/\ys[i]?=Qa y,λi H v H'=>∃T x y,H T=Qb/\v=.ref T/\H'=upd H T (.tup [x,y])/\(∀Y,SqT K H l1 Y->Y[i]?=Qa x)/\∀ys,SqT K H l2 ys->ys[i]?=Qa y,λi H=>∃Y ys,SqT K H l1 Y/\SqT K H l2 ys/\(Y.length<=i\/ys.length<=i)]
section
variable{a:Expr}{p:Pos}
end
def c5f{m:Mm α}{a:α}{k:α->Mm β}(h:m=Qa (.ok a)):bnd m k=k a:=by rw[h];rfl
def a5e{m:Mm α}{a:α}{k:α->Option So}(h:m=Qa (.ok a)):bns m Z k=k a:=by rw[h];rfl
theorem a6x{d:Type}{t:Tg}{ρb:List Ent}{ft:TF}{fe:EF} φ(ρx:d->List Ent) c v:∀(Y:List d),(∀x∈Y,tgD t ρb (φ x)=Qa (ρx x))->(∀x∈Y,ft (ρx x)=Qa (.ok<|c x))->(∀x∈Y,c x=Qc->fe (ρx x)=Qa (.ok<|v x))->a0O t ρb ft fe (Y.map φ)=Qa ((Y.filter c).map v)|[],_,_,_=>rfl|x::Y,h1,h2,h3=>by have e:=a6x φ ρx c v Y (λy a=>h1 y<|qG _ a) (λy a=>h2 y<|qG _ a) (λy a=>h3 y<|qG _ a);have i:=h1 x qr;have g:=h2 x qr;rw[qE,a0O,i];dsimp only;rw[g];cases b:c x with|true=>have f:=h3 x qr b;rw[f];rw[e,jG b];rfl|false=>rw[e,jT<|by rw[b];decide]
def sI{a:Type}{cap:T0e} φ(ρx:a->List Ent) c v(Y:List a)(hi:fi Z=Qa (.ok<|Y.map φ))(b:Y.length<=100000)(f:∀x∈Y,tgD t (cF cap Z) (φ x)=Qa (ρx x))(e:∀x∈Y,ft (ρx x)=Qa (.ok<|c x))(d:∀x∈Y,c x=Qc->fe (ρx x)=Qa (.ok<|v x)):fK t cap fi ft fe Z=Qa (.ok<|.list<|(Y.filter c).map v):=by unfold fK;rw[c5f hi,qF,if_pos (by exact decide_eq_true b),a6x φ ρx c v Y f e d];rfl
def filter_all{a:Type}{c:a->Bool}{Y:List a}(h:∀x∈Y,c x=Qc):Y.filter c=Y:=List.filter_eq_self.mpr h
def eY{a:Type}{cap:T0e} φ(ρx:a->List Ent) v(Y:List a)(hi:fi Z=Qa (.ok<|Y.map φ))(b:Y.length<=100000)(e:∀x∈Y,tgD t (cF cap Z) (φ x)=Qa (ρx x))(d:∀x∈Y,fe (ρx x)=Qa (.ok<|v x)):fK t cap fi ttT fe Z=Qa (.ok<|.list<|Y.map v):=by rw[sI φ ρx (λ_=>Qc) v Y hi b e (λ_ _=>rfl) (λx c _=>d x c),filter_all<|λ_ _=>rfl]
variable{g:SF}
section
variable{α β:Type}{fd:EF}{e:q8}{i j k:Int}
@[simp]theorem bG a(k:α->Mm β):bnd (Qa<|.ok a) k=k a:=rfl
@[simp]theorem c8F c(k:α->Mm β):bnd (Qa<|.ex c) k=Qa (.ex c):=rfl
@[simp]theorem oY a(k:α->Option So):bns (Qa<|.ok a) Z k=k a:=rfl
@[simp]theorem c8E c(k:α->Option So):bns (Qa<|.ex c) Z k=Qa (.xc c Z):=rfl
@[simp]theorem a4q(a:α):lft (Qa a)=Qa (.ok a):=rfl
@[simp]theorem b3s:cst d Z=Qa (.ok d):=rfl
@[simp]theorem a8D d r:var 0 (.val d::r)=Qa (.ok d):=rfl
@[simp]theorem b2i n x r:var (n+1) (x::r)=var n r:=rfl
@[simp]theorem uZ g:op2 g fa fb Z=bnd (fa Z) λx=>bnd (fb Z) λy=>lft<|g x y:=rfl
@[simp]theorem b6K g:op1 g fa Z=bnd (fa Z) λx=>lft<|g x:=rfl
@[simp]theorem a2v:aG Z=Qa (.ok []):=rfl
@[simp]theorem bW:aB fa aa Z=bnd (fa Z) λx=>bnd (aa Z) λY=>Qa<|.ok (x::Y):=rfl
@[simp]theorem oE:iR aa Z=bnd (aa Z) λY=>lft<|a2G Y:=rfl
@[simp]theorem c7N:nJ aa Z=bnd (aa Z) λY=>lft<|a6u Y:=rfl
@[simp]theorem c7r n:bN n=decide (n<=100000):=rfl
@[simp]theorem c0E O:a2G O=if O.length<=100000 then Qa (.tuple O)else none:=by unfold a2G bN;by_cases h:O.length<=100000<;>simp
@[simp]theorem c6S O:a6u O=if O.length<=100000 then Qa (.list O)else none:=by unfold a6u bN;by_cases h:O.length<=100000<;>simp
@[simp]theorem b1P g:c1F g fa fb Z=bnd (fa Z) λx=>bnd (fb Z) λy=>lft<|(g x y).map .bool:=rfl
@[simp]theorem c5d g:eG g fa fb Z=bnd (fa Z) λx=>bnd (fb Z) λy=>lft<|g x y:=rfl
def c0Q t u:(if t=Qc then(Qa (Re.ok u):Mm Bool)else Qa (.ok Qd))=Qa (.ok<|t&&u):=by cases t<;>rfl
@[simp]theorem c8e g g':c1I g g' fa fb fc Z=bnd (fa Z) λx=>bnd (fb Z) λy=>bnd (lft<|g x y) λt=>if t then bnd (fc Z) λz=>lft ((g' y z).map .bool)else Qa (.ok<|.bool Qd):=rfl
@[simp]theorem c8d g g':c5e g g' fa fb fc Z=bnd (fa Z) λx=>bnd (fb Z) λy=>bnd (lft<|g x y) λt=>if t then bnd (fc Z) λz=>lft (g' y z)else Qa (.ok Qd):=rfl
@[simp]theorem b0A:gI fa Z=bnd (fa Z) λx=>lft<|a8G x:=rfl
@[simp]theorem b5G b:a8G (.bool b)=Qa b:=rfl
@[simp]theorem c6Z(O:T0l):a8G (.list O)=Qa (!O.isEmpty):=rfl
@[simp]theorem c6X(O:T0l):a8G (.tuple O)=Qa (!O.isEmpty):=rfl
@[simp]theorem c7a i:a8G (.int i)=Qa (i !=0):=rfl
@[simp]theorem c6Y:a8G .none=Qa false:=rfl
@[simp]theorem b6N:gS ft Z=bnd (ft Z) λt=>Qa<|.ok<|!t:=rfl
@[simp]theorem c7F:c3V fa Z=bnd (fa Z) λx=>lft ((xI x).map λt=>.bool<|!t):=rfl
@[simp]theorem c6V b:xI (.bool b)=Qa b:=rfl
@[simp]theorem c7X i:intD (.int i)=Qa i:=rfl
@[simp]theorem c7t i:a7j (.str i)=Qa i:=rfl
@[simp]theorem b2c:b2d ft fu Z=bnd (ft Z) λt=>if t then fu Z else Qa (.ok Qd):=rfl
@[simp]theorem a9p:orT ft fu Z=bnd (ft Z) λt=>if t then Qa (.ok Qc)else fu Z:=rfl
@[simp]theorem c5l:b2e fa fb Z=bnd (fa Z) λx=>bnd (lft<|xI x) λt=>if t then fb Z else Qa (.ok<|.bool Qd):=rfl
@[simp]theorem c8o:orE fa fb Z=bnd (fa Z) λx=>bnd (lft<|xI x) λt=>if t then Qa (.ok<|.bool Qc)else fb Z:=rfl
@[simp]theorem c8B:ifE ft fa fb Z=bnd (ft Z) λt=>if t then fa Z else fb Z:=rfl
@[simp]theorem a2r g:eS g aa Z=bnd (aa Z) λY=>lft<|g Y:=rfl
@[simp]theorem a8s(F:List q8->Mm q8):aS F aa Z=bnd (aa Z) λO=>(match F O with|some (.ok d)=>Qa (.ok d)|_=>Qb):=rfl
@[simp]theorem b9c:aY (.int i) (.int j)=Qa (.int<|i+j):=rfl
@[simp]theorem c7s:b3M (.int i) (.int j)=Qa (.int<|i-j):=rfl
@[simp]theorem c8p:b4q (.int i)=Qa (.int<|-i):=rfl
@[simp]theorem c5m(a b:T0l):aY (.tuple a) (.tuple b)=if a.length+b.length<=100000 then Qa (.tuple<|a++b)else none:=by show(if bN (a.length+b.length)=Qc then _ else _)=_;by_cases h:a.length+b.length<=100000<;>simp
@[simp]theorem b9b(a b:T0l):aY (.list a) (.list b)=if a.length+b.length<=100000 then Qa (.list<|a++b)else none:=by show(if bN (a.length+b.length)=Qc then _ else _)=_;by_cases h:a.length+b.length<=100000<;>simp
@[simp]theorem c8s:ltD (.int i) (.int j)=Qa (decide (i<j)):=rfl
@[simp]theorem c8w:leD (.int i) (.int j)=Qa (decide (i<=j)):=rfl
@[simp]theorem c6w:gtD (.int i) (.int j)=Qa (decide (j<i)):=rfl
@[simp]theorem c6z:geD (.int i) (.int j)=Qa (decide (j<=i)):=rfl
@[simp]theorem c8C:eqD (.int i) (.int j)=Qa (decide (i=j)):=rfl
@[simp]theorem c8q:neD (.int i) (.int j)=Qa (!decide (i=j)):=rfl
@[simp]theorem b7U a b:eqD (.str a) (.str b)=Qa (decide (a=b)):=rfl
@[simp]theorem a9x a b:neD (.str a) (.str b)=Qa (!decide (a=b)):=rfl
@[simp]theorem c8D a b:eqD (.bool a) (.bool b)=Qa (decide (a=b)):=rfl
@[simp]theorem c8r a b:neD (.bool a) (.bool b)=Qa (!decide (a=b)):=rfl
@[simp]theorem a7J:pG (.int i) (.int j)=if 0<j then Qa (.int<|i%j)else none:=rfl
@[simp]theorem c4E:a2a (.int i) (.int j)=if 0<j/\j<1073741824 then Qa (.int<|i/j)else none:=rfl
def a3k(b:-(2^64)<j)(a:j<2^64):pF (.int i) (.int j)=Qa (.int<|i*j):=by show(if(fQ i||fQ j)=Qc then _ else _)=_;rw[if_pos];simp[fQ];right;lia
def a7H(b:-(2^64)<i)(a:i<2^64):pF (.int i) (.int j)=Qa (.int<|i*j):=by show(if(fQ i||fQ j)=Qc then _ else _)=_;rw[if_pos];simp[fQ];left;lia
@[simp]theorem c2o(Y:T0l):mS [.list Y]=Qa (.int Y.length):=rfl
@[simp]theorem c8v(Y:T0l):mS [.tuple Y]=Qa (.int Y.length):=rfl
@[simp]theorem c7L:c7M [.int i,.int j]=Qa (.int<|max i j):=rfl
@[simp]theorem c7J:c7K [.int i,.int j]=Qa (.int<|min i j):=rfl
@[simp]theorem a5R(Y:T0l):uK [.list Y]=Qa (.tuple Y):=rfl
@[simp]theorem c8n(Y:T0l):uK [.tuple Y]=Qa (.tuple Y):=rfl
@[simp]theorem c8u(Y:T0l):c6j [.list Y]=Qa (.list Y):=rfl
@[simp]theorem c8t(Y:T0l):c6j [.tuple Y]=Qa (.list Y):=rfl
@[simp]theorem c8A b:c7Y [.bool b]=Qa (.int<|if b then 1 else 0):=rfl
@[simp]theorem c3b:nD fa Z=bnd (fa Z) λx=>lft<|a3J x:=rfl
@[simp]theorem c7x(O:T0l):a3J (.list O)=Qa O:=rfl
@[simp]theorem c7w(O:T0l):a3J (.tuple O)=Qa O:=rfl
@[simp]theorem c8x(O:T0l):ixD (.tuple O) (.int i)=atI O i:=rfl
@[simp]theorem c6q(O:T0l):ixD (.list O) (.int i)=atI O i:=rfl
def b2b{Y:List α}(n:Nat):atI Y (n:Int)=Y[n]?:=by
 unfold atI ixN;rw[if_pos<|by lia];by_cases h:n<Y.length;.rw[if_pos<|by omega];simp
 .rw[if_neg<|by lia];rw[jE<|by lia];rfl
@[simp]theorem c8L a(r:List α):atI (a::r) 0=Qa a:=by unfold atI ixN;rw[if_pos (by decide),if_pos<|by simp<;>omega];rfl
@[simp]theorem c8K a b(r:List α):atI (a::b::r) 1=Qa b:=by unfold atI ixN;rw[if_pos (by decide),if_pos<|by simp<;>lia];rfl
@[simp]theorem c8J a b c(r:List α):atI (a::b::c::r) 2=Qa c:=by unfold atI ixN;rw[if_pos (by decide),if_pos<|by simp<;>lia];rfl
@[simp]theorem c8I a b c d(r:List α):atI (a::b::c::d::r) 3=Qa d:=by unfold atI ixN;rw[if_pos (by decide),if_pos<|by simp<;>lia];rfl
@[simp]theorem c7G:eM Z=Qa (.nx Z):=rfl
@[simp]theorem cE:retS fa Z=bns (fa Z) Z λd=>Qa<|.rt d:=rfl
@[simp]theorem c6T:a4P fa Z=bns (fa Z) Z λ_=>Qa<|.nx Z:=rfl
@[simp]theorem dW i:dA i fa Z=bns (fa Z) Z λd=>Qa<|.nx<|Z.set i<|.val d:=rfl
@[simp]theorem c6W t:a7e t fa Z=bns (fa Z) Z λd=>(tgD t Z d).map So.nx:=rfl
@[simp]theorem dY f g:ifS ft f g Z=bns (ft Z) Z λt=>if t then f Z else g Z:=rfl
@[simp]theorem a4H t fb:a9S t aa fb Z=bns (aa Z) Z λO=>lM t fb O Z:=rfl
@[simp]theorem c7H i:b4p i aa Z=bns (aa Z) Z λO=>if O.length<=100000 then Qa (.nx<|Z.set i<|.lst O)else none:=by unfold b4p bN;cases aa Z with|none=>rfl|some r=>cases r with|ok O=>by_cases h:O.length<=100000<;>simp[h]|ex c=>rfl
def aI(h:f Z=Qa (.nx ρ')):bI f g Z=g ρ':=by unfold bI;rw[h]
def iJ(h:f Z=Qa (.rt d)):bI f g Z=Qa (.rt d):=by unfold bI;rw[h]
@[simp]theorem c5z i:tgD (.nm i) Z d=Qa (Z.set i<|.val d):=rfl
@[simp]theorem c7d i j a b:tgD (.tp [i,j]) Z (.tuple [a,b])=Qa ((Z.set i<|.val a).set j<|.val b):=rfl
@[simp]theorem c7c i j k a b c:tgD (.tp [i,j,k]) Z (.tuple [a,b,c])=Qa (((Z.set i<|.val a).set j<|.val b).set k<|.val c):=rfl
@[simp]theorem c7b i j k l a b c d:tgD (.tp [i,j,k,l]) Z (.tuple [a,b,c,d])=Qa ((((Z.set i<|.val a).set j<|.val b).set k<|.val c).set l<|.val d):=rfl
end
theorem xY{α:Type}{t:Tg}{fb:SF} φ(P:Nat->List Ent->Prop):∀(Y:List α) i Z,P i Z->(∀ j x Z,Y[j]?=Qa x->P (i+j) Z->∃ρ1 ρ2,tgD t Z (φ x)=Qa ρ1/\(fb ρ1=Qa (.nx ρ2)\/fb ρ1=Qa (.ct ρ2))/\P (i+j+1) ρ2)->∃ρ',lM t fb (Y.map φ) Z=Qa (.nx ρ')/\P (i+Y.length) ρ'
 |[],i,Z,h,_=>#[Z,rfl,by simpa using h]|x::Y,i,Z,h,turn=>by let⟨ρ1,ρ2,e1,e2,h2⟩:=turn 0 x Z rfl (by simpa using h);let⟨ρ',e3,h3⟩:=xY φ P Y (i+1) ρ2 (by simpa using h2) (λj y Z hy hp=>by
   have e:i+1+j=i+(j+1):=by lia
   rw[e]at hp⊢;exact turn (j+1) y Z (by simpa using hy) hp);refine#[ρ',?_,by rwa[qO,show i+(Y.length+1)=i+1+Y.length by lia]];rw[qE,lM,e1];dsimp only;obtain e2|e2:=e2<;>(rwa[e2])
def b4E{b:Type}{fb:SF} φ(P:List Ent->Prop)(Y:List b) Z(h:P Z)(a:∀x∈Y,∀Z,P Z->∃ρ1 ρ2,tgD t Z (φ x)=Qa ρ1/\(fb ρ1=Qa (.nx ρ2)\/fb ρ1=Qa (.ct ρ2))/\P ρ2):∃ρ',lM t fb (Y.map φ) Z=Qa (.nx ρ')/\P ρ':=xY φ (λ_=>P) Y 0 Z h λj x Z c d=>a x (zd c) Z d
def c1W(h:Z[i]?=Qa (.lst O))(b:fa Z=Qa (.ok d))(a:O.length<=100000):a1k i fa Z=Qa (.nx<|Z.set i<|.lst<|O++[d]):=by unfold a1k;rw[h];dsimp only;rw[a5e b,if_pos<|by exact decide_eq_true a]
def b2z{n:Int}(h:fa Z=Qa (.ok<|.int n))(b:-1000000000<=n)(a:n<=1000000000):a3Y fa Z=Qa (.ok<|a0i 0 n.toNat):=by unfold a3Y;rw[h];dsimp only;rw[if_pos];simp[a9P];lia
variable{p:Int}
def b8W{Y:List α}(c:0<=p)(b:p<Y.length) a:atI Y p=Qa (Y.getD p.toNat a):=by
 have e:((p.toNat:Nat):Int)=p:=by lia
 have lt:p.toNat<Y.length:=by lia
 have q:=b2b (Y:=Y) p.toNat;rw[e]at q;rw[q];simp[qN lt]
def b7I{a b:Type}(f:a->b)(Y:List a) i d:(Y.map f).getD i (f d)=f (Y.getD i d):=by simp only[vG,qS];cases Y[i]?<;>rfl
def a1j{b c:Type}(f:b->c){Y:List b}(d:0<=p)(e:p<Y.length) a:atI (Y.map f) p=Qa (f<|Y.getD p.toNat a):=by rw[b8W d (by rwa[qF])<|f a,b7I]
noncomputable def cellOf(ns:T0s)(k:Int):Int:=if k<ns.length then ns.getD k.toNat 0 else if ns=[]then 0 else ns.getD (k%(ns.length:Int)).toNat 0*31+k
def drawnOf(ns:T0s)(k:Int):Int:=(cellOf ns k+6151*(k+1))*40692%2147483399
def pickOf(ns:T0s)(k many:Int):Int:=(drawnOf ns k*drawnOf ns k+drawnOf ns k/31)%2147483629%many
variable{many:Int}
def iM ns k(h:0<many):0<=pickOf ns k many:=km _ (by lia)
def lA ns k(h:0<many):pickOf ns k many<many:=zJ _ h
noncomputable def cI:List Str:=["a","b","cc","d","e","fx","g","h","i","jjjj"]
def spanOf(ns:T0s)(at':Int):Int:=([12,30,30,200]:T0s).getD (pickOf ns at' 4).toNat 0
def a7l ns at':spanOf ns at'=12\/spanOf ns at'=30\/spanOf ns at'=200:=by
 have b:=iM ns at' (many:=4) (by decide);have a:=lA ns at' (many:=4) (by decide);unfold spanOf;generalize pickOf ns at' 4=p at b a;have:p=0\/p=1\/p=2\/p=3:=by lia
 obtain rfl|rfl|rfl|rfl:=this<;>simp
def pI(ns:T0s)(at':Int)(k:Nat):Int:=([3,8,spanOf ns at']:T0s).getD (pickOf ns (at'+12+3*(k:Int)) 3).toNat 0
def a3G ns at' k:0<pI ns at' k/\pI ns at' k<=200:=by
 have b:=iM ns (at'+12+3*(k:Int)) (many:=3) (by decide);have a:=lA ns (at'+12+3*(k:Int)) (many:=3) (by decide);have c:=a7l ns at';unfold pI;generalize pickOf ns (at'+12+3*(k:Int)) 3=p at b a;have:p=0\/p=1\/p=2:=by lia
 obtain rfl|rfl|rfl:=this<;>simp<;>lia
def mK(ns:T0s)(at':Int)(k:Nat):Int:=pickOf ns (at'+10+3*(k:Int))<|spanOf ns at'
def pJ(ns:T0s)(at':Int)(k:Nat):Int:=1+pickOf ns (at'+11+3*(k:Int)) (pI ns at' k)
def a2Y(ns:T0s)(at':Int)(k:Nat):Mt:=(cI.getD k "",mK ns at' k,mK ns at' k+pJ ns at' k)
def oR(ns:T0s)(at' most:Int):Nat:=(pickOf ns (at'+1)<|most+1).toNat
def pK(ns:T0s)(at' most:Int):List Mt:=(qj<|oR ns at' most).map<|a2Y ns at'
variable{most:Int}
def b2V{ns:T0s}{at':Int}(h:0<=most):((oR ns at' most:Nat):Int)<=most:=by have b:=iM ns (at'+1) (many:=most+1) (by lia);have a:=lA ns (at'+1) (many:=most+1) (by lia);unfold oR;lia
def a6f ns at' most:(pK ns at' most).length=oR ns at' most:=by simp[pK]
def b8T ns at' k:0<=mK ns at' k/\mK ns at' k<200:=by have a:=a7l ns at';have c:=iM ns (at'+10+3*(k:Int)) (many:=spanOf ns at') (by lia);have b:=lA ns (at'+10+3*(k:Int)) (many:=spanOf ns at') (by lia);unfold mK;lia
def b9t ns at' k:1<=pJ ns at' k/\pJ ns at' k<=200:=by have a:=a3G ns at' k;have c:=iM ns (at'+11+3*(k:Int)) (many:=pI ns at' k) a.1;have b:=lA ns (at'+11+3*(k:Int)) (many:=pI ns at' k) a.1;unfold pJ;lia
def a5v:cI.Nodup:=by decide+kernel
def b1g:∀x∈cI,jN x=true:=by decide+kernel
structure SheetOk(s:List Mt):Prop where
 few:s.length<=10
 names:s.map (·.1)=cI.take s.length
 times:∀m∈s,0<=m.2.1/\m.2.1<m.2.2/\m.2.2<400
def b5U ns at'(d:0<=most)(o:most<=10):SheetOk (pK ns at' most):=by
 have f:=b2V (ns:=ns) (at':=at') d;refine#[by rw[a6f];omega,?_,λm a=>?_]
 .rw[a6f];have g:oR ns at' most<=cI.length:=by show _<=10;omega
  unfold pK;rw[qZ];apply jW;intro i;rw[qS];by_cases c:i<oR ns at' most
  .rw[zC c,kW c];have b:i<cI.length:=by lia
   simp[a2Y,qN b]
  .rw[jE (by simpa using c),jE<|by simp;lia];rfl
 .let⟨k,_,rfl⟩:=qR.mp a;have j:=b8T ns at' k;have e:=b9t ns at' k;simp only[a2Y];lia
variable{s:List Mt}
def SheetOk.name_ok(S:SheetOk s):∀m∈s,jN m.1=true:=λm a=>by have:m.1∈s.map (·.1):=qR.mpr #[m,a,rfl];rw[S.names]at this;exact b1g _<|vd this
def SheetOk.nodup(S:SheetOk s):(s.map (·.1)).Nodup:=by rw[S.names];exact a5v.sublist<|ku _ _
noncomputable abbrev dN(ns:T0s):q8:=.list<|ns.map .int
def b2w{n:Nat}(c:∀d∈O,ka d=Qc)(b:∀d∈O,zA d<=n)(a:n<64):qm (.list O)=true:=by
 refine a6g (n:=n+1) ?_ ?_ a;.rw[ka];exact a1f c
 .rw[zA];have:=a2T b;lia
def b5V{n:Nat}(c:∀d∈O,ka d=Qc)(b:∀d∈O,zA d<=n)(a:n<64):qm (.tuple O)=true:=by
 refine a6g (n:=n+1) ?_ ?_ a;.rw[ka];exact a1f c
 .rw[zA];have:=a2T b;lia
def b9u(ns:T0s):qm (.list<|ns.map .int)=true:=b2w (n:=1) (λd a=>by let⟨i,_,rfl⟩:=qR.mp a;simp[ka]) (λd a=>by let⟨i,_,rfl⟩:=qR.mp a;simp[zA]) (by decide)
def a9V{a b:T0l}(d:qm (.list a)=Qc)(c:qm (.list b)=Qc):eqD (.list a) (.list b)=Qa (kU a b):=by show(if(qm (.list a)&&qm (.list b))=Qc then Qa (ji (.list a)<|.list b)else Qb)=_;rw[d,c,if_pos (by rfl),b7S]
def b5W:qm (.list [])=true:=by decide+kernel
def c1c(O:T0l):kU O []=O.isEmpty:=by cases O<;>simp[kU]
def b7V(h:qm (.list O)=Qc):eqD (.list O) (.list [])=Qa O.isEmpty:=by rw[a9V h b5W,c1c]
abbrev b3L:TF:=eG ltD (var 1)<|eS mS<|aB (var 0) aG
abbrev b3K:TF:=eG eqD (var 0)<|nJ aG
def a4N:SF:=(bI (ifS b3L (retS<|op2 ixD (var 0)<|var 1) eM)<|bI (ifS b3K (retS<|cst<|.int 0) eM)<|retS<|op2 aY (op2 pF (op2 ixD (var 0)<|op2 pG (var 1)<|eS mS<|aB (var 0) aG)<|cst<|.int 31)<|var 1)
def xK:List q8->Mm q8:=lV 2 2 a4N
def a4M:SF:=(bI (dA 3<|op2 pG (op2 pF (op2 aY (aS xK<|aB (var 0)<|aB (var 1) aG)<|op2 pF (cst<|.int 6151)<|op2 aY (var 1)<|cst<|.int 1)<|cst<|.int 40692)<|cst<|.int 2147483399)<|retS<|op2 pG (op2 pG (op2 aY (op2 pF (var 3)<|var 3)<|op2 a2a (var 3)<|cst<|.int 31)<|cst<|.int 2147483629)<|var 2)
def bR:List q8->Mm q8:=lV 4 3 a4M
abbrev b2a:SF:=bI (dA 7<|aS bR<|aB (var 0)<|aB (op2 aY (op2 aY (var 1)<|cst<|.int 10)<|op2 pF (cst<|.int 3)<|var 6)<|aB (var 3) aG)<|bI (dA 8<|op2 aY (cst<|.int 1)<|aS bR<|aB (var 0)<|aB (op2 aY (op2 aY (var 1)<|cst<|.int 11)<|op2 pF (cst<|.int 3)<|var 6)<|aB (op2 ixD (nJ<|aB (cst<|.int 3)<|aB (cst<|.int 8)<|aB (var 3) aG)<|aS bR<|aB (var 0)<|aB (op2 aY (op2 aY (var 1)<|cst<|.int 12)<|op2 pF (cst<|.int 3)<|var 6)<|aB (cst<|.int 3) aG) aG)<|a1k 5<|iR<|aB (op2 ixD (var 4)<|var 6)<|aB (var 7)<|aB (op2 aY (var 7)<|var 8) aG
def a2e:SF:=(bI (dA 3<|op2 ixD (nJ<|aB (cst<|.int 12)<|aB (cst<|.int 30)<|aB (cst<|.int 30)<|aB (cst<|.int 200) aG)<|aS bR<|aB (var 0)<|aB (var 1)<|aB (cst<|.int 4) aG)<|bI (dA 4<|nJ<|aB (cst<|.str "a")<|aB (cst<|.str "b")<|aB (cst<|.str "cc")<|aB (cst<|.str "d")<|aB (cst<|.str "e")<|aB (cst<|.str "fx")<|aB (cst<|.str "g")<|aB (cst<|.str "h")<|aB (cst<|.str "i")<|aB (cst<|.str "jjjj") aG)<|bI (b4p 5 aG)<|bI (a9S (.nm 6) (a3Y<|aS bR<|aB (var 0)<|aB (op2 aY (var 1)<|cst<|.int 1)<|aB (op2 aY (var 2)<|cst<|.int 1) aG) b2a)<|b4M 5<|retS<|eS uK<|aB (var 5) aG)
def a2y:List q8->Mm q8:=lV 9 3 a2e
def cN{m n:Nat}(a:O.length=n)(h:f (pY m O)=Qa (.rt d)):lV m n f O=Qa (.ok d):=by unfold lV;rw[if_pos a,h]
def a7R{ns:T0s}(b:0<=p)(a:p<ns.length):ixD (.list<|ns.map .int) (.int p)=Qa (.int<|ns.getD p.toNat 0):=by show atI (ns.map jb) p=_;rw[a1j jb b a 0]
def b8i ns k(p:0<=k):xK [dN ns,.int k]=Qa (.ok<|.int<|cellOf ns k):=by
 refine cN rfl ?_;show a4N [.val<|dN ns,.val<|.int k]=_;unfold a4N cellOf;by_cases c:k<ns.length;.rw[iJ (d:=.int<|ns.getD k.toNat 0),if_pos c];simp[c];rw[a1j jb p c 0];rfl
 .rw[aI (ρ':=[.val<|dN ns,.val<|.int k]) (by simp[c]),if_neg c];by_cases e:ns=[];.subst e;rw[iJ (d:=.int 0),if_pos rfl];have h:eqD (dN []) (.list [])=Qa true:=b7V b5W;rfl
  .have o:(ns.map jb).isEmpty=false:=by cases ns with|nil=>exact absurd rfl e|cons a r=>rfl
   have h:eqD (dN ns) (.list [])=Qa false:=by rw[b7V<|b9u ns,o]
   rw[aI (ρ':=[.val<|dN ns,.val<|.int k]) (by simp[h]),if_neg e];have f:(0:Int)<(ns.length:Nat):=by cases ns with|nil=>exact absurd rfl e|cons a r=>simp<;>omega
   have s:=km k (b:=(ns.length:Int)) (by lia);have q:=zJ k f;have i:0<ns.length:=by lia
   have j:=a7R s q;have g:pF (.int<|ns.getD (k%(ns.length:Int)).toNat 0) (.int 31)=Qa (.int<|ns.getD (k%(ns.length:Int)).toNat 0*31):=a3k (by decide) (by decide);simp only[cE,uZ,b2i,a8D,bG,a2r,bW,a2v,c2o,a4q,a7J,qF,if_pos f,j,b3s,g,b9c,oY]
def b8r ns k:0<=drawnOf ns k/\drawnOf ns k<2147483399:=#[km _ (by decide),zJ _<|by decide]
def lG ns k many(e:0<=k)(b:0<many):bR [dN ns,.int k,.int many]=Qa (.ok<|.int<|pickOf ns k many):=by
 refine cN rfl ?_;show a4M [.val<|dN ns,.val<|.int k,.val<|.int many,.no]=_;have f:=b8r ns k;unfold a4M;rw[aI (ρ':=[.val<|dN ns,.val<|.int k,.val<|.int many,.val<|.int<|drawnOf ns k])];.have a:pF (.int<|drawnOf ns k) (.int<|drawnOf ns k)=Qa (.int<|drawnOf ns k*drawnOf ns k):=a3k (by lia) (by lia);simp[a,b,pickOf]
 .have d:pF (.int 6151) (.int<|k+1)=Qa (.int<|6151*(k+1)):=a7H (by decide) (by decide);have c:pF (.int<|cellOf ns k+6151*(k+1)) (.int 40692)=Qa (.int<|(cellOf ns k+6151*(k+1))*40692):=a3k (by decide) (by decide);simp[b8i ns k e,d,c,drawnOf]
def b0T n:a0i 0 n=(qj n).map λ(k:Nat)=>jb (k:Int):=by simp[a0i]
def c1g ns at' most(E:0<=at')(A:0<=most)(w:most<=10):a2y [dN ns,.int at',.int most]=Qa (.ok<|dS<|pK ns at' most):=by
 refine cN rfl ?_;show a2e [.val<|dN ns,.val<|.int at',.val<|.int most,.no,.no,.no,.no,.no,.no]=_;have sp:=a7l ns at';have K:=b2V (ns:=ns) (at':=at') A;have J:=iM ns (at'+1) (many:=most+1) (by omega);have I:=lA ns (at'+1) (many:=most+1) (by omega);unfold a2e;rw[aI (ρ':=[.val<|dN ns,.val<|.int at',.val<|.int most,.val<|.int<|spanOf ns at',.no,.no,.no,.no,.no])];rotate_left;.have h:=a7R (ns:=[12,30,30,200]) (iM ns at' (many:=4)<|by decide)<|lA ns at' (by decide);have g:atI [jb 12,.int 30,.int 30,.int 200] (pickOf ns at' 4)=Qa (.int<|spanOf ns at'):=h;simp[lG ns at' 4 E (by decide),g]
 rw[aI (ρ':=[.val<|dN ns,.val<|.int at',.val<|.int most,.val<|.int<|spanOf ns at',.val<|.list<|cI.map .str,.no,.no,.no,.no])];rotate_left;.simp[cI]
 rw[aI (ρ':=[.val<|dN ns,.val<|.int at',.val<|.int most,.val<|.int<|spanOf ns at',.val<|.list<|cI.map .str,.lst [],.no,.no,.no])];rotate_left;.simp--the a
 have v:a3Y (aS bR<|aB (var 0)<|aB (op2 aY (var 1)<|cst<|.int 1)<|aB (op2 aY (var 2)<|cst<|.int 1) aG) [.val<|dN ns,.val<|.int at',.val<|.int most,.val<|.int<|spanOf ns at',.val<|.list<|cI.map .str,.lst [],.no,.no,.no]=Qa (.ok<|(qj<|oR ns at' most).map λ(k:Nat)=>jb (k:Int)):=by rw[b2z (n:=pickOf ns (at'+1)<|most+1) (by simp[lG ns (at'+1) (most+1) (by lia)<|by omega]) (by lia) (by lia),b0T];rfl
 have a:=xY (t:=.nm 6) (λ(k:Nat)=>jb (k:Int)) (λm Z=>m<=10->∃x y z,Z=[.val<|dN ns,.val<|.int at',.val<|.int most,.val<|.int<|spanOf ns at',.val<|.list<|cI.map .str,.lst ((qj m).map λk=>dM<|a2Y ns at' k),x,y,z])
  (fb:=(bI (dA 7<|aS bR<|aB (var 0)<|aB (op2 aY (op2 aY (var 1)<|cst<|.int 10)<|op2 pF (cst<|.int 3)<|var 6)<|aB (var 3) aG)<|bI (dA 8<|op2 aY (cst<|.int 1)<|aS bR<|aB (var 0)<|aB (op2 aY (op2 aY (var 1)<|cst<|.int 11)<|op2 pF (cst<|.int 3)<|var 6)<|aB (op2 ixD (nJ<|aB (cst<|.int 3)<|aB (cst<|.int 8)<|aB (var 3) aG)<|aS bR<|aB (var 0)<|aB (op2 aY (op2 aY (var 1)<|cst<|.int 12)<|op2 pF (cst<|.int 3)<|var 6)<|aB (cst<|.int 3) aG) aG)<|a1k 5<|iR<|aB (op2 ixD (var 4)<|var 6)<|aB (var 7)<|aB (op2 aY (var 7)<|var 8) aG))
  (qj<|oR ns at' most) 0 [.val<|dN ns,.val<|.int at',.val<|.int most,.val<|.int<|spanOf ns at',.val<|.list<|cI.map .str,.lst [],.no,.no,.no] (λ_=>#[.no,.no,.no,rfl]) (by
  intro m k Z D b;have f:m<oR ns at' most/\k=m:=by let⟨s,r⟩:=qW.mp D;rw[kJ]at s;rw[List.getElem_range]at r;exact#[s,r.symm]
  let⟨C,rfl⟩:=f;let⟨x,y,z,rfl⟩:=b (by lia);rw[Nat.zero_add];have u:=a3G ns at' k;have H:=lG ns (at'+10+3*(k:Int)) (spanOf ns at') (by lia) (by omega);have G:=lG ns (at'+12+3*(k:Int)) 3 (by lia) (by decide);have F:=lG ns (at'+11+3*(k:Int)) (pI ns at' k) (by lia) u.1;have h:=a7R (ns:=[3,8,spanOf ns at']) (iM ns (at'+12+3*(k:Int)) (many:=3)<|by decide) (show pickOf ns _ 3<(3:Int)from lA ns _ (by decide));have g:atI [jb 3,.int 8,.int<|spanOf ns at'] (pickOf ns (at'+12+3*(k:Int)) 3)=Qa (.int<|pI ns at' k):=h;have q:pF (.int 3) (.int (k:Int))=Qa (.int<|3*(k:Int)):=a7H (by decide) (by decide);have nm:atI (cI.map qb) (k:Int)=Qa (.str<|cI.getD k ""):=by have:=a1j qb (Y:=cI) (p:=(k:Int)) (by lia) (by show _<(10:Int);lia) "";simpa using this
  have c:ixD (.list<|cI.map qb) (.int (k:Int))=Qa (.str<|cI.getD k ""):=nm;refine#[_,[.val<|dN ns,.val<|.int at',.val<|.int most,.val<|.int<|spanOf ns at',.val<|.list<|cI.map .str,.lst<|(qj k).map (λk=>dM<|a2Y ns at' k)++[dM<|a2Y ns at' k],.val<|.int k,.val<|.int<|mK ns at' k,.val<|.int<|pJ ns at' k],rfl,.inl ?_,λ_=>#[.val<|.int k,.val<|.int<|mK ns at' k,.val<|.int<|pJ ns at' k,by rw[vT,jD];rfl]];simp only[List.set];rw[aI (ρ':=[.val<|dN ns,.val<|.int at',.val<|.int most,.val<|.int<|spanOf ns at',.val<|.list<|cI.map .str,.lst ((qj k).map λk=>dM<|a2Y ns at' k),.val<|.int k,.val<|.int<|mK ns at' k,z])<|by simp[q,H,mK]];rw[aI (ρ':=[.val<|dN ns,.val<|.int at',.val<|.int most,.val<|.int<|spanOf ns at',.val<|.list<|cI.map .str,.lst ((qj k).map λk=>dM<|a2Y ns at' k),.val<|.int k,.val<|.int<|mK ns at' k,.val<|.int<|pJ ns at' k])<|by simp[q,G,g,F,pJ]];refine c1W (O:=(qj k).map λk=>dM<|a2Y ns at' k) rfl (d:=dM<|a2Y ns at' k) ?_ (by simp;lia);simp only[oE,bW,uZ,b2i,a8D,bG,c,c0E];rfl);let⟨ρ',e,b⟩:=a;rw[kJ,Nat.zero_add]at b;let⟨o,j,i,rfl⟩:=b (by lia);rw[aI (ρ':=[.val<|dN ns,.val<|.int at',.val<|.int most,.val<|.int<|spanOf ns at',.val<|.list<|cI.map .str,.lst ((qj<|oR ns at' most).map λk=>dM<|a2Y ns at' k),o,j,i])];rotate_left;.rwa[a4H,a5e v]
 show retS (eS uK<|aB (var 5) aG) [.val<|dN ns,.val<|.int at',.val<|.int most,.val<|.int<|spanOf ns at',.val<|.list<|cI.map .str,.val<|.list ((qj<|oR ns at' most).map λk=>dM<|a2Y ns at' k),o,j,i]=_;simp[pK,Function.comp_def]
abbrev a2N:EF:=fK (.nm 0) [Qb] (nD<|var 0) ttT<|op2 ixD (var 0)<|cst<|.int 0
def a0m:SF:=(retS a2N)
def gN:List q8->Mm q8:=lV 1 1 a0m
abbrev a0a:TF:=orT (gS<|gI<|op1 (isD "str")<|var 0)<|gS<|c5e leD leD (cst<|.int 1) (eS mS<|aB (var 0) aG)<|cst<|.int 4
abbrev a4y:EF:=fK (.nm 0) [Qb] (c6h<|var 0) ttT<|c1I leD leD (cst<|.str "a") (var 0)<|cst<|.str "z"
def a2f:SF:=(bI (ifS a0a (retS<|cst<|.bool Qd) eM)<|retS<|eS allB<|aB a4y aG)
def bC:List q8->Mm q8:=lV 1 1 a2f
def b1D:SF:=(retS<|b2e (op1 (isD "int")<|var 0)<|c3V<|op1 (isD "bool")<|var 0)
def gO:List q8->Mm q8:=lV 1 1 b1D
def mW:SF:=(retS<|b2e (aS gO<|aB (var 0) aG)<|b2e (aS gO<|aB (var 1) aG)<|b8I leD ltD leD (cst<|.int 0) (var 0) (var 1)<|cst<|.int 480)
def eO:List q8->Mm q8:=lV 2 2 mW
abbrev pX:TF:=orT (gS<|gI<|op1 (isD "tuple")<|var 0)<|eG neD (eS mS<|aB (var 0) aG)<|cst<|.int 3
def lF:SF:=(bI (ifS pX (retS<|cst<|.bool Qd) eM)<|retS<|b2e (aS bC<|aB (op2 ixD (var 0)<|cst<|.int 0) aG)<|aS eO<|aB (op2 ixD (var 0)<|cst<|.int 1)<|aB (op2 ixD (var 0)<|cst<|.int 2) aG)
def nZ:List q8->Mm q8:=lV 1 1 lF
abbrev uR:TF:=orT (gS<|gI<|op1 (isD "tuple")<|var 0)<|eG gtD (eS mS<|aB (var 0) aG)<|cst<|.int 16
abbrev mT:EF:=fK (.nm 0) [Qb] (nD<|var 0) ttT<|aS nZ<|aB (var 0) aG
abbrev uP:TF:=gS<|gI<|eS allB<|aB mT aG
def mV:SF:=(retS<|c1F eqD (var 0)<|op1 a8N<|var 0)
def gP:List q8->Mm q8:=lV 1 1 mV
def iT:SF:=(bI (ifS uR (retS<|cst<|.bool Qd) eM)<|bI (ifS uP (retS<|cst<|.bool Qd) eM)<|retS<|aS gP<|aB (aS gN<|aB (var 0) aG) aG)
def cR:List q8->Mm q8:=lV 1 1 iT
@[simp]theorem c8z a k fa Z:isE a k fa Z=bnd (fa Z) λx=>lft ((isB k x).map λt=>.bool<|a !=t):=rfl
@[simp]theorem c8y a k fa Z:isT a k fa Z=bnd (fa Z) λx=>lft ((isB k x).map λt=>a !=t):=rfl
@[simp]theorem c7V:isB (.bool Qc) (.bool Qc)=Qa true:=rfl
@[simp]theorem c7W:isB (.bool Qd) (.bool Qd)=Qa true:=rfl
@[simp]theorem c7R(O:T0l):isD "tuple" (.tuple O)=Qa (.bool Qc):=rfl
@[simp]theorem c7T i:isD "int" (.int i)=Qa (.bool Qc):=rfl
@[simp]theorem c7U i:isD "bool" (.int i)=Qa (.bool Qd):=rfl
@[simp]theorem c7S i:isD "str" (.str i)=Qa (.bool Qc):=rfl
@[simp]theorem c6U c b a fa fb e d Z:b8I c b a fa fb e d Z=bnd (fa Z) λx=>bnd (fb Z) λy=>bnd (lft<|c x y) λt=>if t then bnd (e Z) λz=>bnd (lft<|b y z) λu=>if u then bnd (d Z) λw=>lft ((a z w).map .bool)else Qa (.ok<|.bool Qd)else Qa (.ok<|.bool Qd):=rfl
def all_bools(bs:List Bool):allB [.list<|bs.map .bool]=Qa (.bool<|bs.all id):=by show(lJ xI<|bs.map .bool).map _=_;rw[lI (g:=.bool) (λ_=>rfl) bs];rfl
def c1e{b e:Int}(h:0<=b/\b<e/\e<=480):eO [.int b,.int e]=Qa (.ok<|.bool Qc):=by
 have w:∀i:Int,gO [.int i]=Qa (.ok<|.bool Qc):=λi=>by kernel_rfl
 refine cN rfl ?_;show mW [.val<|.int b,.val<|.int e]=_;simp[mW,w,h.1,h.2.1,h.2.2]
structure MtOk(m:Mt):Prop where
 name:bC [.str m.1]=Qa (.ok (.bool Qc))ok:jN m.1=Qc
 times:0<=m.2.1/\m.2.1<m.2.2/\m.2.2<=480
def b4V{m:Mt}(h:MtOk m):nZ [dM m]=Qa (.ok<|.bool Qc):=by refine cN rfl ?_;show lF [.val<|dM m]=_;unfold lF;rw[aI (ρ':=[.val<|dM m])<|by rfl];simp[h.name,c1e h.times]
def a0W(s:List Mt)(b:s.length<=100000):gN [dS s]=Qa (.ok (.list ((s.map (·.1)).map .str))):=by refine cN rfl ?_;show a0m [.val<|dS s]=_;have a:a2N [.val<|dS s]=Qa (.ok<|.list<|s.map λm=>.str m.1):=eY dM (λm=>[.val<|dM m]) (λm=>.str m.1) s (by rfl) b (λm _=>by rfl) (λm _=>by rfl);unfold a0m;rw[cE,a,qZ];rfl
def a6c ns(h:ns.length<64):a8N (.list<|ns.map .str)=Qa (.list<|(fG<|fD ns).map .str):=by simp only[a8N,b3N,if_pos h]
theorem b0c:∀(ns b:T0q),(∀x∈ns,x∉b)->ns.Nodup->ns.foldl (λa n=>if n∈a then a else a++[n]) b=b++ns
 |[],b,_,_=>by simp|n::ns,b,h,hn=>by
  have d:=kB.mp hn;rw[List.foldl_cons,if_neg<|h n (by simp),b0c ns (b++[n]) (λx c=>?_) d.2,jd];.rfl
  .simp only[qU,qf,not_or];exact#[h x (by simp[c]),λz=>d.1<|z▸c]
def a4V(h:ns.Nodup):fD ns=ns:=by unfold fD;rw[b0c ns [] (by simp) h];rfl
theorem yE:∀(ns c:T0q),c.Nodup->(ns.foldl (λa n=>if n∈a then a else a++[n]) c).Nodup/\∀x∈ns.foldl (λa n=>if n∈a then a else a++[n]) c,x∈c\/x∈ns
 |[],c,h=>#[h,λx d=>.inl d]|n::ns,c,h=>by
  rw[List.foldl_cons];split;.let⟨a,b⟩:=yE ns c h;exact#[a,λx d=>(b x d).imp id λz=>qG _ z]
  .rename_i f;let⟨a,b⟩:=yE ns (c++[n]) (by rw[jc];exact#[h,by simp,λx d y e=>by rw[qf]at e;subst e;exactλz=>f<|z▸d]);refine#[a,λx d=>?_];obtain z|z:=b x d
   .obtain z|z:=qU.mp z;.exact .inl z
    .exact .inr (by rw[qf]at z;rw[z];simp)
   .exact .inr<|qG _ z
def xE ns:(fD ns).Nodup:=(yE ns [] .nil).1
def a6N{x:Str}(h:x∈fD ns):x∈ns:=((yE ns [] .nil).2 x h).elim (λz=>by cases z) id
def b2v(h:∀x∈ns,jN x=Qc):qm (.list<|ns.map .str)=true:=b2w (n:=1) (λd a=>by let⟨i,b,rfl⟩:=qR.mp a;simpa[ka]using h i b) (λd a=>by let⟨i,_,rfl⟩:=qR.mp a;simp[zA]) (by decide)
def b3h{a b:T0q}(d:∀x∈a,jN x=Qc)(c:∀x∈b,jN x=Qc):eqD (.list<|a.map .str) (.list<|b.map .str)=Qa (decide (a=b)):=by rw[a9V (b2v d)<|b2v c,a2Q]
def tP(s:List Mt)(q:s.length<=16)(h:∀m∈s,MtOk m):cR [dS s]=Qa (.ok (.bool (decide (s.map (·.1)=fG (fD (s.map (·.1))))))):=by
 refine cN rfl ?_;show iT [.val<|dS s]=_;have d:¬(16:Int)<(s.length:Nat):=by lia
 have j:mT [.val<|dS s]=Qa (.ok<|.list<|(s.map λ_=>Qc).map .bool):=by rw[show(s.map λ_=>Qc).map vb=s.map λ_=>vb Qc by simp];exact eY dM (λm=>[.val<|dM m]) (λ_=>.bool Qc) s (by rfl) (by omega) (λm _=>by rfl) (λm g=>by simp[b4V<|h m g])
 have o:(s.map λ_=>Qc).all id=true:=by simp
 have i:uP [.val<|dS s]=Qa (.ok Qd):=by show gS (gI<|eS allB<|aB mT aG) _=_;rw[b6N,b0A,a2r,bW,j];simp only[bG,a2v,a4q,all_bools,o,b5G,Bool.not_true]
 have c:∀x∈s.map (·.1),jN x=true:=λx e=>by let⟨m,g,rfl⟩:=qR.mp e;exact(h m g).ok
 unfold iT;rw[aI (ρ':=[.val<|dS s]) (by simp[d]),aI (ρ':=[.val<|dS s])<|by rw[dY,i];simp];have f:=a6c (s.map (·.1)) (by rw[qF];exact Q0 ‹_› rfl);have k:=b3h (a:=s.map (·.1)) (b:=fG (fD (s.map (·.1)))) c (λx e=>c x<|a6N<|(bP _).mem_iff.mp e);have p:gP [.list ((s.map (·.1)).map .str)]=Qa (.ok (.bool (decide (s.map (·.1)=fG (fD (s.map (·.1))))))):=by refine cN rfl ?_;show mV [.val (.list ((s.map (·.1)).map .str))]=_;unfold mV;rw[cE,b1P];simp only[a8D,bG,b6K,f,a4q,k,vS,oY]
 rw[cE,a8s,bW,a8s,bW];simp only[a8D,bG,a2v,a0W s (by omega),p,oY]
def a2S(s:List Mt)(c:s.length<=16)(h:∀m∈s,MtOk m)(e:(s.map (·.1)).Nodup)(d:(s.map (·.1)).Pairwise (λa b=>bQ a b=Qc)):cR [dS s]=Qa (.ok<|.bool Qc):=by rw[tP s c h,a4V e,decide_eq_true<|lU (bP _).symm d<|dP _]
def a5F(s:List Mt)(a:s.length<=16)(h:∀m∈s,MtOk m)(b:¬(s.map (·.1)).Nodup):cR [dS s]=Qa (.ok<|.bool Qd):=by rw[tP s a h,decide_eq_false λe=>b<|by rw[e];exact(bP _).nodup_iff.mpr<|xE _]
def a5G(s:List Mt)(c:s.length<=16)(h:∀m∈s,MtOk m)(d:¬(s.map (·.1)).Pairwise (λa b=>bQ a b=Qc)):cR [dS s]=Qa (.ok<|.bool Qd):=by rw[tP s c h,decide_eq_false λe=>d<|by rw[e];exact dP _]
def b1h:∀x∈cI,bC [.str x]=Qa (.ok<|.bool Qc):=by intro x a;simp only[cI,qI,jB,or_false]at a;obtain rfl|rfl|rfl|rfl|rfl|rfl|rfl|rfl|rfl|rfl:=a<;>kernel_rfl
def b1f:cI.Pairwise (λa b=>bQ a b=Qc):=by decide+kernel
def SheetOk.mt(S:SheetOk s):∀m∈s,MtOk m:=λm a=>by have t:=S.times m a;have q:m.1∈s.map (·.1):=qR.mpr #[m,a,rfl];rw[S.names]at q;exact#[b1h _<|vd q,S.name_ok m a,by lia]
def SheetOk.pw(S:SheetOk s):(s.map (·.1)).Pairwise (λa b=>bQ a b=Qc):=by rw[S.names];exact b1f.sublist<|ku _ _
def SheetOk.yes(S:SheetOk s):cR [dS s]=Qa (.ok<|.bool Qc):=a2S s (by have:=S.few;exact Q2 ‹_› rfl) S.mt S.nodup S.pw
def c1d i:gO [.int i]=Qa (.ok<|.bool Qc):=by kernel_rfl
@[simp]theorem c8H a b c d e(r:List α):atI (a::b::c::d::e::r) 4=Qa e:=by unfold atI ixN;rw[if_pos (by decide),if_pos<|by simp<;>lia];rfl
@[simp]theorem c8G a b c d e f(r:List α):atI (a::b::c::d::e::f::r) 5=Qa f:=by unfold atI ixN;rw[if_pos (by decide),if_pos<|by simp<;>lia];rfl
def bB{F:List q8->Mm q8}(a:aa Z=Qa (.ok O))(h:F O=Qa (.ok d)):aS F aa Z=Qa (.ok d):=by rw[a8s,a,bG,h]
def mB{g:List q8->Option q8}(a:aa Z=Qa (.ok O))(h:g O=Qa d):eS g aa Z=Qa (.ok d):=by rw[a2r,a,bG,h];rfl
def nT(b:fa Z=Qa (.ok d))(a:a3J d=Qa O):nD fa Z=Qa (.ok O):=by rw[c3b,b,bG,a];rfl
noncomputable def prs{α:Type}:List α->List (α×α)|a::b::r=>(a,b)::prs (b::r)|_=>[]
noncomputable def c4A(m:Int)(x:Mt):Bool:=decide (x.2.1<=m)&&decide (m<x.2.2)
def c0u(s:List Mt)(m:Int):List Str:=(s.filter<|c4A m).map (·.1)
def c4h(s:List Mt)(m:Int):Int:=((c0u s m).length:Nat)
section
variable{lo hi:Int}{r:T0s}
end
def ifF{t:TF}(h:t Z=Qa (.ok Qd)):bI (ifS t f eM) g Z=g Z:=aI (by rw[dY,a5e h];rfl)
end L2.L3
namespace L2.ST
open PySem PySem.W PyProof.Rows
section
variable{α β:Type}{lt:Nat->Nat->Bool}{n:Nat}
def run(lt:Nat->Nat->Bool):KasT α->α|.ret a=>a|.ask i j k=>run lt<|k<|lt i j
def asks(n:Nat)(lt:Nat->Nat->Bool):KasT α->Prop|.ret _=>True|.ask i j k=>i<n/\j<n/\asks n lt (k<|lt i j)
def Hq(n:Nat)(lt:Nat->Nat->Bool)(t:KasT α)(Q:α->Prop):Prop:=asks n lt t/\Q (run lt t)
def oV{a:α}{Q:α->Prop}(h:Q a):Hq n lt (.ret a) Q:=#[trivial,h]
def a1Y{k:Bool->KasT α}{Q:α->Prop}(hi:i<n)(a:j<n)(h:Hq n lt (k<|lt i j) Q):Hq n lt (.ask i j k) Q:=#[#[hi,a,h.1],h.2]
theorem yB{f:α->KasT β}{Q:β->Prop}:∀{t:KasT α},Hq n lt t (λa=>Hq n lt (f a) Q)->Hq n lt (t.bind f) Q|.ret _,h=>h.2|.ask i j k,h=>a1Y h.1.1 h.1.2.1<|yB (t:=k<|lt i j) #[h.1.2.2,h.2]
def nW{t:KasT α}{Q b:α->Prop}(h:Hq n lt t Q)(c:∀a,Q a->b a):Hq n lt t b:=#[h.1,c _ h.2]
theorem wp_run{s:Shared}(b:∀i j C,i<n->j<n->C (lt i j) s->cmp i j C s):∀ t{Q:α->Shared->Prop},asks n lt t->Q (run lt t) s->t.kasWp cmp Q s|.ret _,_,_,h=>h|.ask i j k,Q,a,h=>b i j _ a.1 a.2.1<|wp_run b (k<|lt i j) a.2.2 h
end
variable{p:Array Nat}
section
variable{r:Nat->Int}{n:Nat}
noncomputable def vl(r:Nat->Int)(p:Array Nat)(k:Nat):Int:=r<|p.getD k 0
noncomputable def ltr(r:Nat->Int)(i j:Nat):Bool:=decide (r i<r j)
def Up(r:Nat->Int)(p:Array Nat)(k:Nat):Prop:=∀i j,i<=j->j<k->vl r p i<=vl r p j
def a0t(r:Nat->Int)(p:Array Nat)(k:Nat):Prop:=∀i j,i<=j->j<k->vl r p j<=vl r p i
structure Pm(n:Nat)(p:Array Nat):Prop where
 size:p.size=n
 perm:p.Perm (qj n).toArray
def Pm.lt(h:Pm n p)(b:0<n) k:p.getD k 0<n:=by
 by_cases a:k<p.size
 .have e:p.getD k 0=p[k]:=by simp[a]
  rw[e];have:p[k]∈(qj n).toArray:=h.perm.mem_iff.mp<|Array.getElem_mem a;simpa using this
 .have e:p.getD k 0=0:=by simp[a]
  rwa[e]
def Pm.rev(h:Pm n p) i j:Pm n (kas_rev p i j):=#[by unfold kas_rev;rw[mirror_size];exact h.size,(mirror_perm _ _ _ _).trans h.perm]
def Pm.bub(h:Pm n p) i j:Pm n (bubble p i j):=#[by rw[bubble_size];exact h.size,(bubble_perm _ _ _).trans h.perm]
def a0U{q:Array Nat}(h:p[i]?=q[j]?):p.getD i 0=q.getD j 0:=by rw[Array.getD_eq_getD_getElem?,Array.getD_eq_getD_getElem?,h]
def b0w(a:j<=p.size) k:vl r (kas_rev p i j) k=if i<=k/\k<j then vl r p (i+j-1-k)else vl r p k:=by
 have e:=getElem?_mirror_all (i:=i) a k;unfold vl kas_rev;by_cases h:i<=k/\k<j;.rw[if_pos h]at e⊢;rw[a0U e]
 .rw[if_neg h]at e⊢;rw[a0U e]
def b5E{a d:Nat}(c:a<p.size)(f:d<=a) k:vl r (bubble p a d) k=if k=a-d then vl r p a else if a-d<k/\k<=a then vl r p (k-1)else vl r p k:=by
 have e:=getElem?_bubble c d f k;unfold vl;by_cases h:k=a-d;.rw[if_pos h]at e⊢;rw[a0U e]
 .rw[if_neg h]at e⊢;by_cases b:a-d<k/\k<=a;.rw[if_pos b]at e⊢;rw[a0U e]
  .rw[if_neg b]at e⊢;rw[a0U e]
def Up.snoc(h:Up r p k)(d:0<k)(b:vl r p (k-1)<=vl r p k):Up r p (k+1):=λi j a f=>by
 by_cases e:j=k
 .subst e;by_cases c:i=j;.subst c;exact zo _
  .exact Int.le_trans (h i (j-1) (by lia)<|by omega) b
 .exact h i j a (by lia)
def a0t.snoc(h:a0t r p k)(d:0<k)(b:vl r p k<=vl r p (k-1)):a0t r p (k+1):=λi j a f=>by
 by_cases e:j=k
 .subst e;by_cases c:i=j;.subst c;exact zo _
  .exact Int.le_trans b (h i (j-1) (by lia)<|by omega)
 .exact h i j a (by lia)
theorem b7A(P:Pm n p)(e:0<n):∀ f m,0<m->Up r p m->Hq n (ltr r) (kas_asc p f m) (λk=>m<=k/\k<=m+f/\Up r p k/\(k<m+f->vl r p k<vl r p (k-1)))
 |0,m,hm,h=>oV #[qM _,qM _,h,λz=>absurd z<|by lia]|f+1,m,hm,h=>by
  refine a1Y (P.lt e _) (P.lt e _) ?_;by_cases c:r (p.getD m 0)<r (p.getD (m-1) 0);.rw[show ltr r (p.getD m 0) (p.getD (m-1) 0)=Qc from decide_eq_true c,if_pos rfl];exact oV #[qM _,by lia,h,λ_=>c]
  .rw[show ltr r (p.getD m 0) (p.getD (m-1) 0)=Qd from decide_eq_false c,if_neg<|by simp];exact nW (b7A P e f (m+1) (by exact Nat.lt_succ_of_lt ‹_›)<|h.snoc hm<|Int.not_lt.mp c) (by rintro k⟨a,b,c,d⟩;exact#[by exact Nat.le_of_lt ‹_›,by lia,c,λz=>d<|by lia])
def a7d(b:j<=p.size)(a:∀k,i<=k->k<j->vl r p k=vl r p (j-1)) k:vl r (kas_rev p i j) k=vl r p k:=by
 rw[b0w b];by_cases h:i<=k/\k<j;.rw[if_pos h,a _ (by omega) (by omega),a k h.1 h.2]
 .rw[if_neg h]
def a0t.cong(e:∀k,vl r p' k=vl r p k)(h:a0t r p k):a0t r p' k:=λi j a b=>by rw[e,e];exact h i j a b
theorem a7W(o:0<n):∀ f p m q,Pm n p->q<m->m+f<=n->a0t r p m->(∀k,m-(q+1)<=k->k<m->vl r p k=vl r p (m-1))->Hq n (ltr r) (kas_desc f p m q) (λx=>Pm n x.1/\m<=x.2.1/\x.2.1<=m+f/\x.2.2<x.2.1/\a0t r x.1 x.2.1/\∀k,x.2.1-(x.2.2+1)<=k->k<x.2.1->vl r x.1 k=vl r x.1 (x.2.1-1))
 |0,p,m,q,P,hq,hm,hd,he=>oV #[P,qM _,qM _,hq,hd,he]|f+1,p,m,q,P,hq,hm,hd,he=>by
  have one:∀t:Array Nat,∀k,m+1-(0+1)<=k->k<m+1->vl r t k=vl r t (m+1-1):=λt k a b=>by rw[show k=m+1-1 by lia]
  refine a1Y (P.lt o _) (P.lt o _) ?_;by_cases c:r (p.getD m 0)<r (p.getD (m-1) 0)
  .rw[show ltr r (p.getD m 0) (p.getD (m-1) 0)=Qc from decide_eq_true c,if_pos rfl];have s:=hd.snoc (by omega)<|wM c;by_cases u:q>0;.rw[if_pos u];have e:=a7d (i:=m-(q+1)) (j:=m) (by rw[P.size];lia) he;exact nW (a7W o f _ (m+1) 0 (P.rev _ _) (by omega) (by omega) (s.cong e)<|one _) λx⟨a,b,c,d,e,g⟩=>#[a,by omega,by omega,d,e,g]
   .rw[if_neg u];exact nW (a7W o f _ (m+1) 0 P (by omega) (by omega) s<|one _) λx⟨a,b,c,d,e,g⟩=>#[a,by omega,by omega,d,e,g]
  .rw[show ltr r (p.getD m 0) (p.getD (m-1) 0)=Qd from decide_eq_false c,if_neg<|by simp];refine a1Y (P.lt o _) (P.lt o _) ?_;by_cases w:r (p.getD (m-1) 0)<r (p.getD m 0);.rw[show ltr r (p.getD (m-1) 0) (p.getD m 0)=Qc from decide_eq_true w,if_pos rfl];exact oV #[P,qM _,Nat.le_add_right _ _,hq,hd,he]
   .rw[show ltr r (p.getD (m-1) 0) (p.getD m 0)=Qd from decide_eq_false w,if_neg<|by simp];have v:vl r p m=vl r p (m-1):=by unfold vl;lia
    refine nW (a7W o f p (m+1) (q+1) P (by lia) (by omega) (hd.snoc (by omega)<|by lia) λk a b=>?_) λx⟨a,b,c,d,e,g⟩=>#[a,by omega,by omega,d,e,g];rw[show m+1-1=m by lia,v];by_cases y:k=m;.rw[y,v]
    .exact he k (by lia) (by lia)
def a0t.rev{m:Nat}(P:Pm n p)(b:m<=n)(h:a0t r p m):Up r (kas_rev p 0 m) m:=λi j a c=>by rw[b0w (by rw[P.size];omega),b0w (by rw[P.size];omega),if_pos (by lia),if_pos<|by lia];exact h _ _ (by omega) (by omega)
abbrev c5q(r:Nat->Int)(n:Nat)(x:Nat×Array Nat):Prop:=Pm n x.2/\0<x.1/\x.1<=n/\Up r x.2 x.1
def b7z(e:0<n){m:Nat}(P:Pm n p)(i:0<m)(f:m<=n)(g:a0t r p m):Hq n (ltr r) (kas_tail3 m n p) (c5q r n):=by refine yB (nW (b7A (P.rev 0 m) e (n-m) m i<|g.rev P f)<|by rintro k⟨a,b,c,d⟩;exact oV #[P.rev 0 m,by lia,by lia,c])
def a4E(f:0<n){m:Nat}(P:Pm n p)(j:m+1<=n)(i:a0t r p (m+1)):Hq n (ltr r) (kas_descPart m n p) (c5q r n):=by
 refine yB<|nW (a7W f (n-(m+1)) p (m+1) 0 P (by lia) (by omega) i<|λk a b=>by rw[show k=m+1-1 by lia]) ?_;rintro x⟨a,b,c,d,e,g⟩;by_cases h:x.2.2>0;.rw[if_pos h];exact b7z f (a.rev _ _) (by lia) (by omega) (e.cong<|a7d (by rw[a.size];omega) g)
 .rw[if_neg h];exact b7z f a (by lia) (by omega) e
def c0T(g:0<n)(P:Pm n p):Hq n (ltr r) (kas_count n p) (c5q r n):=by
 refine yB<|nW (b7A P g (n-1) 1 (by decide)<|λi j a b=>by rw[show i=j by lia];exact zo _) ?_;rintro m⟨a,b,c,d⟩;by_cases h:(m==n)=Qc;.rw[if_pos h];exact oV #[P,by assumption,by lia,c]
 .rw[if_neg h];have w:m<n:=by have:m≠n:=λz=>h (by rw[z];simp);lia
  have v:=d (by lia);by_cases u:m>1
  .rw[if_pos u];refine a1Y (P.lt g _) (P.lt g _) ?_;by_cases s:r (p.getD 0 0)<r (p.getD (m-1) 0);.rw[show ltr r (p.getD 0 0) (p.getD (m-1) 0)=Qc from decide_eq_true s,if_pos rfl];exact oV #[P,by assumption,by exact Nat.le_of_lt ‹_›,c]
   .rw[show ltr r (p.getD 0 0) (p.getD (m-1) 0)=Qd from decide_eq_false s,if_neg<|by simp];have f:∀k,k<m->vl r p k=vl r p (m-1):=λk o=>by have C:=c 0 k (jJ _) o;have A:=c k (m-1) (by lia) (by lia);have y:vl r p (m-1)<=vl r p 0:=Int.not_lt.mp s;lia
    have e:=a7d (r:=r) (i:=0) (j:=m) (by rw[P.size];exact Nat.le_of_lt ‹_›) (λk _ o=>f k o);refine a4E g (P.rev 0 m) (by assumption)<|a0t.cong e ?_;refine a0t.snoc (λi j q t=>?_) (by assumption)<|wM v;rw[f i (by exact Q6 ‹_› ‹_›),f j t];exact zo _
  .rw[if_neg u];refine a4E g P (by assumption)<|a0t.snoc (λi j q t=>?_) (by assumption)<|wM v;rw[show i=j by lia];exact zo _
theorem a7V(e:0<n)(P:Pm n p){k:Nat}(hu:Up r p k):∀ f l u,l<=u->u<=k->u-l<=f->(∀i,i<l->vl r p i<=vl r p k)->(∀i,u<=i->i<k->vl r p k<vl r p i)->Hq n (ltr r) (kas_place p k f l u) (λx=>x<=k/\(∀i,i<x->vl r p i<=vl r p k)/\∀i,x<=i->i<k->vl r p k<vl r p i)
 |0,l,u,h1,h2,h3,a,b=>oV #[by lia,a,λi g d=>b i (by lia) d]|f+1,l,u,h1,h2,h3,a,b=>by
  unfold kas_place;by_cases h:l>=u;.rw[if_pos h];exact oV #[by lia,a,λi g d=>b i (by lia) d]
  .rw[if_neg h];refine a1Y (P.lt e _) (P.lt e _) ?_;by_cases c:r (p.getD k 0)<r (p.getD ((l+u)/2) 0);.rw[show ltr r (p.getD k 0) (p.getD ((l+u)/2) 0)=Qc from decide_eq_true c,if_pos rfl];refine a7V e P hu f l ((l+u)/2) (by lia) (by lia) (by lia) a λi g d=>?_;have j:=c;exact Int.lt_of_lt_of_le j (hu _ _ g d)
   .rw[show ltr r (p.getD k 0) (p.getD ((l+u)/2) 0)=Qd from decide_eq_false c,if_neg<|by simp];refine a7V e P hu f ((l+u)/2+1) u (by lia) (by omega) (by lia) (λi g=>?_) b;have j:=Int.not_lt.mp c;exact Int.le_trans (hu i ((l+u)/2) (by lia)<|by lia) j
theorem c2s(v:0<n):∀ f p k,Pm n p->0<k->k+f=n->Up r p k->Hq n (ltr r) (kas_bin f p k) (λq=>Pm n q/\Up r q n)
 |0,p,k,P,_,w,hu=>oV #[P,by rwa[show n=k by lia]]|f+1,p,k,P,h0,w,hu=>by
  refine yB (nW (a7V v P hu k 0 k (jJ _) (qM _) (by lia) (λi g=>absurd g<|by lia)<|λi g w=>absurd g<|by lia) λl⟨a,b,c⟩=>?_);refine c2s v f _ (k+1) (P.bub _ _) (by exact Nat.lt_succ_of_lt ‹_›) (by lia) λi j e A=>?_;have u:k<p.size:=by rw[P.size];lia
  have z:=b5E (r:=r) u (show k-l<=k by omega) i;have y:=b5E (r:=r) u (show k-l<=k by omega) j;rw[show k-(k-l)=l by omega]at z y;rw[z,y];by_cases t:i=l
  .rw[if_pos t];by_cases d:j=l;.rw[if_pos d];exact zo _
   .rw[if_neg d,if_pos<|by lia];exact wM (c (j-1) (by lia)<|by lia)
  .rw[if_neg t];by_cases s:l<i/\i<=k;.rw[if_pos s,if_neg (by lia),if_pos<|by lia];exact hu _ _ (by lia) (by lia)
   .rw[if_neg s];by_cases d:j=l;.rw[if_pos d];exact b i (by lia)
    .rw[if_neg d];by_cases o:l<j/\j<=k;.rw[if_pos o];exact hu _ _ (by lia) (by lia)
     .rw[if_neg o];exact hu _ _ e (by lia)
def h_sort(e:2<=n):Hq n (ltr r) (kas_sort n) (λq=>Pm n q/\Up r q n):=by
 refine yB<|nW (c0T (by exact Nat.le_of_lt ‹_›) #[by simp,Array.Perm.refl _]) ?_;rintro x⟨a,b,c,d⟩;by_cases h:x.1<n;.rw[if_pos h,show max x.1 1=x.1 by lia];exact c2s (by exact Nat.le_of_lt ‹_›) _ _ _ a b (by lia) d
 .rw[if_neg h];exact oV #[a,by rwa[show n=x.1 by lia]]
end
end L2.ST
namespace L2.L3
open PySem PySem.Spec PyProof.Rows
def ltC:q8->q8->Bool|.int a,.int b=>decide (a<b)|.str a,.str b=>!bQ b a|_,_=>Qd
noncomputable def eqC:q8->q8->Bool|.int a,.int b=>a==b|.str a,.str b=>a==b|_,_=>Qd
def ltR:List q8->List q8->Bool|a::r,b::s=>if eqC a b then ltR r s else ltC a b|_,_=>Qd
noncomputable def iU:List Bool->List q8->Bool|[],[]=>Qc|true::g,.int _::r=>iU g r|false::g,.str _::r=>iU g r|_,_=>Qd
variable{a:List q8}
def nS(h:iU [] a=Qc):a=[]:=by cases a with|nil=>rfl|cons x r=>cases x<;>cases h
def sig_int(h:iU (Qc::g) a=Qc):∃i r,a=.int i::r/\iU g r=true:=by cases a with|nil=>cases h|cons x r=>cases x<;>first|exact⟨_,_,rfl,h⟩|cases h
def sig_str(h:iU (Qd::g) a=Qc):∃i r,a=.str i::r/\iU g r=true:=by cases a with|nil=>cases h|cons x r=>cases x<;>first|exact⟨_,_,rfl,h⟩|cases h
def b1r a:bQ a a=true:=by have:=pO a a;rwa[Bool.or_self]at this
theorem a7O:∀ g(a:T0l),iU g a=Qc->ltR a a=Qd|[],a,h=>by rw[nS h];rfl|true::g,a,h=>by let⟨i,r,rfl,h⟩:=sig_int h;simp[ltR,eqC,a7O g r h]|false::g,a,h=>by let⟨i,r,rfl,h⟩:=sig_str h;simp[ltR,eqC,a7O g r h]
theorem a7N:∀ g(a b:T0l),iU g a=Qc->iU g b=Qc->ltR a b=Qc\/a=b\/ltR b a=Qc
 |[],a,b,h,c=>by rw[nS h,nS c];exact .inr (.inl rfl)|true::g,a,b,h,c=>by
  let⟨i,r,rfl,h⟩:=sig_int h;let⟨j,q,rfl,c⟩:=sig_int c;by_cases e:i=j
  .subst e;obtain z|z|z:=a7N g r q h c;.exact .inl (by simp[ltR,eqC,z])
   .exact .inr (.inl<|by rw[z])
   .exact .inr (.inr<|by simp[ltR,eqC,z])
  .by_cases l:i<j;.exact .inl (by simp[ltR,eqC,e,ltC,l])
   .exact .inr (.inr (by have:¬j=i:=λz=>e z.symm;simp[ltR,eqC,this,ltC];lia))|false::g,a,b,h,c=>by
  let⟨i,r,rfl,h⟩:=sig_str h;let⟨j,q,rfl,c⟩:=sig_str c;by_cases e:i=j
  .subst e;obtain z|z|z:=a7N g r q h c;.exact .inl (by simp[ltR,eqC,z])
   .exact .inr (.inl<|by rw[z])
   .exact .inr (.inr<|by simp[ltR,eqC,z])
  .have f:¬j=i:=λz=>e z.symm;cases l:bQ j i with|false=>exact .inl (by simp[ltR,eqC,e,ltC,l])|true=>cases d:bQ i j with|false=>exact .inr (.inr<|by simp[ltR,eqC,f,ltC,d])|true=>exact absurd (a4r d l) e
theorem b1o:∀ g(a b c:T0l),iU g a=Qc->iU g b=Qc->iU g c=Qc->ltR a b=Qc->ltR b c=Qc->ltR a c=Qc
 |[],a,b,c,h,_,_,z,_=>by rw[nS h]at z;cases z|true::g,a,b,c,h,o,d,z,z'=>by
  let⟨i,r,rfl,h⟩:=sig_int h;let⟨j,q,rfl,o⟩:=sig_int o;let⟨k,u,rfl,d⟩:=sig_int d;simp only[ltR,eqC,ltC,beq_iff_eq]at z z'⊢;by_cases e:i=j
  .subst e;rw[if_pos rfl]at z;by_cases f:i=k;.subst f;rw[if_pos rfl]at z'⊢;exact b1o g r q u h o d z z'
   .rw[if_neg f]at z'⊢;exact z'
  .rw[if_neg e]at z;by_cases f:j=k;.subst f;rwa[if_neg e]
   .rw[if_neg f]at z';rw[decide_eq_true_eq]at z z';rw[if_neg<|by lia];exact decide_eq_true (by omega)|false::g,a,b,c,h,o,d,z,z'=>by
  let⟨i,r,rfl,h⟩:=sig_str h;let⟨j,q,rfl,o⟩:=sig_str o;let⟨k,u,rfl,d⟩:=sig_str d;simp only[ltR,eqC,ltC,beq_iff_eq]at z z'⊢;by_cases e:i=j
  .subst e;rw[if_pos rfl]at z;by_cases f:i=k;.subst f;rw[if_pos rfl]at z'⊢;exact b1o g r q u h o d z z'
   .rw[if_neg f]at z'⊢;exact z'
  .rw[if_neg e]at z;by_cases f:j=k;.subst f;rwa[if_neg e]
   .rw[if_neg f]at z';have t:bQ j i=false:=by simpa using z
    have s:bQ k j=false:=by simpa using z'
    have v:bQ i j=true:=by have:=pO i j;rwa[t,wD]at this
    have C:bQ j k=true:=by have:=pO j k;rwa[s,wD]at this
    have p:bQ k i=false:=by cases y:bQ k i with|false=>rfl|true=>rw[wY y v]at s;cases s
    have A:¬i=k:=λw=>by subst w;rw[b1r]at p;cases p
    rw[if_neg A,p];rfl
def ltT:q8->q8->Bool|.tuple a,.tuple b=>ltR a b|_,_=>Qd
def fN(g:List Bool):q8->Bool|.tuple a=>iU g a|_=>Qd
def mG(h:fN g d=Qc):∃a,d=.tuple a/\iU g a=true:=by cases d<;>first|exact⟨_,rfl,h⟩|cases h
section
variable{a b c:q8}
def b2W(h:fN g a=Qc):ltT a a=false:=by let⟨x,rfl,h⟩:=mG h;exact a7O g x h
def a7L(h:fN g a=Qc)(h':fN g b=Qc):ltT a b=Qc\/a=b\/ltT b a=true:=by let⟨x,rfl,h⟩:=mG h;let⟨y,rfl,h'⟩:=mG h';exact(a7N g x y h h').imp id<|Or.imp (λe=>by rw[e]) id
def a7M(h:fN g a=Qc)(h':fN g b=Qc)(d:fN g c=Qc)(z:ltT a b=Qc)(e:ltT b c=Qc):ltT a c=true:=by let⟨x,rfl,h⟩:=mG h;let⟨y,rfl,h'⟩:=mG h';let⟨u,rfl,d⟩:=mG d;exact b1o g x y u h h' d z e
def c4g(h:fN g a=Qc)(h':fN g b=Qc)(f:fN g c=Qc)(z:ltT b a=Qd)(d:ltT c b=Qd):ltT c a=false:=by cases e:ltT c a with|false=>rfl|true=>
  obtain q|q|q:=a7L h h';.rw[a7M f h h' e q]at d;cases d
  .subst q;rw[e]at d;cases d
  .rw[q]at z;cases z
end
def b1w(x:q8):List q8->List q8|[]=>[x]|y::l=>if ltT y x then y::b1w x l else x::y::l
def a2W(l:T0l):List q8:=l.foldr b1w []
theorem a1X x:∀l:List q8,(b1w x l).Perm (x::l)
 |[]=>.refl _|y::l=>by
  unfold b1w;split;.exact((a1X x l).cons y).trans (.swap x y l)
  .exact .refl _
theorem a1B:∀l:List q8,(a2W l).Perm l|[]=>.refl _|x::l=>(a1X x _).trans<|(a1B l).cons x
abbrev a5O(l:T0l):Prop:=l.Pairwise λa b=>ltT b a=Qd
theorem a2O{g:List Bool}{x:q8}(hx:fN g x=Qc):∀l:List q8,(∀d∈l,fN g d=Qc)->a5O l->a5O (b1w x l)
 |[],_,_=>by simp[b1w]|y::l,h,hp=>by
  have b:=jh.mp hp;have c:=h y (by simp);unfold b1w;by_cases e:ltT y x=Qc
  .rw[if_pos e,a5O,jh];refine#[λz a=>?_,a2O hx l (λd i=>h d<|qG _ i) b.2];rcases qI.mp ((a1X x l).mem_iff.mp a)with rfl|a;.cases q:ltT z y with|false=>rfl|true=>have:=a7M hx c hx q e;rw[b2W hx]at this;cases this
   .exact b.1 z a
  .rw[if_neg e,a5O,jh];have f:ltT y x=false:=by simpa using e
   refine#[λz a=>?_,hp];obtain rfl|a:=qI.mp a;.exact f
   .exact c4g hx c (h z<|qG _ a) f<|b.1 z a
theorem a2A{g:List Bool}:∀l:List q8,(∀d∈l,fN g d=Qc)->a5O (a2W l)|[],_=>.nil|x::l,h=>a2O (h x<|by simp) _ (λd a=>h d<|qG _<|(a1B l).mem_iff.mp a) (a2A l λd a=>h d<|qG _ a)
theorem a8O{g:List Bool}:∀ l m,l.Perm m->(∀d∈l,fN g d=Qc)->a5O l->a5O m->l=m
 |[],m,hp,_,_,_=>by rw[List.nil_perm.mp hp]|x::l,[],hp,_,_,_=>by have:=hp.length_eq;simp at this|x::l,y::m,hp,h,h1,h2=>by
  have b:=jh.mp h1;have a:=jh.mp h2;have c:y∈x::l:=hp.mem_iff.mpr (by simp);have f:x∈y::m:=hp.mem_iff.mp (by simp);have e:x=y:=by
   obtain z|z:=qI.mp c;.exact z.symm
   .obtain w|w:=qI.mp f;.exact w
    .rcases a7L (h x<|by simp) (h y c)with u|u|u;.rw[a.1 x w]at u;cases u
     .exact u
     .rw[b.1 y z]at u;cases u
  subst e;rw[a8O l m (List.Perm.cons_inv hp) (λd i=>h d<|qG _ i) b.2 a.2]
def b2r{l m:T0l}(a:l.Perm m)(h:∀d∈m,fN g d=Qc)(b:a5O l):l=a2W m:=a8O (g:=g) l (a2W m) (a.trans (a1B m).symm) (λd c=>h d<|a.mem_iff.mp c) b<|a2A m h
def rk(O:T0l)(i:Nat):Int:=((O.filter λx=>ltT x<|O.getD i .none).length:Nat)
theorem a8a{a:Type}{p q:a->Bool}:∀l:List a,(∀x∈l,p x=Qc->q x=Qc)->(l.filter p).length<=(l.filter q).length|[],_=>by simp|x::l,h=>by have d:=a8a l λy c=>h y<|qG _ c;cases e:p x with
  |false=>rw[jT<|by simp[e]];cases b:q x with|false=>rwa[jT<|by simp[b]]|true=>rw[jG b,qO];lia
  |true=>rw[jG e,jG<|h x (by simp) e,qO,qO];lia
theorem b3e{b:Type}{p q:b->Bool}:∀l:List b,(∀x∈l,p x=Qc->q x=Qc)->(∃x∈l,p x=Qd/\q x=Qc)->(l.filter p).length<(l.filter q).length
 |[],_,⟨x,hx,_⟩=>by cases hx|x::l,h,⟨y,a,h1,h2⟩=>by
  have f:=a8a l λy a=>h y<|qG _ a;obtain rfl|a:=qI.mp a;.rw[jT (by simp[h1]),jG h2,qO];lia
  .have d:=b3e l (λy a=>h y<|qG _ a) #[y,a,h1,h2];cases e:p x with
   |false=>rw[jT<|by simp[e]];cases c:q x with|false=>rwa[jT<|by simp[c]]|true=>rw[jG c,qO];exact Nat.lt_succ_of_lt ‹_›
   |true=>rw[jG e,jG<|h x (by simp) e,qO,qO];lia
def c2g(h:∀d∈O,fN g d=Qc)(hi:i<O.length)(r:j<O.length):ltT (O.getD i .none) (O.getD j .none)=ST.ltr (rk O) i j:=by
 have o:O.getD i .none∈O:=by rw[jM,qN hi];exact jm hi
 have s:O.getD j .none∈O:=by rw[jM,qN r];exact jm r
 unfold ST.ltr rk;generalize O.getD i q8.none=a at*;generalize O.getD j q8.none=b at*;have c:=h a o;have k:=h b s;cases e:ltT a b with
 |true=>refine(decide_eq_true ?_).symm;have:=b3e (p:=λx=>ltT x a) (q:=λx=>ltT x b) O (λx f z=>a7M (h x f) c k z e) #[a,o,b2W c,e];lia
 |false=>refine(decide_eq_false ?_).symm;have:=a8a (p:=λx=>ltT x b) (q:=λx=>ltT x a) O (λx f z=>by
   obtain q|q|q:=a7L c k;.rw[e]at q;cases q
   .subst q;exact z
   .exact a7M (h x f) k c z q);lia
def a4h(h:∀d∈O,fN g d=Qc){p:Array Nat}(P:ST.Pm O.length p)(U10:ST.Up (rk O) p O.length):(p.toList.map λi=>O.getD i .none)=a2W O:=by
 have v:p.toList.length=O.length:=by rw[qa];exact P.size
 have f:(qj O.length).map (λi=>O.getD i .none)=O:=by refine List.ext_getElem (by simp) λi w r=>?_;simp[r]
 have k:(p.toList.map λi=>O.getD i .none).Perm O:=by have:=(Array.perm_iff_toList_perm.mp P.perm).map λi=>O.getD i q8.none;simp only[vk]at this;rwa[f]at this
 refine b2r k h ?_;unfold a5O;rw[jp,List.pairwise_iff_getElem];intro i j q o c;have b:i<p.size:=by simpa using q
 have a:j<p.size:=by simpa using o
 have u:=U10 i j (jg c) (by rwa[P.size]at a);unfold ST.vl at u;have t:p.toList[i]=p.getD i 0:=by simp[b]
 have s:p.toList[j]=p.getD j 0:=by simp[a]
 rw[t,s];by_cases e:0<O.length;.rw[c2g h (P.lt e j)<|P.lt e i];exact decide_eq_false (by omega)
 .rw[P.size]at b;lia
end L2.L3
namespace L2.L3
open PySem PySem.W PyProof.Rows PySem.Calls
variable{Q:Bool->Shared->Prop}{vs:List Value}{k:Bool}{o:Obj}
def c0k b m n t u(h:Q (decide (m<n)) s):wpAny (model prog w) A (oneLt' b (.int m t)<|.int n u) Q E s:=by cases b with|true=>exact oneLt_int h|false=>exact kat_one _ _<|lt_int h
def c0j b m n t u(h:Q (decide (m.cps.toList<n.cps.toList)) s):wpAny (model prog w) A (oneLt' b (.str m t)<|.str n u) Q E s:=by cases b with|true=>exact oneLt_str h|false=>exact kat_one _ _<|lt_str h
theorem a4Y{Q:Bool->Shared->Prop}:∀ g(Y ys:T0m)(O es:T0l)(c bs:T0o) i,ReadsAll s.heap Y O c->ReadsAll s.heap ys es bs->iU g O=Qc->iU g es=Qc->Q (ltR O es) s->KatLex prog w A Qc Qd Q (Y.zip ys) i s
 |[],Y,ys,O,es,c,bs,i,r,r',h,a,q=>by have o:=nS h;have k:=nS a;subst o;subst k;cases r;cases r';exact kat_nil q|true::g,Y,ys,O,es,c,bs,i,r,r',h,a,q=>by let⟨m,j,rfl,h⟩:=sig_int h;let⟨n,r2,rfl,a⟩:=sig_int a;cases r with|cons v f=>cases r' with|cons d b=>
  cases v;cases d;refine kat_cons<|SeqAt.EqAt.int_int _ _ _ _ _ _ _ _ ?_;by_cases e:m=n;.subst e;rw[beq_self_eq_true];refine kat_yes<|a4Y g _ _ _ _ _ _ _ f b h a ?_;simpa[ltR,eqC]using q
  .rw[beq_eq_false_iff_ne.mpr e];refine kat_no<|c0k _ _ _ _ _ ?_;simpa[ltR,eqC,e,ltC]using q|false::g,Y,ys,O,es,c,bs,i,r,r',h,a,q=>by let⟨m,j,rfl,h⟩:=sig_str h;let⟨n,r2,rfl,a⟩:=sig_str a;cases r with|cons v f=>cases r' with|cons d b=>
  cases v;cases d;refine kat_cons<|SeqAt.EqAt.str_str _ _ _ _ _ _ _ _ ?_;by_cases e:m=n;.subst e;rw[beq_self_eq_true];refine kat_yes<|a4Y g _ _ _ _ _ _ _ f b h a ?_;simpa[ltR,eqC]using q
  .rw[beq_eq_false_iff_ne.mpr e];refine kat_no<|c0j _ _ _ _ _ ?_;have:ltR (.str m::j) (.str n::r2)=decide (m.cps.toList<n.cps.toList):=by simp[ltR,eqC,e,ltC,bQ]
   rwa[<-this]
def c3f{v:Value}{e:q8}{as bs:T0o}(r:Reads s.heap v d as)(p:Reads s.heap u e bs)(h:fN g d=Qc)(h':fN g e=Qc)(q:Q (ltT d e) s):wpAny (model prog w) A (keyLt' (tuples' Qc) v u) Q E s:=by let⟨x,rfl,h⟩:=mG h;let⟨y,rfl,h'⟩:=mG h';cases r with|tuple t D z k=>cases p with|tuple i C j c=>
   refine kat_lt t z i j ?_;have sz:∀(g:List Bool)(x y:T0l),iU g x=Qc->iU g y=Qc->x.length=y.length:=by intro g;induction g with|nil=>intro x y h h';rw[nS h,nS h']|cons b g f=>intro x y h h';cases b with|true=>let⟨_,_,rfl,h⟩:=sig_int h;let⟨_,_,rfl,h'⟩:=sig_int h';simp[f _ _ h h']|false=>let⟨_,_,rfl,h⟩:=sig_str h;let⟨_,_,rfl,h'⟩:=sig_str h';simp[f _ _ h h']
   have o:∀{a:T0m}{O:T0l}{as:T0o},ReadsAll s.heap a O as->a.length=O.length:=by intro a;induction a with|nil=>intro O as r;cases r;rfl|cons v a f=>intro O as r;cases r with|cons _ r=>simp[f r]
   have H:=o k;have G:=o c;have F:=sz _ _ _ h h';rw[decide_eq_false<|by rw[<-qa,<-qa];lia];exact a4Y g _ _ _ _ _ _ 0 k c h h' q
inductive Rows(h:Heap):List Value->List q8->Prop|nil:Rows h [] []|cons{v:Value}{vs:T0m}{d:q8}{O:T0l}{as:T0o}:Reads h v d as->Rows h vs O->Rows h (v::vs) (d::O)
def Rows.len{h:Heap}(r:Rows h vs O):vs.length=O.length:=by induction r with|nil=>rfl|cons _ _ a=>simp[a]
theorem Rows.keeps{h h':Heap}(k:U9 h h'){vs:T0m}{O:T0l}(r:Rows h vs O):Rows h' vs O:=by induction r with|nil=>exact .nil|cons r _ a=>exact .cons (Reads.keeps k r) a
theorem Rows.at{h:Heap}{vs:T0m}{O:T0l}(r:Rows h vs O):∀i,i<vs.length->∃c,Reads h (vs.getD i .none) (O.getD i .none) c:=by induction r with|nil=>intro i a;simp at a|cons r _ b=>intro i a;cases i with|zero=>exact#[_,r]|succ i=>exact b i (by simpa using a)
def Rows.firsts{h:Heap}{k:Bool}(r:Rows h vs O)(o:∀d∈O,fN (k::g) d=Qc):∃fs:List Value,KatTups h vs fs/\fs.length=vs.length/\∀v∈fs,(k=Qc/\∃i t,v=.int i t)\/(k=Qd/\∃i t,v=.str i t):=by induction r with|nil=>exact#[[],.nil,rfl,λv b=>by cases b]|@cons v vs d O w r _ s=>let⟨fs,t,l,a⟩:=s λd e=>o d<|qG _ e;let⟨x,rfl,j⟩:=mG<|o d (by simp);cases r with|tuple p q e c=>cases k with
   |true=>let⟨i,y,rfl,u⟩:=sig_int j;generalize b:wO _=vl at c;cases c with|cons z c=>cases z with|int _ f=>
    refine#[.int i f::fs,KatTups.cons p q e (by rw[<-jt,b];rfl) t,by simp[l],λv b=>?_]
    .obtain rfl|b:=qI.mp b;.exact .inl #[rfl,_,_,rfl]
     .exact a v b|false=>let⟨i,y,rfl,u⟩:=sig_str j;generalize b:wO _=vl at c;cases c with|cons z c=>cases z with|str _ f=>
    refine#[.str i f::fs,KatTups.cons p q e (by rw[<-jt,b];rfl) t,by simp[l],λv b=>?_]
    .obtain rfl|b:=qI.mp b;.exact .inr #[rfl,_,_,rfl]
     .exact a v b
def b4f{k:Bool}(r:Rows s.heap vs O)(c:∀d∈O,fN (k::g) d=Qc)(e:0<vs.length){Q:SortKind->Shared->Prop}(h:Q (tuples' Qc) s):wpAny (model prog w) A (keyKind' vs.toArray) Q E s:=by let⟨fs,t,l,a⟩:=r.firsts c;cases k with
 |true=>
  refine kat_kind (T:=.type "int") t (by omega) (λv b=>?_) (by decide) h;obtain⟨_,i,t,rfl⟩|⟨z,_⟩:=a v b;.exact Looks.of_pure rfl
  .cases z|false=>
  refine kat_kind (T:=.type "str") t (by omega) (λv b=>?_) (by decide) h;obtain⟨z,_⟩|⟨_,i,t,rfl⟩:=a v b;.cases z
  .exact Looks.of_pure rfl
def a4o{k:Bool}{n:Nat}{h0:Heap}{P:Fin->Shared->Prop}(ho:s.heap.get? a=Qa (v8 "list" vs.toArray n))(rd:Rows h0 vs O)(hk:∀b o,h0.get? b=Qa o->b≠a/\s.heap.get? b=Qa o)(hs:∀d∈O,fN (k::g) d=Qc)(h64:vs.length<64)(h:∀p:Array Nat,ST.Pm O.length p->(p.toList.map λi=>O.getD i .none)=a2W O->P (.done<|.ret .none) {s with heap:=y6 s.heap a vs (p.toList.map λi=>vs.getD i .none).toArray}):wpAny (model prog w) A (Builtin.«list.sort» #[[.ref a],[]]) P E s:=by
 have ln:=rd.len;rw[list_sort_plain];have ha:=qQ ho;refine j0<|ud ho rfl ?_;refine j0<|y7 ho rfl ?_;obtain⟨e1,ho1⟩:∃e1,(s.heap.update a<|kG λ_=>(List.toArray [])).get? a=Qa (v8 "list" (List.toArray []) e1):=#[_,yn ho<|λ_=>(List.toArray [])];refine j0<|seqEpoch_at ho1 rfl ?_;refine j0<|wpAny_newTuple ?_;refine j0<|ur ?_;refine v3 ?_;have ho6:(((s.heap.update a<|kG λ_=>(List.toArray [])).push<|v8 "tuple" vs.toArray 0).push<|v8 "list" (List.toArray []) 0).get? a=Qa (v8 "list" (List.toArray []) e1):=by rwa[Heap.get?_push_ne _ _ _ (by rw[size_push',Heap.size_update];exact qd<|kI ha),Heap.get?_push_ne _ _ _<|by rw[Heap.size_update];exact qd ha]
 have rd6:Rows (((s.heap.update a<|kG λ_=>(List.toArray [])).push<|v8 "tuple" vs.toArray 0).push<|v8 "list" (List.toArray []) 0) vs O:=rd.keeps λb o q=>by let⟨h1,h2⟩:=hk b o q;refine qC _<|qC _ ?_;rwa[kh _ _ _ _ h1]
 dsimp only;have hsz:vs.toArray.size=vs.length:=by simp
 by_cases h2:vs.toArray.size<2
 .rw[if_pos h2,if_pos h2];refine j0<|j3 ?_;rw[StateT.run_pure];refine j0<|j3 ?_;refine j0<|seqEpoch_at ho6 rfl ?_;refine j0<|y7 ho6 rfl ?_ (hsz2:=by rw[Array.size_map];show(pairsOf vs).size<=_;rw[pairsOf_size,w5];exact Q4 ‹_› rfl);simp only[bne_self_eq_false,if_false];refine j3 ?_;have hpm:ST.Pm O.length (qj vs.length).toArray:=by rw[ln];exact#[by simp,Array.Perm.refl _]
  have hp:=h (qj vs.length).toArray hpm<|a4h hs hpm (λi j hij hj=>by rw[show i=j by lia];exact zo _);have e:(qj vs.length).map (λi=>vs.getD i kE)=vs:=by refine List.ext_getElem (by simp) λi h1 h2=>?_;simp[h2]
  have e2:((vs.toArray.zip vs.toArray).map (·.2))=vs.toArray:=by apply wT.mp;simp[List.map_snd_zip]
  simp only[e]at hp;rwa[<-e2]at hp
 .rw[if_neg h2,if_neg h2];refine j0<|b4f (s:={s with heap:=_}) rd6 hs (by lia) ?_;have hq:=ST.h_sort (r:=rk O) (n:=vs.length) (by omega);refine j0 (v0 (kat_run (κ:=tuples' Qc) (ks:=vs) (vs:=vs) (s:={s with heap:=_}) (G:=λp s'=>s'={s with heap:=((s.heap.update a<|kG λ_=>(List.toArray [])).push<|v8 "tuple" vs.toArray 0).push<|v8 "list" (List.toArray []) 0}/\ST.Pm vs.length p/\ST.Up (rk O) p vs.length)
   (Q:=λst' s'=>∃p:Array Nat,arrOf st'=p.map (kas_item<|vs.toArray.zip vs.toArray)/\failedOf st'=Qb/\s'={s with heap:=((s.heap.update a<|kG λ_=>(List.toArray [])).push<|v8 "tuple" vs.toArray 0).push<|v8 "list" (List.toArray []) 0}/\ST.Pm vs.length p/\ST.Up (rk O) p vs.length)
   rfl (by omega) h64 (λp' st' s' a1 a2 a3 a4=>#[p',a2,a3,a4])
   (ST.wp_run (n:=vs.length) (lt:=ST.ltr<|rk O) (λi j C hi hj hC=>?_) _ hq.1 #[rfl,hq.2])) ?_ λ_ _ e=>e)
  .let⟨as,ri⟩:=rd6.at i hi;let⟨bs,rj⟩:=rd6.at j hj;have mi:O.getD i .none∈O:=by rw[jM,qN<|by omega];exact jm (by omega)
   have mj:O.getD j .none∈O:=by rw[jM,qN<|by omega];exact jm (by omega)
   refine c3f ri rj (hs _ mi) (hs _ mj) ?_;rwa[c2g hs (by omega)<|by omega]
  .rintro⟨⟨⟩,st'⟩s'⟨p,har,hf,rfl,hP,hU⟩;have hout:=kat_snds rfl har;refine j0<|seqEpoch_at ho6 rfl ?_;rw[hout];refine j0<|y7 ho6 rfl ?_ (hsz2:=by rw[qT,qF,qa,hP.size,w5];exact Q4 ‹_› rfl);rw[hf];simp only[bne_self_eq_false,if_false];rw[ln]at hP hU;exact j3<|h p hP<|a4h hs hP hU
def a5H{l:Addr}{n:Nat}{Q:List Value->Shared->Prop}(k:T="list"\/T="tuple")(f:s.heap.get? l=Qa o)(j:o.cls=.type T)(i:o.data=.seq vs.toArray n)(q:vs.length<=j5)(p:∀h',(U9 s.heap h')->s.heap.objs.size<=h'.objs.size->Q vs {s with heap:=h'}):wpAny (model prog w) A (collect<|.ref l) Q E s:=by
 refine j0<|wpAny_runValue<|we F.entry_proto_collect ?_;rw[jn F.plain_proto_collect _];refine j0<|v5 ?_;refine j3 #[yb vX _,we F.entry_list_iadd ?_];rw[jn vX _];have a:(s.heap.push {cls:=.type "list",data:=.seq ([]:T0m).toArray}).get? s.heap.objs.size=Qa {cls:=.type "list",data:=.seq ([]:T0m).toArray}:=qP _ rfl;have d:va {s with heap:=s.heap.push {cls:=.type "list",data:=.seq ([]:T0m).toArray}} (.ref l) T:=#[o,qC _ f,j];show wpAny _ A.in1 (jx (.ref s.heap.objs.size) (.ref l)<|.ref s.heap.objs.size) _ _ _;refine j0<|ym d ?_;rw[if_pos<|by obtain rfl|rfl:=k<;>simp];refine j0<|ud (qC _ f) i ?_;refine j0<|ud a rfl ?_;rw[if_neg<|by simp];refine j0<|y7 a rfl ?_ (jJ _) (by rw[Array.size_append,qT,qT,jj];lia);have c:=kY (kG (·++vs.toArray)) a rfl;refine j3 ?_;refine j0<|wpAny_load c<|j3 ?_;have e:(([]:T0m).toArray++vs.toArray).toList=vs:=by simp
 rw[e];refine p _ (λb r g=>?_) (by rw[Heap.size_update,size_push'];lia);rw[kh _ _ _ _<|qd<|qQ g];exact qC _ g
def b0K{l:Addr}{n:Nat}{Q:T0a}{R:Array Value->Prop}(hT:T="list"\/T="tuple")(ho:s.heap.get? l=Qa o)(hc:o.cls=.type T)(hd:o.data=.seq vs.toArray n)(h64:vs.length<64)(sort:∀ A'(E':T0a) s' a k P,s'.heap.get? a=Qa (v8 "list" vs.toArray k)->(∀b o,s.heap.get? b=Qa o->b≠a/\s'.heap.get? b=Qa o)->(∀out,R out->P (.done<|.ret .none) {s' with heap:=y6 s'.heap a vs out})->wpAny (model prog w) A' (Builtin.«list.sort» #[[.ref a],[]]) P E' s')(h:∀(a:Addr) h2 ep out,R out->(U9 s.heap h2)->s.heap.objs.size<=a->h2.get? a=Qa (v8 "list" out ep)->Q (.ref a) {s with heap:=h2}):wpAny (model prog w) A (call (.builtin "sorted") [.ref l]) Q E s:=by refine vL kind_sorted plain_sorted entry_sorted (args_sorted1 _) ?_;refine j0 (m:=checkCount "sorted" 1 1 _)<|j3 ?_;refine j0 (a5H hT ho hc hd (by rw[w5];exact Q4 ‹_› rfl) λh1 kp up=>?_);refine j0<|ur ?_ (by rw[w5];exact Q4 ‹_› rfl);have hoL:(h1.push<|v8 "list" vs.toArray 0).get? h1.objs.size=Qa (v8 "list" vs.toArray 0):=qP _ rfl;have keep:∀b o,s.heap.get? b=Qa o->b≠h1.objs.size/\(h1.push<|v8 "list" vs.toArray 0).get? b=Qa o:=λb o q=>#[qd<|qQ<|kp _ _ q,qC _<|kp _ _ q];refine j0<|v3<|wb slot_list_sort #[_,hoL,rfl] entry_list_sort (sort _ _ {s with heap:=h1.push<|v8 "list" vs.toArray 0} _ 0 _ hoL keep λout hR=>#[_,rfl,?_]) (args_list_sort _);obtain⟨e1,ho1⟩:∃e1,((h1.push<|v8 "list" vs.toArray 0).update h1.objs.size<|kG λ_=>(List.toArray [])).get? h1.objs.size=Qa (v8 "list" (List.toArray []) e1):=#[_,yn hoL<|λ_=>(List.toArray [])];have hz:=qQ ho1;have ho6:=qC (v8 "list" (List.toArray []) 0)<|qC (v8 "tuple" vs.toArray 0) ho1;obtain⟨e2,ho2⟩:∃e2,(y6 (h1.push<|v8 "list" vs.toArray 0) h1.objs.size vs out).get? h1.objs.size=Qa (v8 "list" out e2):=#[_,yn ho6<|λ_=>out];refine j3 #[_,rfl,h _ _ e2 out hR (λb o q=>?_) up ho2];let⟨hb,hq⟩:=keep b o q;unfold y6;rw[kh _ _ _ _ hb];refine qC _<|qC _ ?_;rwa[kh _ _ _ _ hb]
end L2.L3
namespace L2.L3
open PySem PySem.W PyProof.Rows
noncomputable def a3H:List q8->Option (List Bool)|[]=>Qa []|.int _::r=>(a3H r).map (Qc::·)|.str _::r=>(a3H r).map (Qd::·)|_=>Qb
def c7v:q8->Option (List Bool)|.tuple a=>a3H a|_=>Qb
def a8Q(O:T0l):Option q8:=match O with|[.tuple Y]=>(match c7v (Y.headD<|.tuple [.int 0])with|some (k::g)=>if Y.all (fN (k::g))&&decide (Y.length<64)then Qa (.list<|a2W Y)else Qb|_=>Qb)|_=>Qb
section
variable{U:List (Option V)}
theorem b2x(I:Inv X B U H s):∀{Y:List V}{O:T0l}{us:T0m},RepAll X.K H Y O->bJ Y us->Rows s.heap us O|_,_,_,.nil,.nil=>.nil|_,_,_,.cons r rr,.cons t tt=>by let⟨b,a⟩:=r.reads I t;exact .cons a<|b2x I rr tt
theorem RepAll.at{K:qB}{G:Hp}:∀{vs:List V}{O:T0l},RepAll K G vs O->∀i,i<vs.length->Rep K G (vs.getD i .non) (O.getD i .none)|_,_,.nil,i,h=>by simp at h|_,_,.cons r rr,0,_=>r|_,_,.cons r rr,i+1,h=>RepAll.at rr i (by simpa using h)
theorem RepAll.len{K:qB}{G:Hp}:∀{vs:List V}{O:T0l},RepAll K G vs O->vs.length=O.length|_,_,.nil=>rfl|_,_,.cons _ rr=>by simp[RepAll.len rr]
theorem RepAll.pick{K:qB}{G:Hp}{vs:List V}{O:T0l}(r:RepAll K G vs O):∀p:List Nat,(∀i∈p,i<vs.length)->RepAll K G (p.map λi=>vs.getD i .non) (p.map λi=>O.getD i .none)|[],_=>.nil|i::p,h=>.cons (r.at i<|h i<|by simp) (RepAll.pick r p λj a=>h j<|qG _ a)
theorem bJ.at':∀{vs:List V}{us:T0m},bJ vs us->∀i,i<vs.length->RelV (vs.getD i .non) (us.getD i .none)|_,_,.nil,i,h=>by simp at h|_,_,.cons r rr,0,_=>r|_,_,.cons r rr,i+1,h=>bJ.at' rr i (by simpa using h)
theorem bJ.pick{vs:List V}{us:T0m}(r:bJ vs us):∀p:List Nat,(∀i∈p,i<vs.length)->bJ (p.map λi=>vs.getD i .non) (p.map λi=>us.getD i .none)|[],_=>.nil|i::p,h=>.cons (bJ.at' r i<|h i<|by simp) (bJ.pick r p λj a=>h j<|qG _ a)
def b3W(I:Inv X B U H s){p:Addr}(h:SqL X.K H p vs\/SqT X.K H p vs):∃(its:T0m)(T:String)(o:Obj)(n:Nat),(T="list"\/T="tuple")/\s.heap.get? p=Qa o/\o.cls=.type T/\o.data=.seq its.toArray n/\bJ vs its:=by
 obtain h|h:=h;.let⟨its,a,e,f⟩:=I.list h;let⟨o,b,d,n,c⟩:=e.isList;exact#[its,"list",o,n,.inl rfl,b,d,c,a]
 .let⟨its,a,⟨o,b,d,n,c⟩,f⟩:=I.tuple h;exact#[its,"tuple",o,n,.inr rfl,b,d,c,a]
def a8p:pC X (.builtin "sorted") (λY H Q=>∃(p:Addr)(vs:List V)(O:T0l)(k:Bool)(g:List Bool),Y=[.ref p]/\SqT X.K H p vs/\RepAll X.K H vs O/\(∀d∈O,fN (k::g) d=Qc)/\O.length<64/\∀ l(b:T0t),H l=Qb->(∀i∈b,i<vs.length)->(b.map λi=>O.getD i .none)=a2W O->Q (.ref l) (upd H l<|.lst<|b.map λi=>vs.getD i .non)):=by
 rintro B s U H Y us Q I r⟨p,vs,O,k,g,e,E,r2,D,T,q⟩;subst e;let⟨u,rfl,A⟩:=vals1 r;cases A;let⟨f,j,⟨o,F,M,n,L⟩,t⟩:=I.tuple E;have l1:=r2.len;have l2:=j.length;have rd:=b2x I r2 j;refine b0K (R:=λc=>∃b:List Nat,(∀i∈b,i<vs.length)/\b.length=O.length/\(b.map λi=>O.getD i q8.none)=a2W O/\c=(b.map λi=>f.getD i kE).toArray) (.inr rfl) F M L (by omega) (λA' E' s' a k' P N keep S=>a4o N rd keep D (by omega) λb z w=>S _ #[b.toList,λi J=>?_,by rw[qa];exact z.size,w,rfl]) (λa h2 ep c⟨b,y,G,w,v⟩C t g=>?_);.have:=(Array.perm_iff_toList_perm.mp z.perm).mem_iff.mp J;simp at this;lia
 .subst v;have K:=I.hok.fresh t;refine#[.ref a,_,I.laid (t':=s.toks) C t ?_,rfl,q _ b K y w];refine#[?_,b.map λi=>f.getD i kE,ep,bJ.pick j _ y,?_];.rw[qF,G];exact jg (xQ<|by exact Q4 ‹_› rfl)
  .rw[g]
end
def b2q O d(h:a8Q O=Qa d):CallD X (.builtin "sorted") O d:=by
 unfold a8Q at h;split at h
 .rename_i Y;split at h
  .rename_i k g e;split at h;.rename_i a;rw[qD]at a;cases(qA h);exact#[_,a8p,λp G H Q s r q=>by cases r with|cons r c=>cases c;cases r with|tuple i r=>exact#[_,_,Y,k,g,rfl,uD s i,r.mono s,qu.mp a.1,of_decide_eq_true a.2,λl f b j o=>q _ _ _ (.put s b)<|.list (.of aK)<|by rw[<-o];exact(r.pick f j).mono (Grow.put s b).gg]]
   .cases h
  .cases h
 .cases h
def a3E{k:Bool}(f:∀d∈O,fN (k::g) d=Qc)(c:O.length<64):a8Q [.tuple O]=Qa (.list<|a2W O):=by cases O with|nil=>rfl|cons x Y=>
  have j:∀(g:List Bool)(a:T0l),iU g a=Qc->a3H a=Qa g:=by intro g;induction g with|nil=>intro a h;rw[nS h];rfl|cons b g e=>intro a h;cases b with|true=>let⟨i,r,rfl,h⟩:=sig_int h;simp[a3H,e r h]|false=>let⟨i,r,rfl,h⟩:=sig_str h;simp[a3H,e r h]
  let⟨a,rfl,o⟩:=mG<|f x (by simp);show(match a3H a with|some (k::g)=>_|_=>_)=_;rw[j _ _ o];exact if_pos (by rw[qD];exact#[qu.mpr f,decide_eq_true c])
end L2.L3
namespace L2.L3
open PySem PySem.Spec PyProof.Rows
noncomputable def iv(p:Int×Int)(x:Int):Int:=if p.1<=x/\x<p.2 then 1 else 0
end L2.L3
namespace L2.L3
open PySem PySem.W PyProof.Rows
section
variable{x:Str}
def dfE(g:q8->q8->Option q8)(fa fb:EF):EF:=λZ=>match fa Z,fb Z with|some (.ok x),Qa (.ok y)=>lft (g x y)|_,_=>Qb
def b1E(i:Nat)(fa:EF):SF:=λZ=>match Z[i]? with|some (.lst O)=>bns (fa Z) Z λd=>(match a3J d with|some es=>if bN (O.length+es.length)then Qa (.nx<|Z.set i<|.lst<|O++es)else Qb|none=>Qb)|_=>Qb
def c5R(K:qB):V->List V->Hp->VK->Prop:=λx vs H Q=>∃l b Y zs,x=.ref l/\vs=[.ref b]/\H l=Qa (.lst Y)/\(SqL K H b zs\/SqT K H b zs)/\Y.length+zs.length<=j5/\Q .non (upd H l<|.lst<|Y++zs)
def c0C:MtM X "list.extend" (c5R X.K):=by
 rintro B s U H x G v J Q I j k⟨l,b,Y,E,rfl,rfl,i,D,L,q⟩;cases j;let⟨u,rfl,p⟩:=k.one;cases p;let⟨z,c,n,r,M,e⟩:=I.lstM i;let⟨a,T,o,K,C,g,A,y,r2⟩:=b3W I D;have t:=r2.length;have w:=r.length;have f:c.toArray.size+a.toArray.size<=j5:=by rw[qT,qT];lia
 have d:¬(!c.toArray.isEmpty&&zP (c.toArray.size+a.toArray.size))=true:=by rw[a9t f,Bool.and_false];exact qg
 refine wb F.slot_list_extend #[_,e,rfl] F.entry_list_extend ?_ (F.args_list_extend_2 _ _);show wpAny _ _ (jx (.ref l) (.ref b) .none) _ _ s;refine j0<|ym (T:=T) #[o,g,A] ?_;rw[if_pos<|by obtain rfl|rfl:=C<;>simp];refine j0<|ud g y ?_;refine j0<|ud e rfl ?_;rw[if_neg d];refine j0<|y7 e rfl ?_ (by rw[qT];lia) (by rw[Array.size_append];exact Q2 ‹_› rfl);refine j3 #[_,rfl,.non,_,I.lset (its':=c++a) (t':=s.toks) i e (by simp) (r.append r2) ?_,rfl,q];rw[qY];omega
def a0X i(h:DE X e fa)(u:U0 X i x:=by exact U1)(g:U8 X (.Name x p) "extend":=by rfl)(k:U4 X cp (e::[]):=by rfl)(f:(ap.endLine==cp.line)=true:=by rfl)(j:U5 X e []:=by rfl)(c:U6 X cp []:=by rfl)(y:wa (.Call (.Attribute (.Name x p) "extend" ap) [e] [] cp) Qb pos.line X.env=pure false:=by rfl):DS X (.Expr (.Call (.Attribute (.Name x p) "extend" ap) [e] [] cp) pos) (b1E i fa):=#[λB s U H D I⟨Z,o,H0,Gz,G,w,R,q⟩=>xW (b2I vH PySem.F.slot_list_extend PySem.F.type_list_extend c0C (dF u.1 u.2 u.3 u.4) (dR h.run gE j) g k f j c) y B s U H D I (by
  unfold b1E at w;split at w
  .rename_i O C;let⟨a,Y,F,E,h2,T,r⟩:=R.own C;refine#[.ref a,F,.inl #[rfl,Y,.of E],sE R w q λd v Q H1 z P J t K=>?_];split at t
   .rename_i es N;split at t;.rename_i L;cases(qA t);let⟨b,S,rfl,M,A⟩:=sO z.sub N J;exact#[a,_,Y,_,rfl,rfl,z.hh.lst E,M,by rw[r.length,A.length];exact fZ L,K Q _ U (.refl _)<|P.wrote C F<|(r.mono z.gg).append A]
    .cases t
   .cases t
  .cases w)]
end
end L2.L3
namespace L2.L3
open PySem PySem.Spec PySem.Calls PyProof.Rows
section
variable{K:qB}
end
structure BM(mg:T0d)(base:Heap):Prop where ex:∃bm ob,mg "__builtins__"=Qa (.ref bm)/\bm≠yy/\bm≠j6/\base.get? bm=Qa ob/\ob.cls=.type "module"/\ob.dict=Qa yy/\ob.data=.plain
def a3w i j t u(v:Value):∀ n(l:T0m),l.length<=n->uf l->uf (l++[.int i t,.int j u,v]):=by intro n;induction n with
 |zero=>intro l b _;cases l with|nil=>trivial|cons a l=>cases b
 |succ n c=>
  intro l b h;unfold uf at h;split at h;.trivial
  .rename_i rest;have d:rest.length<=n:=by simp only[qO]at b;lia
   exact c rest d h
  .cases h
def a7h(l:T0m) i j t u(v:Value)(h:uf l):uf (l++[.int i t,.int j u,v]):=a3w i j t u v l.length l (qM _) h
theorem a5g{p:Pos}{c e:Value} i j t u:∀(l:T0m),uf l->uu p (l++[.int i t,.int j u,c])=Qa e->uu p l=Qa e\/e=c
 |[],_,h=>by
  have h:(if(i==(p.line:Int)&&j==(p.col:Int))=Qc then Qa c else Qb)=Qa e:=h;split at h;.exact .inr (qA h).symm
  .cases h|.int a _::.int b _::d::r,ht,h=>by
  have h:(if(a==(p.line:Int)&&b==(p.col:Int))=Qc then Qa d else uu p (r++[.int i t,.int j u,c]))=Qa e:=h;show(if(a==(p.line:Int)&&b==(p.col:Int))=Qc then Qa d else uu p r)=Qa e\/_;split at h;.rename_i f;rw[if_pos f];exact .inl h
  .rename_i f;rw[if_neg f];exact a5g i j t u r ht h
def a9I{x:Str}{cl:T0f}{c P:Addr}{i:Expr}(hx:x∈eZ)(ht:jk X.K x=Qa (c,P))(hc:X.env.code=.ref c)(hq:X.env.qual++"<lambda>"=lamQ x)(C:kO X.K c P=Qc)(M:BM X.mg X.base)(S:defaultsOf params X.env=([],[]))(T:u7 scope X.env=pure cl)(I:Inv X B U H s)(R:RepS X.K H0 Gz G H U Z)(h:∀f a ct pm H' s',Inv X B U H' s'->Grow G H G H'->s'.heap.get? f=Qa (PySem.W.kla_obj "<lambda>" (lamQ x) params i scope cl pm a ct)->H' f=Qb->s.heap.objs.size<=f->H' a=Qa (cdO a<|lamQ x)->Q (.ref f) s'):wpAny (model X.prog X.w) X.A (eval (.Lambda params i scope pos) X.env) Q E s:=by
 refine PySem.W.kla_eval S ?_;rw[hq];have A:=R.tab.1 x hx c P ht;generalize lamQ x=q at A h⊢;let⟨D,g,hT,hA⟩:=A;have r:=I.hok P _ g;have C0:=PySem.W.codeHd_of_K I.kIn C;have hg:=I.mod.glob.keeps I.bk;have hgP:j6≠P:=λz=>by let⟨o,es,ep,e,hd,_⟩:=hg;rw[z,r]at e;cases e;cases hd
 have hB:s.heap.BuiltinsAt X.mg P:=by let⟨bm,ob,b1,b2,b3,b4,b5,b6,b7⟩:=M.ex;refine#[bm,ob,b1,b2,b3,λz=>?_,I.bk _ _ b4,b5,b6,b7];have e:=I.bk _ _ b4;rw[z,r]at e;cases e;cases b5
 cases hm:uu pos D.toList with|some cv=>let⟨a,rfl,hc'⟩:=hA pos cv hm;exact PySem.W.kla_makeFunctionHit T I.ok.glob hg hc C0 r hT hm hB λct h' tk K sz=>h _ a ct _ H _ (I.kept λb o e=>qC _<|K b o e) (.refl R.sub) (qP _ rfl) (I.hok.fresh sz) sz hc'|none=>
  refine PySem.W.kla_makeFunction T I.ok.glob hg hc C0 r hT hm hgP hB λa ct h' tk ex ge lt rc tb=>?_;have hf:=I.hok.fresh ge;have cP:a≠P:=λz=>by rw[z,g]at hf;cases hf
  have lP:P≠X.env.locals:=λz=>by have:=I.free;rw[<-z,g]at this;cases this--the heap beside the table
  have K:∀b o,b≠P->s.heap.get? b=Qa o->(h'.push<|PySem.W.kla_obj "<lambda>" q params i scope cl ((X.mg "__name__").getD .none) a ct).get? b=Qa o:=λb o n e=>qC _<|ex b o n e;have F:=qk ge<|jg lt;have j:∀b,b≠P->b≠a->upd (upd H P<|.tbl (q,D++(List.toArray [v7 pos.line,v7 pos.col,.ref a]))) a (cdO a<|q) b=H b:=λb n1 n2=>by rw[aF n2,aF n1]
  have HP:upd (upd H P<|.tbl (q,D++(List.toArray [v7 pos.line,v7 pos.col,.ref a]))) a (cdO a<|q) P=Qa (.tbl (q,D++(List.toArray [v7 pos.line,v7 pos.col,.ref a]))):=by rw[aF<|jL cP,aK]
  have nb:∀b o,s.heap.get? b=Qa o->b≠a:=λb o e=>qd<|qX (qQ e) ge;have v:∀b o,H b=Qa o->b≠a:=λb o e z=>by rw[z,hf]at e;cases e
  have nP:∀b,H b=Qb->b≠P:=λb e z=>by rw[z,g]at e;cases e
  have hsm:Sm H (upd (upd H P<|.tbl (q,D++(List.toArray [v7 pos.line,v7 pos.col,.ref a]))) a<|cdO a<|q):=by
   refine#[λb o e n=>?_,λb p e=>?_,λP' q' t=>?_];.rwa[j b (λz=>by rw[z,g]at e;cases e;exact n _ rfl)<|v b o e]
   .by_cases z:b=P;.rw[z];exact#[_,HP]
    .exact#[p,by rwa[j b z<|v b _ e]]
   .let⟨ps',g1,g2,g3⟩:=t;have N:∀d o,H d=Qa (cdO d o)->upd (upd H P<|.tbl (q,D++(List.toArray [v7 pos.line,v7 pos.col,.ref a]))) a (cdO a<|q) d=Qa (cdO d o):=λd o e=>by rwa[j d (λz=>by rw[z,g]at e;unfold cdO at e;cases e)<|v d _ e]
    by_cases z:P'=P
    .subst z;rw[g]at g1;cases g1;refine#[_,HP,?_,λp cv e=>?_];.rw[vo];exact a7h _ _ _ _ _ _ g2
     .rw[vo]at e;obtain e|rfl:=a5g _ _ _ _ _ g2 e;.let⟨d,e1,L⟩:=g3 p cv e;exact#[d,e1,N d _ L]
      .exact#[a,rfl,aK]
    .refine#[ps',by rwa[j P' z<|v P' _ g1],g2,λp cv e=>?_];let⟨d,e1,L⟩:=g3 p cv e;exact#[d,e1,N d _ L]
  have gw:Grow G H G (upd (upd H P<|.tbl (q,D++(List.toArray [v7 pos.line,v7 pos.col,.ref a]))) a<|cdO a<|q):=by refine#[.refl _,hsm,λb o e=>?_,λ_ e _=>e,id];rw[j b (λz=>by have:=R.sub b o e;rw[z,g]at this;cases this;exact R.tab.2 _ _ e)<|v b o<|R.sub b o e];exact R.sub b o e
  refine h h'.objs.size a ct _ _ _ (I.step (ch:=[]) (g':=s.gens) (d':=s.drawn) (t':=tk) (h':=h'.push<|PySem.W.kla_obj "<lambda>" q params i scope cl ((X.mg "__name__").getD .none) a ct) (λ_ z=>nomatch z) (λb o _ _ _ e n=>K b o (nP b n) e) (λb o _ _ _ e n=>#[o.slots,K b o (nP b n) e])
   (λb o _ e n=>by rwa[j b (nP b n)<|nb b o e]) (λb o _ e=>?_) (λb Y e=>by rwa[j b (dI e g<|by nofun)<|v b _ e]) (λb o u e=>by rwa[j b (dI e g<|by nofun)<|v b _ e]) (λb p e=>?_) (λm hn=>(hn.extBut ex<|jL lP).push _) (λb u e=>?_) I.bare) gw (qP _ rfl) ?_ F aK
  .by_cases z:b=P;.rw[z];exact#[_,qC _ tb]
   .exact#[o,K b o z e]
  .by_cases z:b=P;.subst z;rw[g]at e;cases e;exact#[(List.toArray [v7 pos.line,v7 pos.col,.ref a]),HP]
   .exact#[(List.toArray []),by rw[j b z<|v b _ e,e];simp]
  .by_cases z:b=a;.subst z;rw[aK]at e;cases e;let⟨c2,o2,vs,t,e1,L,e3,e4⟩:=rc;cases e1;exact#[#[_,o2,vs,t,rfl,qC _ L,e3,e4],#[o2,qC _ L],by rintro h1 h2⟨c3,o3,vs3,t3,g1,g2,g3,g4⟩k;cases g1;exact#[_,o3,vs3,t3,rfl,k _ g2,g3,g4]]
   .by_cases z2:b=P;.subst z2;rw[HP]at e;cases e;exact qC _ tb
    .rw[j b z2 z]at e;refine(I.hok b u e).stay (λJ u' hb' w=>K J u' (λy=>?_) w) (λJ w=>by rw[j J (dI w g<|by nofun)<|v J _ w];exact w) λJ Y w=>by rw[j J (dI w g<|by nofun)<|v J _ w];exact w
     obtain y'|y':=hb';.exact z2 (y'.symm.trans y)
     .rw[y,g]at y';cases y'
  .have:=kc lt;rw[j _ (λz=>absurd (qQ r)<|by rw[<-z];exact Nat.not_lt_of_le F) this];exact I.hok.fresh F
end L2.L3
namespace L2.L3
open PySem PySem.W PyProof.Rows PySem.Calls
end L2.L3
namespace L2.L3
open PySem PySem.Spec PySem.Calls PyProof.Rows
section
variable{K:qB}{x:Str}
end
theorem a9F{f:Type}:∀{l:List (Addr×f)}{a:Addr}{b:f},l.lookup a=Qa b->(a,b)∈l|[],_,_,e=>by cases e|(c,y)::r,a,b,e=>by rw[kP]at e;cases d:a==c with|true=>rw[d]at e;cases e;rw[eq_of_beq d];exact .head _|false=>rw[d]at e;exact .tail _<|a9F e
variable{ts:List (Addr×Str)}
def b4G{K:qB}{mb:T0d}{fa:Addr}{x:Str}{F:List q8->Mm q8}{s1z:Shared}{vs:T0m}{ns:T0s}(KX:K.In s1z.heap)(hns:s1z.heap.Ns j6 mg)(hb:s1z.heap.Ns yy mb)(hbb:∀x:Str,x≠"__name__"->mb x=wn x)(hlim:s1z.heap.NoLimit)(hg:s1z.gens=(List.toArray []))(ha:s1z.heap.get? a=Qa {cls:=.type "list",data:=.seq vs.toArray})(hi:IntsAre vs ns)(hl:ns.length<=j5)(hr:Room k QF)(hbm:BM mg s1z.heap)(htab:∀T q,ts.lookup T=Qa q->s1z.heap.get? T=Qa (ve<|List.toArray [])/\isCodeTable s1z.heap T/\K.lookup T=Qb)(hts:∀x∈eZ,∀c T,jk K x=Qa (c,T)->ts.lookup T=Qa (lamQ x))(Fn:∀base:Heap,K.In base->base.Ns j6 mg->BM mg base->FnOk P w K mg base CX0 k fa fd [x] (spD K λO d=>F O=Qa (.ok d)))(hbind:∀ s u,BindsTo s fd #[[u],[]] [(x,u)])(hF:F [.list<|ns.map .int]=Qa (.ok<|.bool Qc)):wm (model P w) QF (.call (.ref fa) #[[.ref a],[]]) (λr s'=>r=.ok (.ret<|.bool Qc)/\OldK s1z.heap s'.heap/\s'.os=s1z.os/\uc s'.gens) s1z:=by
 have rv:=a5Q hi;have lenV:=hi.length;have core:∀S:Hp,c8h S->SqL K S a (ns.map V.int)->HOk P w S s1z.heap->(∀b,S b≠Qb->b=a)->(S a≠Qb->K.lookup a=Qb)->wm (model P w) QF (.call (.ref fa) #[[.ref a],[]]) (λr s'=>r=.ok (.ret<|.bool Qc)/\OldK s1z.heap s'.heap/\s'.os=s1z.os/\uc s'.gens) s1z:=by
  intro S hO hS hok hA hK;generalize hH:(λb=>match ts.lookup b with|some q=>Qa (HO.tbl (q,(List.toArray [])))|none=>S b:Hp)=H;have H1:∀b q,ts.lookup b=Qa q->H b=Qa (.tbl (q,(List.toArray []))):=λb q e=>by rw[<-hH];simp[e]
  have H2:∀b,ts.lookup b=Qb->H b=S b:=λb e=>by rw[<-hH];simp[e]
  have ta:∀b,S b≠Qb->ts.lookup b=none:=λb e=>by cases q:ts.lookup b with|none=>rfl|some q'=>have z:=hA b e;subst z;have:=(htab _ _ q).1;rw[ha]at this;cases this
  have SH:aW S H:=λb o e=>by rwa[H2 b<|ta b<|by rw[e];simp]
  have hokH:HOk P w H s1z.heap:=λb u e=>by cases q:ts.lookup b with|some q'=>rw[H1 b q' q]at e;cases e;exact(htab _ _ q).1|none=>rw[H2 b q]at e;exact(hok b u e).stay (λ_ _ _ z=>z) (λb' z=>SH b' _ z) λb' Y z=>SH b' _ z
  have free:∀{b:Addr}{o:Obj},s1z.heap.get? b=Qa o->o≠ve (List.toArray [])->o≠{cls:=.type "list",data:=.seq vs.toArray}->H b=none:=λ{b o}e n1 n2=>by cases q:ts.lookup b with|some q'=>exact absurd (qA<|e.symm.trans (htab _ _ q).1) n1|none=>rw[H2 b q];cases z:S b with|none=>rfl|some u=>have y:=hA b (by rw[z];simp);subst y;exact absurd (qA<|e.symm.trans ha) n2
  have base_of:∀{b:Addr}{o:Obj},s1z.heap.get? b=Qa o->H b=Qb->(a5C s1z.heap H).get? b=Qa o:=λe n=>b7y e n;have nsK:∀{b:Addr}{m:T0d},s1z.heap.Ns b m->(a5C s1z.heap H).Ns b m:=λ{b m}⟨o,es,ep,e,d,r⟩=>#[o,es,ep,base_of e (free e (λz=>by rw[z]at d;cases d) λz=>by rw[z]at d;cases d),d,r];have hKb:K.In (a5C s1z.heap H):=λb o e=>base_of (KX b o e) (by cases q:ts.lookup b with|some q'=>rw[(htab _ _ q).2.2]at e;cases e|none=>rw[H2 b q];cases z:S b with|none=>rfl|some u=>have y:=hA b (by rw[z];simp);subst y;rw[hK<|by rw[z];simp]at e;cases e);have hM:Mod K mg (a5C s1z.heap H):=#[hKb,nsK hns,#[mb,nsK hb,hbb],let⟨mc,h1,h2⟩:=hlim;#[mc,nsK h1,h2]];have hB:BM mg (a5C s1z.heap H):=by let⟨bm,ob,b1,b2,b3,b4,b5,b6,b7⟩:=hbm.ex;exact#[bm,ob,b1,b2,b3,base_of b4 (free b4 (λz=>by rw[z]at b5;cases b5) λz=>by rw[z]at b5;injection b5 with b5;exact absurd b5<|by decide),b5,b6,b7]
  have e0:Env0 P w K mg (a5C s1z.heap H) QF [] s1z H:=#[rfl,hM,λb o e=>c0l e,Nat.le_of_eq<|b4K _ _,trivial,λb hb=>absurd (show b∈([]:T0o)from hb) (by simp),hokH,.of_eq hg];have tabs:oZ K S H:=#[λx hx c T e=>#[(List.toArray []),H1 _ _<|hts x hx c T e,trivial,λpos cv e=>by cases e],λb ps e=>by obtain z|⟨o,Y,z⟩:=hO b<;>rw[z]at e<;>cases e];refine wf ((Fn _ hKb (nsK hns) hB).run QF [] s1z H #[[.ref a],[]] [.ref a] [.ref a] (λv _=>v=.bl Qc) E0 hr e0 (hbind s1z<|.ref a) (.cons rfl .nil) #[S,[.list<|ns.map .int],.bool Qc,#[SH,tabs],.cons (.list hS<|a0H ns) .nil,hF,λv G' H' _ r=>by cases r;rfl]) λr s' h=>?_;cases r with|error e=>exact qy h|ok fl=>cases fl with|next=>exact qy h|brk=>exact qy h|cont=>exact qy h|ret u=>let⟨v,H',os,bare,un,hok',r',q⟩:=h;have q':=q;subst q';obtain rfl:u=jy true:=r';refine#[rfl,#[λb o e=>?_,λb o e=>un.there b o e<|by simp],os,bare];cases y:ts.lookup b with|some q2=>let⟨t1,t2,t3⟩:=htab _ _ y;rw[e]at t1;cases t1;let⟨more,em⟩:=un.tbls b _<|H1 b q2 y;exact .inr (.inl #[t2,rfl,(List.toArray []),more,rfl,hok' b _ em])|none=>cases q:S b with|none=>exact .inl (un.keep b o e (by rwa[H2 b y]) (by intro z;exact absurd (show b∈([]:T0o)from z)<|by simp)<|by simp)|some u=>
      obtain z|⟨ob,Y,z⟩:=hO b;.rw[q]at z;cases z
      .have z2:=un.frzs b ob _<|SH b _ z;let⟨e1,_⟩:=hok b _ z;let⟨e2,_⟩:=hok' b _ z2;rw[e]at e1;cases e1;exact .inl e2
 cases hk:K.lookup a with|some o=>have e:=KX a o hk;rw[ha]at e;cases e;refine core (λ_=>Qb) (λ_=>.inl rfl) (.inr #[_,vs.toArray,_,hk,rfl,rfl,rfl,by rwa[qT,lenV],by simpa using rv]) (λb u z=>by have z':=z;cases z') (λb z=>absurd rfl z) λz=>absurd rfl z|none=>
  refine core (λb=>if b=a then Qa (.frz {cls:=.type "list",data:=.seq vs.toArray} (.lst<|ns.map V.int))else Qb) (λb=>?_) (.inl<|.inr #[{cls:=.type "list",data:=.seq vs.toArray},if_pos rfl]) (λb u z=>?_) (λb z=>?_) λ_=>hk
  .by_cases hb:b=a;.exact .inr #[_,_,if_pos hb]
   .exact .inl (if_neg hb)
  .by_cases hb:b=a;.have z':=(if_pos hb).symm.trans z;cases z';subst hb;exact#[ha,by rwa[qF],vs,_,rv,ha]
   .have z':=(if_neg hb).symm.trans z;cases z'
  .by_cases hb:b=a;.exact hb
   .exact absurd (if_neg hb) z
def walkL{l:PySem.W.OpenLaw}{q:Program}{g:T0q}{XP:(Str->Option Value)->Heap->Prop}{J:World->Heap->Prop}{d:DefRec}{K:Params->qB}{F:List q8->Mm q8}{x:Str}(ts:List (Addr×Str))(X:l.most=Qa 63)(A:d.params.defaults=[])(S:Room k QF)(hY:∀ w h,J w h->(K w.params).In h)(hT:∀ w h,J w h->∀p∈ts.map (·.1),h.get? p=Qa (ve<|List.toArray []))(C:∀w:World,∀p∈ts,(∃c,kO (K w.params) c p.1=Qc)/\(K w.params).lookup p.1=Qb)(t:∀w:World,∀x∈eZ,∀c T,jk (K w.params) x=Qa (c,T)->ts.lookup T=Qa (lamQ x))(Fn:∀ w(mg:T0d) fa h,(K w.params).In h->h.Ns j6 mg->mg d.name=Qa (.ref fa)->∃fd:wj,(∀ s u,BindsTo s fd #[[u],[]] [(x,u)])/\∀base:Heap,(K w.params).In base->base.Ns j6 mg->BM mg base->FnOk l.prog w (K w.params) mg base CX0 k fa fd [x] (spD (K w.params) λO d=>F O=Qa (.ok d)))(hF:∀ns:List Int,ns.length<=63->F [.list<|ns.map .int]=Qa (.ok<|.bool Qc)):PySem.W.WalkO q g XP J l.row.toRowW d [] (λf vs=>PySem.call f vs):=by
 refine Att.attach_call X A λw M r mg mb fa o pm cd doc a vs ns G R ho N P y j i b hg=>?_;have L:=hY w _ R;let⟨fd,hb,E⟩:=Fn w mg fa _ L G.T.g y;have D:BM mg r.heap:=by let⟨bm,ob,b1,b2,I,b4,b5,H⟩:=G.T.bmain;refine#[bm,ob,b1,b2,λz=>?_,I,b4,b5,H];let⟨o,es,ep,e,N,_⟩:=G.T.g;rw[z,e]at I;cases I;rw[N]at H;cases H
 refine b4G (ts:=ts) L G.T.g G.T.b G.T.builtins G.T.nolimit hg j i (qk b<|by decide) S D (λT q e=>?_) (t w) E hb<|hF ns b;have m:=a9F e;have Q:=hT w _ R T (kA (f:=(·.1)) m);let⟨⟨c,hc⟩,v⟩:=C w _ m;exact#[Q,((PySem.W.codeHd_of_K L hc).tab Q).isCodeTable,v]
def c2p(K:qB)(ts:List (Addr×Str))(x:Str):Bool:=match jk K x with|none=>Qc|some (_,T)=>ts.lookup T==Qa (lamQ x)
def lam_all{K:qB}(h:eZ.all (c2p K ts)=Qc):∀x∈eZ,∀c T,jk K x=Qa (c,T)->ts.lookup T=Qa (lamQ x):=λx a c T e=>by have:=qu.mp h x a;unfold c2p at this;rw[e]at this;exact eq_of_beq this
def all_cons{b:Type}{p:b->Prop}{a:b}{l:List b}(h:p a)(t:∀x∈l,p x):∀x∈a::l,p x:=List.forall_mem_cons.mpr #[h,t]
end L2.L3
namespace L2.L3
open PySem PySem.Spec PyProof.Rows
noncomputable def gr:List Mt->Option Int->List Mt|[],_=>[]|m::r,Qb=>m::gr r (Qa m.2.2)|m::r,Qa e=>if e<=m.2.1 then m::gr r (Qa m.2.2)else gr r (Qa e)
def c6s(kf:Mt->q8)(x:Mt):List Mt->List Mt|[]=>[x]|y::l=>if ltT (kf y) (kf x)then y::c6s kf x l else x::y::l
def c7u(kf:Mt->q8)(s:List Mt):List Mt:=s.foldr (c6s kf) []
section
variable{kf:Mt->q8}
end
def b4D{fb:SF}(b:tgD t Z d=Qa ρ1)(a:fb ρ1=Qa (.nx ρ2)):lM t fb (d::O) Z=lM t fb O ρ2:=by rw[lM,b];dsimp only;rw[a]
variable{nm:Str}{b z v:Int}{o:List Int}
section
variable{n:Nat}
end
section
variable{nm':Str}{b' z' v':Int}{n n':Nat}{o':T0s}
end
abbrev ov(x y:Mt):Prop:=max x.2.1 y.2.1<min x.2.2 y.2.2
section
variable{K:qB}{x:Str}
end
section
variable{a b:Expr}
end
end L2.L3
namespace L2.SX
open PySem PyProof.Rows
section
variable{K:Type}[DecidableEq K]{knd:KeyKind prog w K}
def a2R:entryFor table "dict.update.loop"=Qa Builtin.«dict.update.loop»:=entryFor_of_tree (by kernel_rfl)
def pM:plainId "dict.update.loop"=true:=by decide+kernel
def a7P:typeLookup (.type "list") "keys"=pure none:=am_miss_of_fast (by kernel_rfl)
def b4H{Y:Array Value}{n:Nat}{Q:Option Value->Shared->Prop}(hx:s.heap.get? a=Qa {cls:=.type "list",dict:=Qb,data:=.seq Y n,slots:=sl})(hA:A.handled=Qb)(h:∀h' tk,(U9 s.heap h')->Q Qb {s with heap:=h',toks:=tk}):wpAny (model prog w) A (getAttr? (.ref a) "keys") Q E s:=by
 let⟨hp,g,d,tk,os⟩:=s;have hT:∀tk',(#[hp,g,d,tk',os]:Shared).TypeIs (.ref a) "list":=λ_=>#[_,hx,rfl];have f1:=sub_AttributeError;have f3:=vV.lookup;have f4:=vV.bind<|.ref a;have f5:=am_list_getattr_none;have hmiss:=a7P;have hname:(["__module__","__name__","__qualname__","__doc__","__annotations__"]:T0q).contains "keys"=false:=by decide+kernel
 have hsz:("keys":Str).length+100<=j5:=by size_fits
 generalize("keys":Str)=name at hmiss hname hsz⊢;unfold getAttr? getAttrBy? getAttrBy;repeat(any_goals(first|assumption|exact hT _|((with_reducible show wpAny _ _ (call (vZ "list.__getattribute__") _ _) _ _ _);refine wv vV (hT _) am_entry_list_getattribute (F.args_list_getattribute_2 _ _) (meets_getattribute_miss_list a Y n sl name _ hmiss hname hsz) ⟨hx,hA,λh' tk' e hx'=>?_⟩)|wp_step))
 let⟨t',u',he⟩:=hx'.there;show wpAny _ _ (getattributeRaised _ _ _ _ _ _ _) _ _ _;unfold getattributeRaised;repeat(any_goals(first|assumption|wp_step))
 exact h _ _ hx'.keeps
end
section
variable{K:Type}[DecidableEq K]{knd:KeyKind prog w K}{R:Result->Shared->Prop}{wr:T0o}{G:Array uh->Array uh->Prop}{n:Nat}{P:Nat->Value->Prop}{St:Nat->Shared->Prop}
def b8s(W:WalksS prog w A.in1 I fp wr G n P St) D(y:D∉fp){h₀:Heap}(M:∀b∈wr,h₀.get? b=Qb)(hD:h₀.get? D=Qb) prs(hn:prs.length=n)(r:∀i v,P i v->∃t o x C,v=.ref t/\h₀.get? t=Qa o/\o.cls=.type "tuple"/\(∃m,o.data=.seq (List.toArray [x,C.2]) m)/\knd.is C.1 x=Qc/\prs[i]?=Qa C)(hsz:n<=j5):∀ m i s,n-i=m->i<=n->St i s->(U9 h₀ s.heap)->s.heap.DictOf knd D (merged []<|prs.take i)->(∀s',Moved (D::wr) G s s'->(U9 h₀ s'.heap)->s'.heap.DictOf knd D (merged [] prs)->R (.ok<|.ret .none) s')->wm (model prog w) A (.builtin "dict.update.loop" #[[.ref D,.ref I,v7 (i:Int),.none],[]]) R s:=by
 have nw:D∉wr:=λz=>y<|W.sub _ z;have up:∀b∈wr,b∈D::wr:=λb hb=>qG _ hb;have keep:∀{s s':Shared},Moved wr G s s'->(U9 h₀ s.heap)->∀b o,h₀.get? b=Qa o->s'.heap.get? b=Qa o:=λd k b o e=>d.heap b o (λz=>by rw[M b z]at e;cases e)<|k b o e;intro m;induction m with|zero=>
  intro i s hm hi F L g N;obtain rfl:i=n:=by lia
  refine we a2R ?_;rw[jn pM _];show wpAny _ A.in1 (yz (.ref I)>>=_) _ _ s;refine j0 (W.done s _ _ F λs' d=>?_);show wpAny _ _ (Builtin.Dict.addKeywords D []>>=_) _ _ _;refine j0<|j3<|j3<|N s' (d.mono up) (keep d L) ?_;rw[<-hn,List.take_length]at g;let⟨a,X,ep,S,Q⟩:=g;exact#[a,X,ep,d.heap D a nw S,Q]|succ m ih=>
  intro i s hm hi F L g N;have lt:i<n:=by lia
  refine we a2R ?_;rw[jn pM _];refine j0 (W.item i s _ _ lt F λv s' pv E d=>?_);let⟨t,o,x,C,rfl,ho,hc,⟨mm,hd⟩,hk,hp⟩:=r i v pv;have f:=keep d L;have g':s'.heap.DictOf knd D (merged []<|prs.take i):=by let⟨a,X,ep,S,Q⟩:=g;exact#[a,X,ep,d.heap D a nw S,Q]
  have hT:s'.TypeIs (.ref t) "tuple":=#[o,f t o ho,hc];refine j0<|v3<|j0<|wpAny_tryCatch ?_;refine j0<|ym hT ?_;rw[if_pos<|by decide];refine j0<|wpAny_seqItems (f t o ho) hd<|j3 ?_;have u:(merged []<|prs.take i).length<=j5:=by have:=merged_length_le ([]:List (K×Value))<|prs.take i;rw[jw]at this;simp at this;lia
  refine v3<|wpAny_dictSet_pairs hk g' (λh' g2 H=>?_) u;rw[<-merged_take_succ _ _ _ _ hp]at g2;refine j3 #[yb pM _,ih (i+1) _ (by lia) lt (W.frame _ s' _ _ E (ki _) λc j a e=>?_) (λb a e=>?_) g2 λJ p q T=>?_];.rwa[H.2 c (λz:c=D=>y<|z▸j)]
  .rw[H.2 b (λz:b=D=>by rw[z,hD]at e;cases e)];exact f b a e
  .refine N J (Moved.trans W.gtrans ((d.mono up).then_heap (ki _) λc a j e=>?_) p) q T;rwa[H.2 c (λz:c=D=>j<|by rw[z];exact qr)]
end
section
variable{K:Type}[DecidableEq K]{knd:KeyKind prog w K}
def dict_of{l:Addr}{n:Nat}{prs:List (K×Value)}(G:A.handled=Qb)(D:s.heap.get? l=Qa {cls:=.type "list",dict:=Qb,data:=.seq items n,slots:=sl})(R:prs.length=items.size)(f:∀(i:Nat) v,items[i]?=Qa v->∃t o x q,v=.ref t/\s.heap.get? t=Qa o/\o.cls=.type "tuple"/\(∃m,o.data=.seq (List.toArray [x,q.2]) m)/\knd.is q.1 x=Qc/\prs[i]?=Qa q)(hsz:prs.length<=j5)(h:∀ h' tk,h'.DictOf knd s.heap.objs.size (merged [] prs)->(U9 s.heap h')->Q (.ref s.heap.objs.size) {s with heap:=h',toks:=tk}):wpAny (model prog w) A (call (.type "dict") [.ref l]) Q E s:=by
 refine callType_codes (Q₁:=λobj d=>obj=.ref s.heap.objs.size/\d={s with heap:=s.heap.push {cls:=.type "dict",data:=.dict<|List.toArray []}}) F.kt_called_dict (F.kt_typeCall_dict_1 _) F.entry_dict_init (kt_code_dict_new _ #[rfl,rfl]) ?_;rintro obj d⟨rfl,rfl⟩;have a:(s.heap.push {cls:=.type "dict",data:=.dict<|List.toArray []}).DictOf knd s.heap.objs.size []:=Heap.DictOf.new s.heap;have c:(s.heap.push {cls:=.type "dict",data:=.dict<|List.toArray []}).get? l=Qa {cls:=.type "list",dict:=Qb,data:=.seq items n,slots:=sl}:=qC _ D;have S:va {s with heap:=s.heap.push {cls:=.type "dict",data:=.dict<|List.toArray []}} (.ref l) "list":=#[_,c,rfl];have lt:=qQ D;refine#[a.typeIs,F.args_dict_init_2 _ _,?_];refine j0 ?_;refine j0<|wpAny_notOrdered_dict a.typeIs ?_;refine j3 ?_;refine j0<|ym S ?_;rw[if_pos<|by decide];refine j0 (b4H (A:=A.in1.in1) c G λu J g=>?_);rw[if_pos<|by rfl];refine j0<|yk ?_;have I:u.IsList l items:=#[_,g _ _ c,rfl,n,rfl];refine j0<|yu I ?_;have ltD:=qQ<|g _ _<|qP _ rfl;have N:=qd<|zr lt ltD;have r:∀b o,s.heap.get? b=Qa o->(u.push {cls:=.type "list_iterator",data:=.fields<|List.toArray [.ref l,.int 0 0]}).get? b=Qa o:=λb o e=>qC _<|g b o<|qC _ e;refine j3 #[yb pM _,?_];refine b8s (knd:=knd) (A:=A.in1) ((Walks.list (A:=A.in1.in1) G u.objs.size l N items).toS) s.heap.objs.size ?_ (h₀:=s.heap) ?_ (zF<|qM _) prs R f (by lia) (items.size-0) 0 _ (by lia) (jJ _) #[#[_,qP _ rfl,rfl,rfl],I.push _] r ?_ ?_
 .intro z;obtain z|z:=qI.mp z;.exact absurd z (qd ltD)
  .rw[qf]at z;exact absurd z (kc lt)
 .intro b H;rw[qf]at H;subst H;exact zF (jg ltD)
 .let⟨M,es,ep,X,T⟩:=a;exact#[M,es,ep,qC _<|g _ _ X,T]
 .intro L p P g';let⟨h',y,C,j,k⟩:=L;obtain rfl:y=s.gens:=p.gens;obtain rfl:C=s.drawn:=p.drawn;obtain rfl:k=s.os:=p.os;exact#[rfl,h h' j g' P]
end
end L2.SX
namespace L2.L3
open PySem PySem.Spec PyProof.Rows
noncomputable def uG:q8->Option Key|.int i=>Qa (.inl i)|.str x=>Qa (.inr x)|_=>Qb
def a2h k:uG (hZ k)=Qa k:=by cases k<;>rfl
variable{k:Key}
def pT(h:uG d=Qa k):d=hZ k:=by
 unfold uG at h;split at h;.cases h;rfl
 .cases h;rfl
 .cases h
def yP:q8->Option (Key×q8)|.tuple [k,v]=>(uG k).map (·,v)|_=>Qb
def b6D{p:Key×q8}(h:yP d=Qa p):d=.tuple [hZ p.1,p.2]:=by
 unfold yP at h;split at h;.let⟨k,a,rfl⟩:=qK.mp h;rw[pT a]
 .cases h
def b7h(kvs:List (Key×q8)):q8:=.dict (kvs.map λp=>(hZ p.1,p.2))
def a6M(O:T0l):Option q8:=match O with
 |[.list Y]=>match lJ yP Y with|some kvs=>if decide (kvs.map (·.1)).Nodup&&decide (kvs.length<=1000)then Qa (b7h kvs)else Qb|none=>Qb
 |_=>Qb
def dO(k:Key):List (q8×q8)->Option q8|[]=>Qb|p::r=>if uG p.1=Qa k then Qa p.2 else dO k r
noncomputable def yQ(k:Key):List (Key×V)->Option V|[]=>Qb|p::r=>if p.1=k then Qa p.2 else yQ k r
section
variable{K:qB}
theorem xZ{k:Key}{d:q8}:∀{kvs:List (Key×V)}{D:List (q8×q8)},D.map (·.1)=kvs.map (λp=>hZ p.1)->RepAll K G (kvs.map (·.2)) (D.map (·.2))->dO k D=Qa d->∃v,yQ k kvs=Qa v/\Rep K G v d
 |[],[],_,_,h=>by cases h|[],_::_,e,_,_=>by simp at e|_::_,[],e,_,_=>by simp at e|q::kvs,p::D,e,.cons r t,h=>by
  rw[qE,qE,kl]at e;unfold dO at h;unfold yQ;rw[e.1,a2h]at h;by_cases c:q.1=k;.rw[if_pos<|by rw[c]]at h;rw[if_pos c];cases(qA h);exact#[_,rfl,r]
  .rw[if_neg<|λz=>c<|qA z]at h;rw[if_neg c];exact xZ e.2 t h
theorem a6y{k:Key}{v:V}:∀{kvs:List (Key×V)}{vs:List (Key×Value)},KV kvs vs->yQ k kvs=Qa v->∃u,y9 vs k=Qa u/\RelV v u
 |_,_,.nil,h=>by cases h|q::kvs,p::vs,.cons r t,h=>by
  unfold yQ at h;have e:y9 (p::vs) k=if p.1=k then Qa p.2 else y9 vs k:=by
   unfold y9;rw[kj];by_cases c:p.1=k;.rw[if_pos c];simp[c]
   .rw[if_neg c];simp[c]
  rw[e];by_cases c:q.1=k;.rw[if_pos c]at h;rw[if_pos<|r.1▸c];cases(qA h);exact#[_,rfl,r.2]
  .rw[if_neg c]at h;rw[if_neg<|λz=>c<|r.1.trans z];exact a6y t h
def pL(r:Rep K G v (hZ k)):v=kV k:=by cases k<;>(cases r;rfl)
end
section
variable{a:Expr}
def c0S{s:Shared}(I:Inv X B U H s):wt<s.heap.objs.size:=by have h:=(I.mod.glob.keeps I.bk).lt;exact zr (by decide) h
def b2Z{u:Value}(r:RelV (kV k) u):(cO P w).is k u=true:=by cases k with|inl i=>let⟨t,rfl⟩:=r;exact a2I P w i t|inr x=>let⟨t,rfl⟩:=r;exact a2H P w x t
def c7D:R2:=λx y H Q=>∃p kvs k v,x=.ref p/\y=kV k/\Rd H p (.dK kvs)/\yQ k kvs=Qa v/\Q v H
def c0N:IxR X c7D:=by
 intro a b B s U H x y v u Q I i g h o;let⟨p,d,k,z,rfl,rfl,t,A,q⟩:=h;cases i;let⟨E,F,D,j,e⟩:=(show eB X.prog X.w H s.heap p (.dK d)from t.ok I.hok);let⟨w,C,c⟩:=a6y j A;exact yt (x:=w) e.typeIs slot_dict_getitem.lookup
  (wpAny_getItem_of (Q:=λr f=>r=w/\EP X B U Q r f) (b2Z g) e.mapOf C #[rfl,z,H,I.tok _,c,q]) o
theorem b6p{B:T0b}{U:St}{H:Hp}{s:Shared}(I:Inv X B U H s):∀{ts:List V}{kvs:List (Key×V)}{its:T0m},Paired (λt b=>∃a,t=V.ref a/\SqT X.K H a [kV b.1,b.2]) ts kvs->bJ ts its->∃prs:List (Key×Value),KV kvs prs/\∀(i:Nat) v,its[i]?=Qa v->∃t o x b,v=.ref t/\s.heap.get? t=Qa o/\o.cls=.type "tuple"/\(∃m,o.data=.seq (List.toArray [x,b.2]) m)/\(cO X.prog X.w).is b.1 x=Qc/\prs[i]?=Qa b|_,_,_,.nil,.nil=>#[[],.nil,λi v e=>by simp at e]|_,_,_,.cons ⟨a,e,hq⟩ t,.cons r rs=>by let⟨prs,p,k⟩:=b6p I t rs;subst e;cases r;let⟨its,c,⟨o,f,j,n,g⟩,q⟩:=I.tuple hq;let⟨u,w,rfl,d,r2⟩:=vals2 c;rename_i b _ _ _;refine#[(b.1,w)::prs,.cons #[rfl,r2] p,λi v e=>?_];cases i with|zero=>simp at e;exact#[a,o,u,(b.1,w),e.symm,f,j,#[n,g],b2Z d,rfl]|succ i=>exact k i v (by simpa using e)
def c4k{vs:List (Key×Value)}(h:KV kvs vs):kvs.length=vs.length:=by have:=congrArg zm (a0R h).1;simpa using this
theorem a4e{F:α->β->Prop}:∀{l:List α}{m:List β},Paired F l m->l.length=m.length|_,_,.nil=>rfl|_,_,.cons _ t=>by simp[a4e t]
def a6Q(M:X.calm=Qc):pC X (.type "dict") (λY H Q=>∃(p:Addr)(ts:List V)(kvs:List (Key×V)),Y=[.ref p]/\SqL X.K H p ts/\Paired (λt(c:Key×V)=>∃a,t=V.ref a/\SqT X.K H a [kV c.1,c.2]) ts kvs/\(kvs.map (·.1)).Nodup/\kvs.length<=1000/\∀l,H l=Qb->Q (.ref l) (upd H l<|.dK kvs)):=by
 rintro B s U H Y N Q I r⟨p,ts,kvs,e,J,w,nd,hz,q⟩;subst e;let⟨u,rfl,A⟩:=vals1 r;cases A;let⟨F,k,⟨o,n,K,j,f,g⟩,_⟩:=I.list J;let⟨prs,c,G⟩:=b6p I w k;let⟨R,P,D,C⟩:=o;subst j f g;have L:=I.ok.hd M;have l1:=c4k c;have T:=a4e w;have S:=k.length;have b:=jg<|xQ (by omega);refine SX.dict_of (knd:=cO X.prog X.w) (prs:=prs) L K (by rw[qT];lia) (λi v e=>G i v<|by simpa using e) (by lia) λh' z y E=>?_;have d:(prs.map (·.1)).Nodup:=by rwa[<-(a0R c).1]
 rw[merged_nil_of_nodup prs d]at y;have big:=c0S I;have ne:=beq_eq_false_iff_ne.mpr<|kc big;exact#[.ref s.heap.objs.size,_,I.laid (t':=z) (a:=s.heap.objs.size) (o:=.dK kvs) E (qM _) #[b,ne,prs,c,y],rfl,q _ I.fresh]
theorem a1M{K:qB}{G:Hp}:∀{ts:List V}{Y:T0l}{ks:List (Key×q8)},RepAll K G ts Y->lJ yP Y=Qa ks->∃kvs:List (Key×V),Paired (λt(c:Key×V)=>∃a,t=V.ref a/\SqT K G a [kV c.1,c.2]) ts kvs/\kvs.map (·.1)=ks.map (·.1)/\RepAll K G (kvs.map (·.2)) (ks.map (·.2))
 |_,_,_,.nil,h=>by cases(qA h);exact#[[],.nil,rfl,.nil]|_,d::O,ks,.cons r t,h=>by
  unfold lJ at h;split at h;.cases h
  .rename_i q p;let⟨k,s,rfl⟩:=qK.mp h;let⟨kvs,j,i,g⟩:=a1M t s;rw[b6D p]at r;cases r with|tuple o b=>cases b with|cons f b=>cases b with|cons e b=>cases b;cases pL f;exact#[(q.1,_)::kvs,.cons #[_,rfl,o] j,by rw[qE,qE,i],.cons e g]
def c1n(hc:X.calm=Qc) O d(h:a6M O=Qa d):CallD X (.type "dict") O d:=by
 unfold a6M at h;split at h
 .split at h
  .rename_i Y ks e;split at h;.rename_i hh;rw[qD,decide_eq_true_eq,decide_eq_true_eq]at hh;cases(qA h);exact#[_,a6Q hc,λvs G H Q s r q=>by cases r with|cons r rr=>cases rr;cases r with|list hq r=>
      let⟨kvs,p1,p2,p3⟩:=a1M r e;have hl:kvs.length=ks.length:=by have:=congrArg zm p2;simpa using this
      refine#[_,_,kvs,rfl,s.seq hq,Paired.mapP p1 (by rintro a b⟨t,e1,e2⟩;exact#[t,e1,uD s e2]),by rw[p2];exact hh.1,by lia,λl hl=>?_];refine q _ _ _ (.put s hl) (.dict (.inl aK) ?_ ?_)
      .rw[qZ];have:ks.map ((λx=>x.1)∘λp:Key×q8=>(hZ p.1,p.2))=(ks.map (·.1)).map hZ:=by rw[qZ];rfl
       rw[this,<-p2,qZ];rfl
      .rw[qZ];exact p3.mono<|cW<|s.free hl]
   .cases h
  .cases h
 .cases h
def boot_dict:wn "dict"=Qa (.type "dict"):=by kernel_rfl
end
theorem RepAll.plain{K:qB}{G a:Hp}:∀{vs:List V}{O:T0l},O.all b0V=Qc->RepAll K G vs O->RepAll K a vs O|_,_,_,.nil=>.nil|_,_,h,.cons r t=>by rw[zi,qD]at h;exact .cons (r.plain h.1)<|RepAll.plain h.2 t
section
variable{cap:T0e}
end
noncomputable abbrev kL(m:Mt):q8:=.tuple [.int m.2.1,.int<|-m.2.2,.str m.1]
def c7P(s:List Mt):List Mt:=c7u kL s
abbrev Ly:=Mt×Nat
noncomputable def taken(P:List Ly)(m:Mt):List Int:=(P.filter λp=>decide (ov m p.1)).map λp=>(p.2:Int)
noncomputable def c2z:List Ly->Str->Nat|[],_=>0|p::P,x=>if p.1.1=x then p.2 else c2z P x
section
variable{L:List Mt}{P:List Ly}
end
def c4d(L:List Mt):Int:=if L=[]then 0 else c6g (L.map λx=>c4h L x.2.1)
noncomputable def b7B:List Mt->List Mt->Int->List (List Mt)|[],cur,_=>[cur]|m::l,cur,reach=>if m.2.1<reach then b7B l (cur++[m]) (max reach m.2.2)else cur::b7B l [m] m.2.2
def c6x:List Mt->List (List Mt)|[]=>[]|m::l=>b7B l [m] m.2.2
section
variable{K:qB}
end
section
variable{rest:List Stmt}
end
def a7U x(ns:T0q):inX (.str x) (.list<|ns.map .str)=Qa (decide (x∈ns)):=by show(Option.map _<|lJ a7j<|ns.map .str)=_;rw[lI (g:=.str) (λ_=>rfl) ns];rfl
theorem a0n:∀{s:List Mt},(s.map (·.1)).Nodup->∀{a b:Mt},a∈s->b∈s->a.1=b.1->a=b
 |[],_,_,_,h,_,_=>by cases h|x::s,nd,a,b,ha,hb,e=>by
  rw[qE,kB]at nd;obtain g|d:=qI.mp ha
  .obtain f|c:=qI.mp hb;.rw[g,f]
   .exact absurd (qR.mpr #[b,c,by rw[<-e,g]]) nd.1
  .obtain f|c:=qI.mp hb;.exact absurd (qR.mpr #[a,d,by rw[e,f]]) nd.1
   .exact a0n nd.2 d c e
structure NR(s:List Mt):Prop where
 nd:(s.map (·.1)).Nodup
 pw:(s.map (·.1)).Pairwise (λa b=>bQ a b=Qc)
variable{s:List Mt}
def NR.nodup(h:NR s):s.Nodup:=by have:=h.nd;rw[vY,jp]at this;exact this.imp λ{a b}n z=>n (by rw[z])
theorem NR.filter{s:List Mt}(h:NR s) p:NR (s.filter p):=#[(vm.map _).nodup h.nd,h.pw.sublist<|vm.map _]
noncomputable def yF(s o:List Mt):List Str:=(s.map (·.1)).filter λx=>!decide (x∈o.map (·.1))
noncomputable def eJ(s o:List Mt):List Str:=(s.filter λr=>!decide (r∈o)&&decide (r.1∈o.map (·.1))).map (·.1)
variable{o:List Mt}
def b1l{x:Str}:x∈eJ s o↔∃r∈s,r.1=x/\r∉o/\x∈o.map (·.1):=by
 unfold eJ;rw[qR];constructor;.rintro⟨r,c,rfl⟩;let⟨b,a⟩:=jA.mp c;simp only[qD,jX,decide_eq_false_iff_not,decide_eq_true_eq]at a;exact#[r,b,rfl,a.1,a.2]
 .rintro⟨r,b,rfl,a,d⟩;refine#[r,jA.mpr #[b,?_],rfl];simp only[qD,jX,decide_eq_false_iff_not,decide_eq_true_eq];exact#[a,d]
noncomputable def gZ(s o:List Mt):List Mt:=s++o.filter λr=>!decide (r∈s)
def b2T{m:Mt}:m∈gZ s o↔m∈s\/m∈o:=by
 unfold gZ;rw[qU,jA];constructor
 .rintro(h|h);.exact .inl h
  .exact .inr h.1
 .rintro(h|h);.exact .inl h
  .by_cases z:m∈s;.exact .inl z
   .exact .inr #[h,by simpa using z]
def c0H(c:NR o)(h:eJ s o=[]){q:Mt}(a:q∈o)(d:q.1∈s.map (·.1)):q∈s:=by
 let⟨r,b,e⟩:=qR.mp d;by_cases z:r∈o;.rwa[<-a0n c.nd z a e]
 .have:r.1∈eJ s o:=b1l.mpr #[r,b,rfl,z,e▸kA (f:=(·.1)) a];rw[h]at this;cases this
def b0C(f:NR s)(c:NR o)(h:eJ s o=[]):((gZ s o).map (·.1)).Nodup:=by unfold gZ;rw[jD,jc];refine#[f.nd,(c.filter _).nd,λa j b i e=>?_];subst e;let⟨q,g,rfl⟩:=qR.mp i;let⟨k,d⟩:=jA.mp g;simp only[jX,decide_eq_false_iff_not]at d;exact d<|c0H c h k j
noncomputable def rowAt(u:List Mt)(x:Str):Mt:=(u.find? λr=>decide (r.1=x)).getD ("",0,0)
def a4i(u:List Mt):List Mt:=(fG (u.map (·.1))).map<|rowAt u
variable{u:List Mt}
def b0S(nd:(u.map (·.1)).Nodup){m:Mt}(a:m∈u):rowAt u m.1=m:=by unfold rowAt;cases h:u.find? λr=>decide (r.1=m.1)with|none=>have:=zI.mp h m a;simp at this|some r=>have b:=List.find?_some h;simp only[decide_eq_true_eq]at b;exact a0n nd (zy h) a b
def a6r(nd:(u.map (·.1)).Nodup):(a4i u).map (·.1)=fG (u.map (·.1)):=by unfold a4i;rw[qZ];refine(jO λx a=>?_).trans<|List.map_id' _;let⟨m,b,rfl⟩:=qR.mp<|(bP _).mem_iff.mp a;show(rowAt u m.1).1=m.1;rw[b0S nd b]
def b1a(nd:(u.map (·.1)).Nodup):NR (a4i u):=#[by rw[a6r nd];exact(bP _).nodup_iff.mpr nd,by rw[a6r nd];exact dP _]
def a0L(nd:(u.map (·.1)).Nodup) m:m∈a4i u↔m∈u:=by
 unfold a4i;rw[qR];constructor;.rintro⟨x,a,rfl⟩;let⟨k,b,rfl⟩:=qR.mp<|(bP _).mem_iff.mp a;rwa[b0S nd b]
 .intro h;exact#[m.1,(bP _).mem_iff.mpr (kA (f:=(·.1)) h),b0S nd h]
def a9o(nd:(u.map (·.1)).Nodup):(a4i u).Perm u:=(List.perm_ext_iff_of_nodup (b1a nd).nodup<|by rw[vY,jp]at nd;exact nd.imp λ{a b}n z=>n<|by rw[z]).mpr<|a0L nd
def a8P(nd:(u.map (·.1)).Nodup):a2W (u.map dM)=(a4i u).map dM:=by
 symm;refine b2r (g:=[Qd,Qc,Qc]) ((a9o nd).map _) (λd f=>by let⟨m,_,rfl⟩:=qR.mp f;rfl) ?_;unfold a5O;rw[jp];have h:=b1a nd;have e:=h.pw;have c:=h.nd;rw[jp]at e;rw[vY,jp]at c;refine(e.and c).imp λ{a b}z=>?_;show(if eqC (.str b.1) (.str a.1)then ltR [.int b.2.1,.int b.2.2] [.int a.2.1,.int a.2.2]else ltC (.str b.1) (.str a.1))=Qd;have ne:eqC (.str b.1) (.str a.1)=false:=by show(b.1==a.1)=Qd;simp;exactλw=>z.2 w.symm
 rw[ne];show(!bQ a.1 b.1)=Qd;rw[z.1];rfl
end L2.L3
namespace L2.L3
open PySem PySem.Spec PyProof.Rows PySem.W PySem.Builtin PySem.Builtin.ObjectAttr PySem.Builtin.Getset_descriptor
noncomputable abbrev c5h:List Value:=[.type "ValueError",.type "Exception",.type "BaseException",.type "object"]
structure XCls(K:Frag)(C:Addr):Prop where
 ex:excIn K C c5h "ValueError.__new__"=Qc
 ga:findIn K (.ref C) "__getattribute__"=Qa (Qa (.builtin "BaseException.__getattribute__"))nga:findIn K (.ref C) "__getattr__"=Qa Qb
 cl:findIn K (.ref C) "__class__"=Qa (Qa (.builtin "object.__class__"))ob:mroIn K C (.type "object")=Qa Qc
def XCls.obj{K:Frag}{h:Heap}(x:XCls K C)(X:K.In h):∃i N nm q bs d j sub r a p k0 g k2 f e t,h.get? C=Qa (excClassObj nm q C N bs i d j sub r a p k0 g k2 f e "ValueError.__new__")/\h.Ns N t/\t "__init__"=Qb/\OwnTail h c5h i:=by
 have q:=x.ex;unfold excIn at q;split at q
 .rename_i p G s A;split at q
  .rename_i H i k0 g k2 f n e D u;simp only[qD,beq_iff_eq,jX]at q;let⟨⟨⟨⟨⟨rfl,rfl⟩,c⟩,z⟩,b⟩,o⟩:=q;let⟨nm,bs,y,w,v,E,j,sub,r,a,F⟩:=G;subst D c;have k:s=(List.toArray [k0,g,k2,f,Qa<|.builtin "ValueError.__new__",e]):=by let⟨l⟩:=s;simp only at u;rw[u]
   subst k;exact#[i,w,nm,v,bs,E,j,sub,r,a,p,k0,g,k2,f,e,_,X _ _ A,.of_isNs<|isNs_of_in X b,nsMap_none_of_in X b o,tail_of_in X z]
  .cases q
 .cases q
section
variable{K:Frag}{D:Addr}{ox:Obj}
def c2E{R:Result->Shared->Prop}{tp:Value}(x:XCls K C)(X:K.In s.heap)(I:ExO s.heap a C ox)(h:R (.ok<|.ret<|.ref C) s):wm (model prog w) A (.call (.builtin "getset_descriptor.__get__") #[[.builtin "object.__class__",.ref a,tp],[]]) R s:=by
 let⟨hh,g,dr,t,os⟩:=s;have L0:=I.type (M:=model prog w);have L1:=looks_mroIn (M:=model prog w) X x.ob;refine ua KF.slot_gs.plain KF.entry_gs<|KF.slot_gs.check _ _ _ _ _ _ _ _ KF.type_class (KF.args_gs _ _ _) ?_;unfold Builtin.«getset_descriptor.__get__»descrGet;rw[dga_obj];refine j0<|j3 ?_;unfold descrGetter descrCheckInstance descrNameAndClass isInstance;simp only[KF.owner_class];repeat lk
 refine#[Code.quiet_builtin _ (by decide+kernel),we KF.entry_class ?_];repeat lk
 exact h
def b5y{tk:Tok}{Q:Fin->Shared->Prop}(x:XCls K C)(X:K.In s.heap)(I:ExO s.heap a C ox)(hq:Q (.done<|.ret<|.ref C) s):wpAny (model prog w) A (Builtin.«object.__getattribute__» #[[.ref a,.str "__class__" tk],[]]) Q E s:=by
 let⟨hh,g,d,t,os⟩:=s;have L0:=I.type (M:=model prog w);have L3:=looks_findIn (M:=model prog w) X x.cl;have hT5:=PySem.F.typeOf_object_class;have f5:=PySem.F.typeOf_object_class;have f6:=PySem.F.slot_gs_get.lookup;have f7:=PySem.F.slot_gs_set.lookup;repeat(any_goals(first|assumption|with_reducible refine L0.at ?_|with_reducible refine L3.at ?_|wp_step))
 refine c2E x X I ?_;repeat(any_goals(first|assumption|wp_step))
def b5A{Q:Unit->Shared->Prop}(x:XCls K C)(X:K.In s.heap)(I:ExO s.heap a C ox)(i:Q () s):wpAny M A (ut "BaseException.__getattribute__" #[[.ref a,nameV],[]]) Q E s:=by
 let⟨p,N,nm,q,bs,f,r,sub,R,o,P,F,D,z,y,w,v,k,L,j,T⟩:=x.obj X;let⟨H,g,d,t,u⟩:=s;have G:builtinKind "BaseException.__getattribute__"=Qa .slot:=by decide+kernel
 have c:splitId "BaseException.__getattribute__"=Qa ("BaseException","__getattribute__"):=by decide+kernel
 have e:(jC C::p).contains (.type "BaseException")=true:=by rw[List.contains_cons,T.hasType (X:="BaseException") (b:=Qc) rfl];rfl
 have J:=PySem.F.args_bexc_ga (.ref a) nameV;simp only[ut,c];refine j0 ?_
 ·repeat(first|(with_reducible refine uq I.at_ ?_;rw[I.cls])|(with_reducible refine wpAny_isSubtype_exc k ?_;rw[e])|wp_step)
  exact i
def b9h{b:Tok}{R:Result->Shared->Prop}(x:XCls K C)(X:K.In s.heap)(I:ExO s.heap a C ox)(c:R (.ok<|.ret<|.ref C) s):wm (model prog w) A (.call (.builtin "BaseException.__getattribute__") #[[.ref a,.str "__class__" b],[]]) R s:=ua PySem.F.attrBase_ValueError.ga.plain PySem.F.entry_bexc_ga<|b5A x X I<|b5y x X I c
def c5t{c:Tok}(x:XCls K C)(X:K.In s.heap)(I:ExO s.heap a C ox)(k:Q (.ref C) s):wpAny (model prog w) A (getAttrBy (.ref a) (.str "__class__" c) Qd) Q E s:=by
 let⟨o,g,d,t,j⟩:=s;have i:=I.type (M:=model prog w);have f:=looks_findIn (M:=model prog w) X x.ga;have L2:=looks_findIn (M:=model prog w) X x.nga;have p:=PySem.F.attrBase_ValueError.ga.bind<|.ref a;have b:(vZ "BaseException.__getattribute__"==vZ "object.__getattribute__")=false:=by decide+kernel
 have e:(onTheHeap (jC C)&&vZ "BaseException.__getattribute__"==vZ "object.__getattribute__")=false:=by rw[b];rfl
 repeat(any_goals(first|assumption|with_reducible refine i.at ?_|with_reducible refine f.at ?_|with_reducible refine L2.at ?_|wp_step))
 refine b9h x X I ?_;repeat(any_goals(first|assumption|wp_step))
def b5z{Q:Option Value->Shared->Prop}(x:XCls K C)(X:K.In s.heap)(I:ExO s.heap a C ox)(c:Q (Qa<|.ref C) {s with toks:=s.toks+1}):wpAny (model prog w) A (getAttr? (.ref a) "__class__") Q E s:=by let⟨e,g,d,t,b⟩:=s;exact j0<|wpAny_mkText<|j0<|yc<|c5t (s:=#[e,g,d,t+1,b]) x X I<|j3 c
def a7c{c:Value}{dep:Int}{tk:Tok}{Q:Fin->Shared->Prop}(x:XCls K C)(X:K.In s.heap)(I:ExO s.heap a C ox)(hty:Looks (model prog w) s.heap (typeOf c) (.type "type"))(his:Looks (model prog w) s.heap (isType c) Qc)(hne:(jC C==c)=Qd)(hsub:Looks (model prog w) s.heap (isSubtype (.ref C) c) Qd)(h:Q (.done<|.ret<|.bool Qd) {s with toks:=s.toks+1}):wpAny (model prog w) A (Builtin.«isinstance.nested» #[[.ref a,c,.int dep tk],[]]) Q E s:=by
 let⟨bm,N,nm,q,bs,hdct,sn,sub,ab,col,dd,k0,k1,k2,k3,k5,mN,hC,hN,hni,T⟩:=x.obj X;have hisD:Looks (model prog w) s.heap (isType<|.ref C) true:=by intro A' Q' E' s' k q;exact j0 (wpAny_loadPart (k _ _ hC)<|j3 q)
 let⟨h0,g,d,tt,os⟩:=s;have L0:=I.type (M:=model prog w);have LI:Looks (model prog w) h0 (isInstance (.ref a) c) false:=L0.andThen hsub;refine j0<|L0.at ?_;rw[if_neg<|λq=>by rw[hne]at q;exact zb q];refine j0<|hty.at ?_;rw[if_pos<|by decide];k_delta"plainIsInstance";refine j0<|j0<|his.at ?_;simp only[if_false];refine j0<|LI.at ?_;simp only[ke,if_false];refine j0<|b5z x X I ?_;refine j0<|hisD.at ?_;simp only[if_false];refine j0<|yk ?_;refine hsub.at ?_;first|exact j3 h|exact j3 (j3 h)|exact j0 (j3<|j3 h)
def b5x(x:XCls K C)(y:XCls K D)(X:K.In s.heap)(I:ExO s.heap a C ox)(d:C≠D)(c:typeIn K (.ref D)=Qa (.type "type"))(f:subIn K (.ref C) (.ref D)=Qa Qd)(h:Q (.bool Qd) {s with toks:=s.toks+1}):wpAny (model prog w) A (call (.builtin "isinstance") [.ref a,.ref D]) Q E s:=call_isinstance (S:=λ_ R s=>(K.In s.heap/\ExO s.heap a C ox)/\R (.ok<|.ret<|.bool Qd) {s with toks:=s.toks+1})
  (λ_ _ _ _ _ b=>isinstance_outer (a7c x b.1.1 b.1.2 (looks_typeIn b.1.1 c) (by let⟨G,N,nm,q,bs,e,j,sub,H,i,F,z,v,u,t,r,p,g,_⟩:=y.obj b.1.1;intro M J L o k q;exact j0<|wpAny_loadPart (k _ _ g)<|j3 q) (Bool.eq_false_iff.mpr λq=>d<|Value.ref.inj<|beq_iff_eq.mp q) (looks_subIn b.1.1 f) b.2)<|by intro q;cases q) #[#[X,I],h]
def c5s(X:K.In s.heap)(I:ExO s.heap a C ox)(e:isIn K (.ref C) D=Qc)(h:Q (.bool Qc) s):wpAny (model prog w) A (call (.builtin "isinstance") [.ref a,.ref D]) Q E s:=isi_call X (λ_=>I.type) e (by intro q;cases q) h
def c2D(X:K.In s.heap)(I:ExO s.heap a C ox)(b:typeOf (.type T)=pure (.type "type"))(e:subIn K (.ref C) (.type T)=Qa Qc)(h:Q (.bool Qc) s):wpAny (model prog w) A (call (.builtin "isinstance") [.ref a,.type T]) Q E s:=by refine PyProof.Rows.call_isinstance_of ?_ (by intro q;cases q);let⟨j,g,d,t,i⟩:=s;have c:=I.type (M:=model prog w);have f:=looks_subIn (M:=model prog w) X e;refine j0<|c.at ?_;rw[if_neg<|λq=>by cases beq_iff_eq.mp q];refine j0 (m:=typeOf<|.type T)<|ub b ?_;rw[if_pos<|by decide];refine j0<|j0 (m:=isType<|.type T)<|j3 (a:=Qc) ?_;refine j0 (m:=isInstance (.ref a)<|.type T)<|(c.andThen f).at ?_;exact j3 (a:=Qc)<|j3 h
def b5w{Q:Bool->Shared->Prop}(x:XCls K C)(y:XCls K D)(X:K.In s.heap)(I:ExO s.heap a C ox)(j:subIn K (.ref C) (.ref D)=Qa Qc)(k:Q Qc s):wpAny M A (excMatches (.ref a)<|.ref D) Q E s:=by
 let⟨r,N,nm,q,bs,e,v,sub,ab,p,S,L,J,H,G,F,z,i,R,o,T⟩:=y.obj X;let⟨P,g,d,t,w⟩:=s;have u:=looks_subIn (M:=M) X j;have c:(jC D::r).contains (.type "BaseException")=true:=by rw[List.contains_cons,T.hasType (X:="BaseException") (b:=Qc) rfl];rfl
 have f:=tc_notTuple;repeat(first|(with_reducible refine uq I.at_ ?_;rw[I.cls])|with_reducible refine uq i ?_|with_reducible refine u.at ?_|(with_reducible refine wpAny_isSubtype_exc i ?_;rw[c])|wp_step)
 exact k
end
end L2.L3
namespace L2.L3
open PySem PySem.Spec PyProof.Rows
def tK(I:Inv X B U H s){b:Addr}(h:s.heap.get? b=Qb):tZ X b:=by
 refine#[?_,λp a z=>?_];.cases q:X.s₀.heap.get? b with|none=>exact .inr rfl|some o=>refine .inl (Classical.byContradiction λn=>?_);let⟨c,e⟩:=I.base.there b o q n;rw[h]at e;cases e
 .let⟨e,_⟩:=I.pin p<|je _ a;rw[z,h]at e;cases e
noncomputable def b1d(f:SF):SF:=λZ=>match f Z with|some (.xc _ _)=>Qb|r=>r
def c4O(h:DS X.nox st f):DS X st (b1d f):=#[by
 rintro B s U H D I⟨Z,o,b,g,G,e,R,q⟩;have⟨e',n⟩:f Z=Qa o/\∀c a,o≠.xc c a:=by
  unfold b1d at e;split at e;.cases e
  .rename_i z;exact#[e,λc a w=>z c a<|by rw[e,w]]
 have i:a1u X.nox b g G D o:=by cases o with|nx a=>exact q|rt d=>exact q|bk a=>exact q|ct a=>exact q|xc c a=>exact absurd rfl (n c a)
 exact v0 (h.run B s U H D (I.wish _) #[Z,o,b,g,G,e',R,i]) (λ_ _ z=>z.unwish) λ_ _ z=>qy z]
noncomputable def eW(c:Str):SF:=λZ=>Qa<|.xc c Z
def b8m{x m:Str}{sp:Pos}{j:_}(E:X.calm=Qc)(u:fJ X.K x=Qa C)(F:XCls X.K C)(A:Gl X x:=by rfl)(i:U2 x:=by decide)(g:j4 [.Constant (.str m) j sp] X.env=(Qd,eval (.Constant (.str m) j sp) X.env)::j4 [] X.env:=by rfl)(d:U6 X cpos []:=by rfl):DS X (.Raise (Qa<|.Call (.Name x np) [.Constant (.str m) j sp] [] cpos) Qb pos) (eW x):=#[by
 rintro B s U H D I⟨Z,o,S,Gz,G,e,R,q⟩;cases(qA e);let⟨bm,N,nm,w,bs,hdct,sn,sub,ab,col,dd,k0,k1,k2,k3,k5,mN,K,J,f,T⟩:=F.obj I.mod.kin;have z:=kR I.mod.kin I.mod.glob (a8d u);refine wpAny_Raise_call_subT (C:=C) (nm:=nm) (q:=w) (N:=N) (bs:=bs) (bm:=bm) (hdct:=hdct) (sn:=sn) (sub:=sub) (ab:=ab) (col:=col) (dd:=dd) (k0:=k0) (k1:=k1) (k2:=k2) (k3:=k3) (k5:=k5)
  PySem.F.excBase_ValueError (mN:=mN) (T.hasType PySem.F.excBase_ValueError.hasBase) (I.ok.hd E) (by rw[g];show(Qd||(j9 cpos<|j4 [] X.env).any (·.1))=Qd;rw[d];rfl) f (gT I A z #[rfl,?_] i);have h:=dR (X:=X) (b6v:PE X (.Constant (.str m) j sp) (tC<|.str m)) gE g cpos B s U H (λp k=>p=[.str m]/\k=H) I #[rfl,rfl];rw[g]at h⊢;refine zx (thn h ?_);rintro Q r⟨p,k,c,v,P,M⟩;subst P M;refine#[rfl,by rw[<-v.length];show 1<=j5;decide,c.bk _ _ K,J.keeps c.bk,T.keeps c.bk,λL a b=>?_];let⟨t,y,_,_⟩:=b.there;exact q B {r with heap:=L} U k G _ (c.kept (t':=r.toks) b.keeps) R (.refl _) #[a,C,rfl,u,.inl<|.inl #[tK c b.new,b7x c.hok b.new,_,_,.ref t,y,rfl,rfl,rfl,rfl]]]
def oJ(m n:Nat)(f:SF)(O:T0l):Mm q8:=if O.length=n then(match f (pY m O)with|some (.rt d)=>Qa (.ok d)|some (.nx _)=>Qa (.ok .none)|some (.xc c _)=>Qa (.ex c)|_=>Qb)else Qb
def CX1(P:Program)(w:World):CXT:=λouter H s E e s'=>∃a C H',e=.ref a/\E (.ref C) Qb H'/\s'.os=s.os/\uc s'.gens/\Un (frs outer) [] H H' s.heap s'.heap/\HOk P w H' s'.heap/\ExcAt (λb=>s.heap.get? b=Qb) H' a C s'.heap
def c6O(K:qB)(G H:Hp)(Q:VK)(E:XK):Re q8->Prop|.ok d=>∀v G' H',Grow G H G' H'->Rep K G' v d->Q v H'|.ex c=>∀C G' H',fJ K c=Qa C->Grow G H G' H'->E (.ref C) Qb H'
noncomputable def spX(K:qB)(F:List q8->Mm q8):Sp:=λvs H Q E=>∃G O r,(aW G H/\oZ K G H)/\RepAll K G vs O/\F O=Qa r/\c6O K G H Q E r
structure CalleeX(P:Program)(w:World)(K:qB)(mg:T0d)(base:Heap)(x:Str)(k:Nat)(ps:T0q)(F:List q8->Mm q8):Prop where ex:∃f fd,mg x=Qa (.ref f)/\jQ K (.ref f)=Qc/\Binds K fd ps []/\FnOk P w K mg base (CX1 P w) k f fd ps (spX K F)
def a0y(I:Inv X B U H s)(g:X.ex=[])(un:Un (frs X.stack) ch H H s.heap h')(i:∀b∈ch,X.s₀.heap.get? b=Qb):Un X.fs [] X.H₀ H X.s₀.heap h':=by
 have nx:∀b:Addr,b∉X.ex:=λb z=>by rw[g]at z;cases z
 have d:∀b o,X.s₀.heap.get? b=Qa o->b≠X.env.locals:=λb o e=>qd<|qX (qQ e) I.ok.above;have f:∀b o,X.s₀.heap.get? b=Qa o->b∉ch:=λb o e z=>by rw[i b z]at e;cases e
 refine#[λb o e n a _=>?_,λb o e n a _=>?_,λb o e n _=>I.base.free b o e n<|nx b,λb o e _=>?_,I.base.tups,I.base.frzs,I.base.tbls];.exact un.keep b o (I.base.keep b o e n a<|nx b) (I.base.free b o e n<|nx b) (λz=>(qI.mp<|I.stkSub b z).elim (d b o e) a) (f b o e)
 .let⟨q,j⟩:=I.base.slot b o e n a<|nx b;let⟨c,p⟩:=un.any j (I.base.free b o e n<|nx b)<|f b o e;exact#[c,p]
 .let⟨k,j⟩:=I.base.there b o e<|nx b;exact un.there b k j<|f b o e
section
variable{K:qB}{x:Str}{F:List q8->Mm q8}
abbrev fcX(P:Program)(w:World)(K:qB)(mg:T0d)(base:Heap)(N:T0q)(qual:Str)(scope:Scope)(f:Addr)(cd:Value)(A:Around)(outer:List Env)(s:Shared)(H:Hp)(E:XK):Cx:=a2i (CX1 P w) P w K mg base N qual scope f cd A outer s H E
def c0Z{fa:Addr} m n(Fu:Fun K x x st fa fd)(S:FnScope N ps (aD st))(hm:N.length=m)(hn:ps.length=n)(p:∀ cdv A i s H E,Room k (A.deeper<|wx x (aD st) s.heap.objs.size fa cdv)->DB (fcX P w K mg base N x (aD st) fa cdv A i s H E) (bU st) f):FnOk P w K mg base (CX1 P w) (k+1) fa fd ps (spX K<|oJ m n f):=by
 let⟨oc,od,kV,doc,pm,an,cdv,ct,osl,rfl,lk,T⟩:=Fu.ex;refine a4I lk T S (λvs H Q E⟨G,O,r,s,t,j,_⟩=>?_) λA i s H vs Q E J⟨G,O,r,F,t,j,q⟩=>?_
 .unfold oJ at j;split at j;.rename_i hl;rw[t.length,hl,hn]
  .cases j
 .unfold oJ at j;split at j
  .rw[<-hm,<-xP]at j;split at j;.rename_i d e;cases(qA j);exact#[_,(p cdv A i s H E J).run,nB N O,_,H,G,G,e,lO F t,λv y u _ g t=>q v y u g t]
   .rename_i D e;cases(qA j);exact#[_,(p cdv A i s H E J).run,nB N O,_,H,G,G,e,lO F t,λy u σ' _ R'=>q .non y u R'.grow .none]
   .rename_i c D e;cases(qA j);refine#[_,(p cdv A i s H E J).run,nB N O,_,H,G,G,e,lO F t,?_];rintro B s' U u y e' I R _⟨a,C,e1,hE,xa⟩;subst e1;refine a0P (X:=fcX P w K mg base N x (aD st) fa cdv A i s H E) (fr:=λb=>s.heap.get? b=Qb) I.ok.frames rfl rfl I (xa.mono λb hb=>?_) (λb hb=>?_) λh' ch un M L x'=>?_
    .obtain z|z:=hb.1;.cases z
     .exact z
    .cases z:s.heap.get? b with|none=>rfl|some o=>let⟨o',z'⟩:=I.base.there b o z (by intro w;cases w);rw[hb]at z';cases z'
    .exact#[a,C,u,rfl,q C y u hE R.grow,I.os,I.bare,a0y I rfl un M,L,x']
   .cases j
  .cases j
def eN m n(D:Def K mg x st)(S:FnScope N ps (aD st))(i:N.length=m)(g:ps.length=n)(j:∀ kV doc pm(an:T0k) cdv ct(us:T0m),us.length=ps.length->ye (jY x x (fV st) (bU st) (aD st) .none kV doc pm an cdv ct) #[us,[]]=pure (ps.zip us))(b:∀ fa cdv A a s H E,Room k (A.deeper<|wx x (aD st) s.heap.objs.size fa cdv)->DB (fcX P w K mg base N x (aD st) fa cdv A a s H E) (bU st) f):CalleeX P w K mg base x (k+1) ps (oJ m n f):=by let⟨fa,o,d,c⟩:=D.ex;exact#[fa,o,c,d.kp,d.binds j,c0Z m n d S i g λcdv A a s H E e=>b fa cdv A a s H E e]
def fC(F:List q8->Mm q8)(fa:AF):EF:=λZ=>bnd (fa Z) F
def gB{fa:AF}(C:CalleeX X.prog X.w X.K X.mg X.base x k ps F)(hr:Room k X.A)(ha:DA X (e::es) fa)(hg:Gl X x:=by rfl)(S:U2 x:=by decide)(he:U5 X e es:=by rfl)(N:U6 X pos es:=by rfl):DE X (.Call (.Name x p) (e::es) [] pos) (fC F fa):=#[by
 rintro B s U H Q I⟨Z,r,H0,Gz,G,e',R,q⟩;let⟨f,fd,a,b,c,Fk⟩:=C.ex;refine v1 (gT I hg a ?_ S);refine jf (h₀:=X.base) I.ok.mod.kin b (thn (ha.run pos B s U H (λw j=>∃i O,Grow G H i j/\RepS X.K H0 Gz i j U Z/\RepAll X.K i w O/\F O=Qa r) I<|bA R e' q.x λO w i j A K o e1=>#[i,O,A,K,o,e1])
  λJ s1⟨w,j,t,o,i,O,A,K,rd,hF⟩=>#[t.kIn,?_]) he N;have sp:spX X.K F w j Q (λcv _ L=>∃E C c,cv=.ref C/\r=.ex c/\fJ X.K c=Qa C/\Grow i j E L):=by refine#[i,O,r,#[A.sub,K.tab],rd,hF,?_];cases r with|ok d=>exactλv E L g o=>q v E L (A.trans g) o|ex c=>exactλC E L T g=>#[E,C,c,rfl,rfl,T,g]
 have hl:J.length=ps.length:=by rw[<-o.length];exact Fk.len _ _ _ _ sp
 refine yh (wf (Fk.run X.A X.stack s1 j #[J,[]] J w Q _ hr t.env0 (by simpa using c s1 J t.kIn (by simpa using hl)) o sp) λM s' y=>?_);cases M with|error e2=>let⟨a2,C2,H2,rfl,⟨G2,C3,c3,e3,rfl,T,g2⟩,os,D,un,P,xa⟩:=y;cases e3;exact q B s' U H2 G2 _ (t.call' (ch:=[]) os un P D<|λb z=>nomatch z) (K.more g2) (A.gg.trans g2.gg) #[a2,C2,rfl,T,.inl<|xa.mono λb hb=>tK t hb]|ok fl=>cases fl with|ret u=>exact t.after y|next=>exact qy y|brk=>exact qy y|cont=>exact qy y]
end
section
variable{K:qB}
end
def name_goes{Q:Unit->Shared->Prop}{n:Str}(I:Inv X B U H s)(hN:X.N.Nodup)(L:X.N[j]?=Qa n)(hk:X.env.scope.names.lookup n=Qa .local)(h:∀s',Inv X B (U.set j Qb) H s'->Q () s'):wpAny M A (do bindName X.env n .none;unbindBehindTheSuite X.env n pos) Q E s:=by
 let⟨m,K,hl⟩:=id I.loc;let⟨oL,_,_,hoL,_⟩:=id K;have u:(X.env.scope.kind==.class||(X.env.scope.kind==.module&&X.env.locals !=X.env.globals))=false:=by rw[I.ok.kind];rfl
 have t:j<U.length:=by rw[I.len];exact(qW.mp L).1
 refine wpAny_nameGoes_keeps hk K u λh' v D f=>?_;have a:∀b o,X.s₀.heap.get? b=Qa o->b≠X.env.locals:=λb o e=>qd<|qX (qQ e) I.ok.above;refine h _ #[I.ok,I.os,I.bare,#[λb o e n G r=>?_,λb o e n G r=>?_,I.base.free,λb o e r=>?_,I.base.tups,I.base.frzs,I.base.tbls],#[_,D,λi y N g C e3=>?_],λy c e=>?_,I.free,I.freeC,λp hp=>?_,λb ob e=>?_,by simpa using I.len];.exact(f.2 b<|a b o e).trans (I.base.keep b o e n G r)
 .let⟨R,g⟩:=I.base.slot b o e n G r;exact#[R,(f.2 b<|a b o e).trans g]
 .let⟨T,g⟩:=I.base.there b o e r;exact#[T,(f.2 b<|a b o e).trans g]
 .by_cases F:i=j;.subst F;rw[kN t]at C;cases C
  .rw[jK<|jL F]at C;let⟨P,S,q⟩:=hl i y N g C e3;refine#[P,S,?_];obtain⟨k,e⟩|⟨k,c,e,z⟩:=q;.refine .inl #[k,?_];have:y≠n:=λe=>F<|a4k hN g<|e▸L;simp[this,e]
   .exact .inr #[k,c,e,z.sameBut f<|I.cne y c e]
 .let⟨J,z⟩:=I.cell y c e;exact#[J,z.sameBut f<|I.cne y c e]
 .let⟨e,n,ne,nf,d⟩:=I.pin p hp;exact#[(f.2 p.1 ne).trans e,n,ne,nf,d]
 .refine(I.hok b ob e).stay (λc J w q=>(f.2 c ?_).trans q) (λ_ q=>q) λ_ _ q=>q;rintro rfl;obtain rfl|w:=w;.rw[I.free]at e;cases e
  .rw[I.free]at w;cases w
noncomputable abbrev Cx.suite(X:Cx)(a:Addr):Cx:={X with A:=X.A.mark<|Qa<|.ref a,calm:=Qd,xe:=λ_ _=>False}
def a6G(I:Inv X B U H s) a:Inv (Cx.suite X a) B U H s:=#[#[I.ok.mod,I.ok.kind,I.ok.glob,I.ok.blt,I.ok.above,I.ok.inj,I.ok.has,I.ok.cab,(λz=>nomatch z),I.ok.frames,I.ok.stk,I.ok.exf,I.ok.bs,I.ok.bsz,I.ok.noex,I.ok.exfs,I.ok.funs,I.ok.frf],I.os,I.bare,I.base,I.loc,I.cell,I.free,I.freeC,I.pin,I.hok,I.len]
def a9M(I:Inv (Cx.suite X a) B U H s)(ok:X.Ok):Inv X B U H s:=#[ok,I.os,I.bare,I.base,I.loc,I.cell,I.free,I.freeC,I.pin,I.hok,I.len]
def a8C(K:qB)(C:Addr):Bool:=PySem.W.excIn K C c5h "ValueError.__new__"&&(jH K (.ref C) "__getattribute__"==Qa (Qa<|.builtin "BaseException.__getattribute__"))&&(jH K (.ref C) "__getattr__"==Qa Qb)&&(jH K (.ref C) "__class__"==Qa (Qa<|.builtin "object.__class__"))&&(PySem.W.mroIn K C (.type "object")==Qa Qc)
def b3g(K:qB)(S:Addr)(c:Str):Bool:=match fJ K c with|some C=>a8C K C&&(PySem.W.typeIn K (.ref C)==Qa (.type "type"))&&(kr K (.ref C) (.type "ValueError")==Qa Qc)&&(kr K (.ref C) (.ref S)==Qa Qc)|none=>Qd
def c2v(K:qB)(c d:Str):Bool:=c==d||match fJ K c,fJ K d with|some C,Qa D=>(C !=D)&&(kr K (.ref C) (.ref D)==Qa Qd)|_,_=>Qd
def a7b{K:qB}(h:a8C K C=Qc):XCls K C:=by simp only[a8C,qD,beq_iff_eq]at h;exact#[h.1.1.1.1,h.1.1.1.2,h.1.1.2,h.1.2,h.2]
section
variable{x:Str}
def c5w:typeOf (.type "ValueError")=pure (.type "type"):=by kernel_rfl
end
noncomputable def c3e(m:Nat)(f:SF)(c:Str):Mm q8:=match f (.exc c::qx (m-1) .no)with|some (.rt d)=>Qa (.ok d)|some (.nx _)=>Qa (.ok .none)|_=>Qb
variable{c:Str}
def b3O{K:qB}(s:aW G H/\oZ K G H)(g:fJ K c=Qa C)(f:H a=Qa (xcO a C)):RepS K H G G H (start N [.ref a]) (.exc c::qx (N.length-1) .no):=by
 refine#[.refl s.1,by simp[start,Nat.add_comm],λi o e d b=>?_,Inj.free (λi e b=>?_),s.2]
 .cases i with|zero=>
   have d:Qa (Qa<|V.ref a)=Qa o:=by exact d
   cases d;cases(qA b);exact#[a,C,rfl,g,f]|succ i=>
   rw[List.getElem?_cons_succ,jv]at b;split at b;.cases b;trivial
   .cases b
 .cases i with|zero=>cases(qA b);rfl|succ i=>
   rw[List.getElem?_cons_succ,jv]at b;split at b;.cases b;rfl
   .cases b
section
variable{K:qB}{x:Str}{F:Str->Mm q8}
end
variable{L:List Str}
def b7R(L:T0q)(K:qB):Bool:=match fJ K "SheetError"with|some S=>a8C K S&&L.all (b3g K S)|none=>Qd
structure ExL(L:T0q)(K:qB):Prop where ok:b7R L K=Qc
def ExL.she{K:qB}(F:ExL L K):∃S,fJ K "SheetError"=Qa S/\XCls K S/\∀c∈L,∃C,fJ K c=Qa C/\XCls K C/\kr K (.ref C) (.ref S)=Qa true:=by
 have h:=F.ok;unfold b7R at h;split at h
 .rename_i S d;rw[qD]at h;refine#[S,d,a7b h.1,λc b=>?_];have a:=qu.mp h.2 c b;unfold b3g at a;split at a;.rename_i C e;simp only[qD,beq_iff_eq]at a;exact#[C,e,a7b a.1.1.1,a.2]
  .cases a
 .cases h
def dZ{x m:Str}{sp:Pos}{j:_}(F:ExL L X.K)(e:X.calm=Qc)(hx:x∈L:=by decide)(c:Gl X x:=by rfl)(b:U2 x:=by decide)(d:j4 [.Constant (.str m) j sp] X.env=(Qd,eval (.Constant (.str m) j sp) X.env)::j4 [] X.env:=by rfl)(a:U6 X cpos []:=by rfl):DS X (.Raise (Qa<|.Call (.Name x np) [.Constant (.str m) j sp] [] cpos) Qb pos) (eW x):=by let⟨S,_,_,f⟩:=F.she;let⟨C,i,g,_⟩:=f x hx;exact b8m e i g c b d a
section
variable{env:Env}
def cpX(M:Model)(A:Around)(E:T0a)(env:Env)(Q:T0a)(acc:Value)(C:Addr)(r:Result)(s':Shared):Prop:=match r with|.ok _=>∃m,s'.heap.Ns C m/\∀h',kZ C s'.heap h'->Q acc {s' with heap:=h'}|.error x=>∃m,s'.heap.Ns C m/\∀h',kZ C s'.heap h'->∀ce:Env,ce.frame=env.frame->wpAny M A (PySem.passOn "comprehension.variables-let-go" x ce:Sem Value) (λ_ _=>False) E {s' with heap:=h'}
def b1O{a first:Sem Value}{g:Comprehension}{gs:List Comprehension}{cl:T0f}(C:clausesOf e=g::gs)(L:∀x,v6 g.iter env x=pure x)(j:u7 scope env=pure cl)(b:scope.kind=.function)(d:∀x∈scope.names,x.2=.local->scope.names.lookup x.1=Qa .local)(h:wpAny M A first (λx v=>wpAny M A (QA x) (λit u=>wpAny M A a (λo t=>wpAny M A (yf scope env.globals cl [] env.qual Qb .none<|Qa env) (λcenv q=>cenv.frame=env.frame/\wm M A (.compStart e 0 it o {cenv with scope:=relabel scope env}) (cpX M A E env Q o cenv.locals) q) E t) E u) E v) E s):wpAny M A (comprehension e scope env pos a Qd first Qb) Q E s:=by
 unfold comprehension;rw[j,C];refine j0 (v0 h (λx v G=>j0 (yd (j0 (ub (L x) (j0 (v3 (v0 G (λit u F=>wpAny_standIf<|j0<|v0 F (λo t D=>j0<|j3<|j0<|v0 D (λcenv q k=>?_) λ_ _ c=>c) λ_ _ c=>c)
   λ_ _ c=>c))))))) λ_ _ c=>c);let⟨z,k⟩:=k;have I:∀x∈(scope.names.filter λx=>(x.2==.local||x.2==.cell)&&x.1 !=(".0":Str)).reverse,x.2=.local->Env.kindOf {cenv with scope:=relabel scope env} x.1=Qa .local:=λx K N=>lookup_relabel_local<|d x (jA.mp<|wR.mp K).1 N;refine v3<|j0<|yc<|v3<|wpAny_run (wf k λr H p=>?_);cases r with|ok f=>let⟨m,w,p⟩:=p;exact j0 (v3<|uz (cenv:={cenv with scope:=relabel scope env}) b _ H m I w λc J _ i=>j3<|p c i)|error x=>let⟨m,w,p⟩:=p;exact j0<|v3 (uz (cenv:={cenv with scope:=relabel scope env}) b _ H m I w λc J _ i=>v0 (p c i _ z) (λ_ _ f=>f.elim) λ_ _ y=>y)
end
section
variable{U:List (Option V)}
def c4D{Q:Unit->Shared->Prop}(o:T0k)(i:HOk X.prog X.w H s.heap)(x:a0s fr fl H a C s.heap)(h:∀h' ch,Chg X fr ch H s.heap h'->a0s fr (o.elim .none λf=>v7 f) H a C h'->Q () {s with heap:=h'}):wpAny M A (setFlight (.ref a) o) Q E s:=by
 let⟨L,K,I,F,S,T,J,G,R,P,D,N,y,w,p,t,k,d,r⟩:=x;have sz:=(zq.mp r).1;refine j0<|yi R D y ?_;rw[if_pos<|show(jC T !=kE)=Qc from by rfl];refine wpAny_setField k d sz<|h _ [T] #[λb z=>?_,#[λb o e n _ g=>?_,λb o e n _ g=>?_,λb o e n _=>n,λb o e g=>?_,λ_ _ q=>q,λ_ _ _ q=>q,λ_ ps q=>#[(List.toArray []),by rw[q];simp]],λb u q=>?_] ?_;.cases qf.mp z;exact#[w,p,J,G,k,d]
 .rwa[qv _ _<|λz=>g<|by simp[z]]
 .exact#[o.slots,by rwa[qv _ _<|λz=>g<|by simp[z]]]
 .exact#[o,by rwa[qv _ _<|λz=>g<|by simp[z]]]
 .have tr:∀c u,H c=Qa u->T≠c:=λc u q z=>by rw[<-z,p]at q;cases q
  refine(i b u q).stay (λc v j z=>?_) (λ_ z=>z) λ_ _ z=>z;obtain rfl|j:=j;.rwa[qv _ _<|tr c u q]
  .rwa[qv _ _<|tr c _ j]
 .refine#[L,K,I,F,S,T,_,_,?_,P,D,N,y,w,p,t,kY _ k<|Obj.isFreed_of_fields<|vI d _,vI d _,by simp[sz]];rwa[qv _ _ t]
def b9Y{Q:α->Shared->Prop}{d:Env}{i:String}(b:HOk X.prog X.w H s.heap)(x:a0s fr fl H a C s.heap)(h:∀h' ch,Chg X fr ch H s.heap h'->a0s fr (d.frame.elim .none λf=>v7 f) H a C h'->E (.ref a) {s with heap:=h'}):wpAny M A (PySem.passOn i (.ref a) d:Sem α) Q E s:=by have g:=x;let⟨v,u,r,p,D,T,t,q,o,z,k,y,j,w⟩:=x;refine j0<|yi o k j ?_;rw[if_neg<|by simp];exact j0 (c4D d.frame b g λh' ch c e=>wpAny_throw<|h h' ch c e)
end
def lC(t:Tg)(ρb:List Ent)(ft:TF)(fe:EF):List q8->Mm (List q8)|[]=>Qa (.ok [])|d::O=>match tgD t ρb d with|none=>Qb|some ρx=>(match ft ρx with|some (.ok Qc)=>bnd (fe ρx) λv=>bnd (lC t ρb ft fe O) λvs=>Qa (.ok (v::vs))|some (.ok Qd)=>lC t ρb ft fe O|_=>Qb)
def a2l(t:Tg)(cap:T0e)(fi:AF)(ft:TF)(fe:EF):EF:=λZ=>bnd (fi Z) λO=>if bN O.length then bnd (lC t (cF cap Z) ft fe O) λes=>Qa (.ok<|.list es)else Qb
theorem a0M{t:Tg}{ρb:List Ent}{ft:TF}{fe:EF}:∀{O es:T0l},lC t ρb ft fe O=Qa (.ok es)->a0O t ρb ft fe O=Qa es
 |[],es,h=>by cases h;rfl|d::O,es,h=>by
  unfold lC at h;unfold a0O;split at h;.cases h
  .rename_i e k;split at h
   .rename_i b;obtain⟨v,i,g⟩|⟨c,_,z⟩:=cM h
    .obtain⟨j,a,f⟩|⟨c,_,z⟩:=cM g;.cases f;simp only[i,a0M a,vS]
     .cases z
    .cases z
   .rename_i b;try simp only[b]
    exact a0M h
   .cases h
theorem a4n{t:Tg}{ρb:List Ent}{ft:TF}{fe:EF}{c:Str}:∀{O:T0l},lC t ρb ft fe O=Qa (.ex c)->∃b d a,O=b++d::a/\(∀x∈b,tgD t ρb x=Qa (cX t ρb x)/\ft (cX t ρb x)=Qa (.ok<|cT t ρb ft x)/\(cT t ρb ft x=Qc->∃v,fe (cX t ρb x)=Qa (.ok v)))/\tgD t ρb d=Qa (cX t ρb d)/\ft (cX t ρb d)=Qa (.ok Qc)/\fe (cX t ρb d)=Qa (.ex c)
 |[],h=>by cases h|d::O,h=>by
  unfold lC at h;split at h;.cases h
  .rename_i f r;have ex:cX t ρb d=f:=by unfold cX;rw[r];rfl
   have p:lC t ρb ft fe O=Qa (.ex c)->(ft f=Qa (.ok<|cT t ρb ft d)/\(cT t ρb ft d=Qc->∃v,fe f=Qa (.ok v)))->∃b g a,d::O=b++g::a/\(∀x∈b,tgD t ρb x=Qa (cX t ρb x)/\ft (cX t ρb x)=Qa (.ok<|cT t ρb ft x)/\(cT t ρb ft x=Qc->∃v,fe (cX t ρb x)=Qa (.ok v)))/\tgD t ρb g=Qa (cX t ρb g)/\ft (cX t ρb g)=Qa (.ok Qc)/\fe (cX t ρb g)=Qa (.ex c):=λu j=>by
    let⟨b,g,a,i,y,o⟩:=a4n u;refine#[d::b,g,a,by rw[i];rfl,λx k=>?_,o];obtain rfl|k:=qI.mp k;.rw[ex];exact#[r,j.1,j.2]
    .exact y x k
   split at h
   .rename_i i;have e:cT t ρb ft d=true:=by unfold cT;rw[ex,i]
    obtain⟨v,q,j⟩|⟨A,q,z⟩:=cM h
    .obtain⟨C,w,s⟩|⟨A,o,z⟩:=cM j;.cases s
     .cases z;exact p o #[by rwa[e],λ_=>#[v,q]]
    .cases z;exact#[[],d,O,rfl,λ_ z=>absurd z (by simp),by rwa[ex],by rwa[ex],by rwa[ex]]
   .rename_i i;have e:cT t ρb ft d=false:=by unfold cT;rw[ex,i]
    exact p h #[by rwa[e],λz=>by rw[e]at z;cases z]
   .cases h
noncomputable def eX(K:qB)(Y:T0l)(ρx:q8->List Ent)(fe:EF)(c:Str)(H0 Gz:Hp):TE:=λU H Q=>∃x r G,x∈Y/\fe (ρx x)=Qa r/\RepS K H0 Gz G H U (ρx x)/\(match r with|.ok d=>∀v G' H',Grow G H G' H'->Rep K G' v d->Q v H'|.ex c'=>c'=c)
def b5J{K:qB}{ρb:List Ent}{cap:T0e}{f k:T0l}{ρx:q8->List Ent}{cnd:q8->Bool}(R:RepS K H0 Gz G H U Z)(wk:Walk K J G (f++d::k))(hb:Weak (cF cap Z) ρb)(hw:∀x∈f++[d],Weak (ρx x) ρb)(hz:(f++d::k).length<=j5)(hp:∀x∈f,cnd x=Qc->∃v,fe (ρx x)=Qa (.ok v))(hd:cnd d=Qc)(he:fe (ρx d)=Qa (.ex c)):yU J (gU K (f++[d]) (λx=>x) ρb ρx) (tU K (f++[d]) ρx cnd) (eX K (f++[d]) ρx fe c H G) (iH cap U) H (λ_ _=>False):=by
 refine#[λD i m ys X H'=>m=f.length-i/\i<=f.length/\ys.length<=i/\∃G',RepS K H G G' H' X ρb/\G' D=Qb,λD hD=>#[#[f.length,by simp,jJ _,jJ _,G,?_,R.sub.free hD],?_]];.exact((R.cap cap).more<|.side R.sub hD).weak hb
 .rintro i m ys σ1 H1⟨rfl,hi,hys,G1,R1,hG1⟩N;let⟨wgo,wstop⟩:=wk i G1 H1 R1.grow.gg R1.sub;have hx:∃x,(f++[d])[i]?=Qa x/\(f++d::k)[i]?=Qa x/\x∈f++[d]/\((i<f.length/\x∈f)\/x=d):=by
   by_cases h:i<f.length
   .refine#[f[i],?_,?_,?_,.inl #[h,jm h]];.rw[qt h];exact qN h
    .rw[qt h];exact qN h
    .exact je _ (jm h)
   .have:i=f.length:=by lia
    subst this;exact#[d,by simp,by simp,by simp,.inr rfl]
  let⟨x,_,hx2,u,hx4⟩:=hx;let⟨go,yl⟩:=wgo x hx2;refine .inr #[go,λv H2 y=>?_];let⟨G2,T,rx⟩:=yl v H2 y;refine#[x,u,H,G,G2,R1.more T,rx,λσ3 S=>#[x,u,H,G,G2,S,λG4 H4 P=>?_]];have Q:=T.trans P;have t:=Q.hh.lst N;have M:=Q.new D hG1 (by rw[N];simp);dsimp only;have hzz:f.length<j5:=by rw[qY,qO]at hz;lia
  obtain⟨F,A⟩|rfl:=hx4
  .by_cases s:cnd x=Qc
   .rw[if_pos s];let⟨w,ew⟩:=hp x A s;refine#[x,.ok w,G4,u,ew,S.more P,λv G5 H5 g5 rv=>?_];have p:=g5.hh.lst t;have L:=g5.new D M (by rw[t];simp);refine#[p,by lia,f.length-(i+1),by omega,rfl,F,by simp;omega,G5,?_,L];have r:=((S.more P).more g5).weak<|hw _ u;have g:∀(j:Nat)(e:Ent),ρb[j]?=Qa e->a4A e=false:=λj e q=>by
     obtain z'|z':=hb.at q;.rw[z'];rfl
     .exact a2p cap Z j e z'
    have I:=hD;refine#[#[r.grow.gg,r.grow.hh.wr I p,λb o e=>?_,r.grow.new,r.grow.nt],r.len,λj o e h1 q=>?_,Inj.free (λj e q=>g j e q),r.tab.wr p];.rw[aF<|aP e L];exact r.sub b o e
    .have E:=r.ent j o e h1 q;cases e with|no=>trivial|val d=>exact E|exc c=>let⟨b,C,z,g1,T⟩:=E;exact#[b,C,z,g1,by rwa[aF<|dI T p<|by unfold xcO;nofun]]|lst es=>have:=g j _ q;cases this|nst dss=>have:=g j _ q;cases this|dct kvs=>have:=g j _ q;cases this|adr a=>exact E|ro oa b=>exact yL.wr E I
   .rw[if_neg s];exact#[t,f.length-(i+1),by omega,rfl,F,by lia,G4,(S.more P).weak<|hw _ u,M]
  .rw[if_pos hd];exact#[x,.ex c,G4,u,he,S.more P,rfl]
section
variable{cap:T0e}
def b9e(X:Cx)(scope:Scope)(N':T0q)(c:Str)(G H:Hp)(C:Addr)(s3z:Shared)(H3z:Hp)(fp:T0o)(e:Value)(s':Shared):Prop:=∃B U H' G',Inv (cZ X scope N' C s3z H3z fp) B U H' s'/\Grow G H G' H'/\b3A (cZ X scope N' C s3z H3z fp) c e H' s'
def b5B{f j:Shared}{e:Value}{cl:T0f}{acc:Value}(S:X.stack=X.env::X.outer)(hf:X.env.frame=Qa X.env.locals)(D:Inv X B U H3z f)(E:∀b∈fp,a2w X B H3z b)(R:RepS X.K H0 Gz G H U Z)(q:nA X H0 Gz G Z c)(z:b9e X scope N' c G H f.heap.objs.size f H3z fp e j):notedBy (model X.prog X.w) X.A (QE scope cl f.heap.objs.size X.env) (λx j=>cpX (model X.prog X.w) X.A X.xe X.env Q acc f.heap.objs.size (.error x) j) e j:=by
 let⟨P,σ',H',G',A,g,a,C,rfl,hC,xa⟩:=z;have J:=D.call' (ch:=fp) A.os A.base A.hok A.bare λb i=>by let⟨_,f1,_,f3,f4,K⟩:=E b i;exact#[f3,f1,f4,K]
 have k:∀b,(f.heap.get? b=Qb\/j.heap.get? b=Qb)->∀p∈B,p.1≠b:=λb i p u w=>by
  obtain i|i:=i;.have:=(D.pin p<|qi _ u).1;rw[w,i]at this;cases this
  .have:=(J.pin p<|qi _ u).1;rw[w,i]at this;cases this
 have M:pV X (λb=>tZ X b/\∀p∈B,p.1≠b) H' a C j.heap:=xa.mono λb i=>by
  obtain w|w:=i.1;.let⟨_,f1,_,f3,f4,K⟩:=E b w;refine#[#[f3.imp id λy=>zF y,λp u=>K p<|je _ u],λp u=>K p<|qi _ u]
  .exact#[tK D w,k b<|.inl w]
 refine a4j (X:=X) J.ok.frames S hf J M (λb i=>#[tK J i,k b<|.inr i]) λh1 ch1 c1 x1=>?_;have I1:=Inv.chg J c1;let⟨m,hn,_⟩:=A.loc;let⟨oL,es,ep,t,N⟩:=hn;have t:j.heap.get? f.heap.objs.size=Qa oL:=t;have cL:f.heap.objs.size∉ch1:=λz=>by let⟨_,_,o,vs,I,L⟩:=c1.ch _ z;rw[t]at I;cases I;rw[N.1]at L;cases L
 let⟨sl,qL⟩:=c1.un.any t A.free cL;have nL:=kc D.lt;refine#[m,#[_,es,ep,qL,N],λh2 r ce hce=>?_];have r:=r;have I2:=Inv.turned (s:={j with heap:=h1}) (t':=j.toks) (it:=f.heap.objs.size) I1 (λb o i e=>r.extBut b o i e) A.free nL (.inr D.sz) (λx c e z=>by let⟨v,q⟩:=D.cell x c e;exact absurd q.lt<|by rw[z];exact jl _) λp u z=>absurd (qQ (D.pin p u).1) (by rw[z];exact jl _)
 have x2:a0s (λb=>tZ X b/\∀p∈B,p.1≠b) (v7 X.env.locals) H' a C h2:=by
  let⟨h1',h2',oe,vs,a0,T,oT,ts,I,L,e3,e4,e5,e6,e7,e8,e9,F,e11⟩:=x1;have ne:∀b o us,h1.get? b=Qa o->o.data=.fields us->b≠f.heap.objs.size:=λb o us e d w=>by rw[w,qL]at e;cases e;have d:=d;rw[N.1]at d;cases d
  exact#[h1',h2',oe,vs,a0,T,oT,ts,r.extBut _ _ (ne _ _ _ I e3) I,L,e3,e4,e5,e6,e7,e8,r.extBut _ _ (ne _ _ _ e9 F) e9,F,e11]
 refine b9Y (X:=X) (s:={j with heap:=h2}) I2.hok x2 λh3 ch3 c3 x3=>?_;rw[hce,hf]at x3;exact q B _ U H' G' _ (Inv.chg (s:={j with heap:=h2}) I2 c3) (R.more g) g.gg #[a,C,rfl,hC,.inr #[_,hf,x3.mono λb i=>i.1]]
def b8B(S:X.stack=X.env::X.outer)(hfr:X.env.frame=Qa X.env.locals)(hc:X.calm=Qc)(B0:Blk X scope N' cap)(hi:DI X tg iter fi)(hf:a3y cap t=Qc)(hg:∀C a b fp,DG (cZ X scope N' C a b fp) tg t)(ht:∀C a b fp,DTs (cZ X scope N' C a b fp) ifs ft)(he:∀C a b fp E,DE ((cZ X scope N' C a b fp).wish E) elt fe)(hs:∀x,v6 iter X.env x=pure x:=by intro _;rfl):DE X (.ListComp elt [#[tg,iter,ifs,0]] scope pos) (a2l t cap fi ft fe):=#[by
 rintro B s U H Q I⟨Z,r,H0,Gz,G,e,R,q⟩;have o:∀P,fK t cap fi ft fe Z=Qa P->P=r->wpAny (model X.prog X.w) X.A (eval (.ListComp elt [#[tg,iter,ifs,0]] scope pos) X.env) (EP X B U Q) X.xe s:=λP e' er=>by subst er;exact(fW hc B0 hi hf hg ht (λC a b fp=>he C a b fp λ_ _=>False) hs).run B s U H Q I #[Z,_,H0,Gz,G,e',R,q]
 obtain⟨O,K,y⟩|⟨c,K,y⟩:=cM e
 .split at y
  .rename_i hz;obtain⟨es,e3,e4⟩|⟨c,e3,e4⟩:=cM y;.cases e4;refine o _ ?_ rfl;unfold fK;rw[K,b3x,if_pos hz,a0M e3];rfl
   .subst e4;let⟨i,d,post,e5,e6,e7,e8,e9⟩:=a4n e3;rw[eval_ListComp];refine b1O rfl hs (gY λp hp hk=>I.ok.has p.1<|.inl<|B0.free p hp hk) B0.kind B0.names ?_;refine thn (hi.run B s U H (λJ F=>∃k,Grow G H k F/\Walk X.K J k O) I #[Z,_,H0,Gz,G,K,R,λJ k F g w=>#[k,g,w]]) ?_;rintro v s1 h1;refine thn h1 ?_;rintro itv s2⟨it,fp,tn,J,L,e',I2,T,N,f2,M,g2,wk⟩;subst e';have R2:=R.more g2;have A:cT t (cF cap Z) ft d=true:=by unfold cT;rw[e8]
    have j:∀x∈i++[d],tgD t (cF cap Z) x=Qa (cX t (cF cap Z) x)/\ft (cX t (cF cap Z) x)=Qa (.ok<|cT t (cF cap Z) ft x):=λx f=>by
     obtain f|f:=qU.mp f;.exact#[(e6 x f).1,(e6 x f).2.1]
     .cases qf.mp f;exact#[e7,by rwa[A]]
    refine a2k (RR:=λacc C=>cpX (model X.prog X.w) X.A X.xe X.env (EP X B U Q) acc C) (XE:=λC a b fp=>b9e X scope N' c M L C a b fp) (g:=gU X.K (i++[d]) (λx=>x) (cF cap Z)<|cX t<|cF cap Z) (tc:=tU X.K (i++[d]) (cX t<|cF cap Z)<|cT t (cF cap Z) ft)
     (Q:=λ_ _=>False) (te:=eX X.K (i++[d]) (cX t<|cF cap Z) fe c L M) hc B0 I2 T N f2 (by rintro C a b fp B s U H v u Q I r⟨x,f,q⟩;exact((hg C a b fp).run _ _ _ (j x f).1).run B s U H v u Q I r q)
     (by rintro C a b fp B s U H Q I⟨x,f,q⟩;exact((ht C a b fp).run _ _ (j x f).2).run B s U H Q I q) (λC a b fp B s U H Q I⟨x,r,k,f,er,R',q'⟩=>?_)
     (b5J R2 (e5▸wk) (.refl _) (λx f=>a3c hf (j x f).1) (e5▸fZ hz) (λx f hcx=>(e6 x f).2.2 hcx) A e9) (λD a b e s' I3 hf3 hD hH hsz z=>?_) (λD C s' F m' _ _ _ _ _ z=>z.elim);.refine(he C a b fp<|b9e X scope N' c M L C a b fp).run B s U H Q I #[_,r,L,M,k,er,R',?_];cases r with|ok d=>exact q'|ex c'=>cases q';exactλB s' U F G'' e I' R'' _ x=>#[B,U,F,G'',I'.unwish,R''.grow,x]
    .exact b5B S hfr I3 hf3 R2 (q.mono g2.gg) z
  .cases y
 .subst y;refine o _ ?_ rfl;unfold fK;rw[K];rfl]
end
end L2.L3
namespace L2.L3
open PySem PySem.Spec PySem.Calls PyProof.Rows
noncomputable abbrev a2Z(qual:Str)(scope:Scope)(L f:Addr)(cd:Value)(cl:T0f):Env:=newEnv scope L j6 cl (qual++".<locals>.") (Qa f) cd Qb yy
variable{body:Expr}
section
variable{K:qB}
def cxL(P:Program)(w:World)(K:qB)(mg:T0d)(base:Heap)(N:T0q)(env:Env)(A:Around)(outer:List Env)(s:Shared)(H:Hp)(E:XK):Cx where prog:=P;w:=w;K:=K;mg:=mg;base:=base;A:=A.deeper env;N:=N;s₀:=s;H₀:=H;env:=env;outer:=outer;stack:=env::outer;ex:=[];calm:=Qc;fn:=λ_=>Qd;pn:=[];xe:=λe s'=>wpAny (model P w) (A.deeper env) (leaving env e) (λ_ s''=>CX1 P w outer H s E e s'') (λe' s''=>CX1 P w outer H s E e' s'') s'
structure Caps(cl:T0f)(scope:Scope)(N:T0q)(U:St)(H:Hp)(h:Heap):Prop where
 inj:∀x y c,cl.lookup x=Qa c->cl.lookup y=Qa c->x=y
 has:∀x,scope.names.lookup x=Qa .free->∃c,cl.lookup x=Qa c
 cell:∀x c,cl.lookup x=Qa c->H c=Qb/\∃v,h.IsCell c v
 val:∀(i:Nat) x v,N[i]?=Qa x->U[i]?=Qa (Qa v)->scope.names.lookup x=Qa .free/\∃u c,RelV v u/\cl.lookup x=Qa c/\h.IsCell c (Qa u)len:U.length=N.length
def Caps.more{h:Heap}{fs:T0o}(C:Caps cl scope N U H h)(un:Un fs [] H H' h h'):Caps cl scope N U H' h':=by
 have f:∀x c v,cl.lookup x=Qa c->h.IsCell c v->h'.IsCell c v:=by rintro x c v e⟨o,a,b⟩;let⟨s,q⟩:=un.any a (C.cell x c e).1 (by simp);exact#[_,q,b]
 refine#[C.inj,C.has,λx c e=>?_,λi x v r p=>?_,C.len];.let⟨n,v,o,a,b⟩:=C.cell x c e;exact#[un.free c o a n (by simp),v,f x c v e #[o,a,b]]
 .let⟨k,u,c,j,d,g⟩:=C.val i x v r p;exact#[k,u,c,j,d,f x c _ d g]
def b3a{f:Addr}{D:Value}{cl:T0f}{outer:List Env}{E:XK}(Q:scope.kind=.function)(r:∀x∈scope.names,x.2≠.cell)(t:A.handled=Qb)(d:Env0 P w K mg base A outer s H)(C:Caps cl scope N U H s.heap)(j:∃m,h1.Ns s.heap.objs.size m)(k:U9 s.heap h1):Inv (cxL P w K mg base N (a2Z qual scope s.heap.objs.size f D cl) A outer s H E) [] U H {s with heap:=h1,toks:=tk}:=by
 have e:∀b:Addr,b∉(cxL P w K mg base N (a2Z qual scope s.heap.objs.size f D cl) A outer s H E).ex:=λb z=>absurd (show b∈([]:T0o)from z) (by simp);let⟨m,j⟩:=j;have a:∀c v,s.heap.IsCell c v->h1.IsCell c v:=(by rintro c v⟨o,M,t⟩;exact#[o,k _ _ M,t]);refine#[#[d.mod,Q,rfl,rfl,qM _,C.inj,λy g=>?_,(λy c z _=>nomatch z),λ_=>t,Around.frames_deeper d.frames,.inr #[rfl,rfl],λb z=>absurd z<|e b,d.bs,d.bsz,λb _ _=>e b,λb z=>absurd z<|e b,d.funs,d.frf],rfl,d.bare,Un.kept k,#[m,j,λi y v h1 R S=>?_],λy c h=>?_,d.hok.fresh<|qM _,λy c h=>(C.cell y c h).1,λp L=>absurd (show p∈([]:T0b)from L) (by simp),d.hok.kept k,C.len]
 .have g:=g;obtain g|g:=g;.exact absurd rfl (r _<|qw g)
  .exact C.has y g
 .let⟨J,u,c,I,G,F⟩:=C.val i y v h1 R;exact#[u,I,.inr #[.inr J,c,G,a c _ F]]
 .let⟨_,v,q⟩:=C.cell y c h;exact#[v,a c v q]
noncomputable def c5o(K:qB)(G H:Hp)(r:Re q8):VK:=λv H'=>∃G' d,r=.ok d/\Grow G H G' H'/\Rep K G' v d
def b9g(K:qB)(G H:Hp)(r:Re q8):XK:=λcv _ H'=>∃G' C c,cv=.ref C/\r=.ex c/\fJ K c=Qa C/\Grow G H G' H'
def b8x{f c:Addr}{cl:T0f}{outer:List Env}{o:Obj}(hr:Room (k+1) A)(e0:Env0 P w K mg base A outer s H)(ho:s.heap.get? f=Qa o)(M:o.data=.func (zU "<lambda>" qual params body scope cl pm (.ref c) ct))(hcd:s.heap.CodeRec (.ref c) qual)(hk:scope.kind=.function)(T:scope.isCoroutine=Qd)(S:scope.isGenerator=Qd)(p:∀x∈scope.names,x.2≠.cell)(t:ye (zU "<lambda>" qual params body scope cl pm (.ref c) ct) #[[],[]]=pure [])(i:DE (cxL P w K mg base N (a2Z qual scope s.heap.objs.size f (.ref c) cl) A outer s H<|b9g K G H r) body fe)(C:Caps cl scope N U H s.heap)(R:RepS K H G G H U Z)(hf:fe Z=Qa r):wm (model P w) A (.call (.ref f) #[[],[]]) (CR (CX1 P w) outer P w H s (c5o K G H r)<|b9g K G H r) s:=by
 have D:=e0.mod.nolimit.keeps λb o e=>(e0.bs b o e).1;refine PySem.W.kla_callFunE hr.depth ho M T S rfl hcd ?_;rw[t];refine j3<|wpAny_newFunctionEnv p (by simp) (λh1 Q E=>?_) hk;have kp:∀b o,s.heap.get? b=Qa o->h1.get? b=Qa o:=λb o e=>E.extBut b o (qd<|qQ e)<|qC _ e;refine#[D.keeps kp,PySem.W.kla_codeExpr ?_];have I:Inv (cxL P w K mg base N (a2Z qual scope s.heap.objs.size f (.ref c) cl) A outer s H<|b9g K G H r) [] U H {s with heap:=h1,toks:=s.toks+([]:T0g).length}:=b3a hk p hr.hd e0 C #[_,Q] kp;refine v0 (i.run [] _ U H (c5o K G H r) I #[Z,r,H,G,G,hf,R,?_]) (λu' s' F=>?_) λe s' F=>F;.cases r with|ok d=>exactλv G' u g y=>#[G',d,rfl,g,y]|ex c'=>
   rintro B s' σ' u G' e' j R' _⟨a,C',e1,hE,xa⟩;subst e1;refine a0P (X:=cxL P w K mg base N (a2Z qual scope s.heap.objs.size f (.ref c) cl) A outer s H<|b9g K G H<|.ex c') (fr:=λb=>s.heap.get? b=Qb) j.ok.frames rfl rfl j (xa.mono λb t=>?_) (λb t=>?_) λh' ch un hch L x'=>?_
   .obtain z|z:=t.1;.cases z
    .exact z
   .cases z:s.heap.get? b with|none=>rfl|some o=>let⟨o',z'⟩:=j.base.there b o z (by intro w;cases w);rw[t]at z';cases z'
   .exact#[a,C',u,rfl,#[G',C',c',rfl,rfl,hE,R'.grow],j.os,j.bare,a0y j rfl un hch,L,x']
 .let⟨v',u,J,y,q⟩:=F;exact#[v',u,J.os,J.bare,J.base,J.hok,y,q]
end
structure RoomN(k:Nat)(A:Around):Prop where
 dp:A.depth+3*k+5<uk
 un:A.units+16*k+200<cLine
theorem RoomN.units{k:Nat}{A:Around}(r:RoomN k A):A.units+64<cLine:=by have:=r.un;lia
def Room.n(r:Room k A)(e:T0p):RoomN k (A.mark e):=#[r.dp,r.un]
section
variable{K:qB}{x:Str}{F:Str->Mm q8}
abbrev fcN(P:Program)(w:World)(K:qB)(mg:T0d)(base:Heap)(N:T0q)(qual:Str)(scope:Scope)(f:Addr)(cd:Value)(A:Around)(outer:List Env)(s:Shared)(H:Hp):Cx:={a2i CX0 P w K mg base N qual scope f cd A outer s H E0 with calm:=Qd,xe:=λ_ _=>False}
structure ClsOk(P:Program)(w:World)(K:qB)(mg:T0d)(base:Heap)(x:Str)(k:Nat)(F:Str->Mm q8):Prop where ex:∃f,mg x=Qa (.ref f)/\jQ K (.ref f)=Qc/\∀ A outer s H G a C c d,RoomN k A->Env0 P w K mg base A outer s H->(aW G H/\oZ K G H)->fJ K c=Qa C->H a=Qa (xcO a C)->F c=Qa (.ok d)->wm (model P w) A (.call (.ref f) #[[.ref a],[]]) (CR CX0 outer P w H s (λv H'=>∃G',Grow G H G' H'/\Rep K G' v d) E0) s
def c1G m(D:Def K mg x st)(S:FnScope N [y] (aD st))(hm:N.length=m)(hb:∀ kV doc pm(an:T0k) cdv ct(us:T0m),us.length=[y].length->ye (jY x x (fV st) (bU st) (aD st) .none kV doc pm an cdv ct) #[us,[]]=pure ([y].zip us))(R:∀ fa cdv A i s H,RoomN 0 (A.deeper<|wx x (aD st) s.heap.objs.size fa cdv)->DB (fcN P w K mg base N x (aD st) fa cdv A i s H) (bU st) f):ClsOk P w K mg base x 1 (c3e m f):=by
 let⟨fa,fd,Fu,hmg⟩:=D.ex;refine#[fa,hmg,Fu.kp,λA i s H G a C c d hr p sm hC hH L=>?_];have bd:=Fu.binds hb;let⟨oc,od,kV,doc,pm,an,cdv,ct,osl,rfl,lk,hcd⟩:=Fu.ex;have KX:=p.mod.kin.keeps λb o e=>(p.bs b o e).1;have lim:=p.mod.nolimit.keeps λb o e=>(p.bs b o e).1;have F:∀z∈[y].zip [jC a],(aD st).names.lookup z.1=Qa .local\/((aD st).names.lookup z.1=Qa .cell/\((v4 (s.heap.objs.size+1) (aD st).names []).lookup z.1).isSome=Qc):=by
  rintro ⟨n,v⟩hy;obtain q|q:=S.par n (zj hy).1;.exact .inl q
  .exact .inr #[q,zL _ _ _<|.inl q]
 have dep:A.depth<uk:=by have:=hr.dp;lia
 refine yx dep (KX _ _ lk) rfl S.co S.gen rfl (vv KX hcd)<|bd s [.ref a] KX rfl _ _ _ _ ?_;refine yj S.kind F λenv he T xx=>?_;subst he;refine#[lim.keeps xx.toInCall.keep,codeAny_func ?_];have e1:Env0 P w K mg base {A with handled:=Qb} i s H:=#[p.frames,p.mod,p.bs,p.bsz,p.funs,p.frf,p.hok,p.bare];have J:Inv (a2i CX0 P w K mg base N x (aD st) fa cdv {A with handled:=Qb} i s H E0) [] (start N [.ref a]) H T:=a1W S rfl e1 rfl (.cons rfl .nil) xx;have I:Inv (fcN P w K mg base N x (aD st) fa cdv A i s H) [] (start N [.ref a]) H T:=#[#[J.ok.mod,J.ok.kind,J.ok.glob,J.ok.blt,J.ok.above,J.ok.inj,J.ok.has,J.ok.cab,(λz=>nomatch z),J.ok.frames,J.ok.stk,J.ok.exf,J.ok.bs,J.ok.bsz,J.ok.noex,J.ok.exfs,J.ok.funs,J.ok.frf],J.os,J.bare,J.base,J.loc,J.cell,J.free,J.freeC,J.pin,J.hok,J.len];unfold c3e at L;rw[<-hm]at L;have Q:∀(r:Flow)(t:Shared),SP (fcN P w K mg base N x (aD st) fa cdv A i s H) [] {nx:=λ_ k=>∃j,Grow G H j k/\Rep K j .non d,rt:=λv k=>∃j,Grow G H j k/\Rep K j v d} r t->(match r with|.ret u=>CR CX0 i P w H s (λv k=>∃j,Grow G H j k/\Rep K j v d) E0 (.ok<|.ret u) t|.next=>CR CX0 i P w H s (λv k=>∃j,Grow G H j k/\Rep K j v d) E0 (.ok<|.ret .none) t|_=>False):=λr t E=>by cases r with|ret u=>let⟨v,M,k,J,X,q⟩:=E;exact#[v,k,J.os,J.bare,J.base,J.hok,X,q]|next=>let⟨M,k,J,q⟩:=E;exact#[.non,k,J.os,J.bare,J.base,J.hok,rfl,q]|brk=>let⟨_,_,_,q⟩:=E;exact q.elim|cont=>let⟨_,_,_,q⟩:=E;exact q.elim
 have run:∀o,f (.exc c::qx (N.length-1) .no)=Qa o->a1u (fcN P w K mg base N x (aD st) fa cdv A i s H) H G G {nx:=λ_ k=>∃j,Grow G H j k/\Rep K j .non d,rt:=λv k=>∃j,Grow G H j k/\Rep K j v d} o->wpAny (model P w) (A.deeper<|wx x (aD st) s.heap.objs.size fa cdv) (execs (bU st)<|wx x (aD st) s.heap.objs.size fa cdv) (SP (fcN P w K mg base N x (aD st) fa cdv A i s H) [] {nx:=λ_ k=>∃j,Grow G H j k/\Rep K j .non d,rt:=λv k=>∃j,Grow G H j k/\Rep K j v d}) (λ_ _=>False) T:=λo e q=>(R fa cdv A i s H #[by have:=hr.dp;show A.depth+1+3*0+5<_;omega,by have:=hr.un;show A.units+3+16*0+200<_;omega]).run [] T _ H _ I #[_,o,H,G,G,e,b3O sm hC hH,q];split at L;.rename_i d' e;cases(qA L);refine v0 (run _ e λv j k _ g X=>#[j,g,X]) (λr t E=>?_) λ_ _ z=>z.elim;have:=Q r t E;cases r<;>first|exact this|exact this.elim
 .rename_i ρ' e;cases(qA L);refine v0 (run _ e λj k M _ R'=>#[j,R'.grow,.none]) (λr t E=>?_) λ_ _ z=>z.elim;have:=Q r t E;cases r<;>first|exact this|exact this.elim
 .cases L
end
variable{c:Str}
def b4Z{c:Addr}{dn:Str}{y:VK}{A:XK}(I:Inv X B U H s)(M:X.N[i]?=Qa dn)(k:U[i]?=Qa (Qa<|.ref c))(G:Vis X.env.scope dn)(K:U2 dn)(q:U3 dn)(J:∀s',Inv X B U H s'->wL c s'.heap)(run:∀s',Inv X B U H s'->wm (model X.prog X.w) X.A (.call (.ref c) #[[],[]]) (CR (CX1 X.prog X.w) X.stack X.prog X.w H s' y A) s'):wpAny (model X.prog X.w) X.A (eval (.Call (.Name dn p) [] [] pos) X.env) (EP X B U y) (λe s'=>∃a C H',e=.ref a/\A (.ref C) Qb H'/\Inv X B U H' s'/\ExcAt (tZ X) H' a C s'.heap) s:=by have nm:=dF (X:=X.wish λ_ _=>False) (pos:=p) M G K q B s U H (λv H'=>v=.ref c/\H'=H) (I.wish _) #[.ref c,k,rfl,rfl];refine v1 (v0 nm (?_) λ_ _ z=>z.elim);rintro u t⟨v,T,r,E,P,w⟩;subst P w;cases E;have g:=r.unwish;refine PySem.W.callWith_F0 (J t g)<|yh (wf (run t g) λj s' d=>?_);cases j with|error w=>let⟨Q,S,R,rfl,N,F,f,un,o,D⟩:=d;exact#[Q,S,R,rfl,N,g.call' (ch:=[]) F un o f (λb z=>nomatch z),D.mono λb L=>tK g L]|ok c=>cases c with|ret u=>exact g.after d|next=>exact qy d|brk=>exact qy d|cont=>exact qy d
def b8F{x n:Str}{d:q8}{F:Str->Mm q8}{e:T0p}(K0:ClsOk X.prog X.w X.K X.mg X.base x k F)(M:RoomN k X.A)(I:Inv X B U H s)(R:X.N[j]?=Qa n)(i:U[j]?=Qa (Qa<|.ref a))(L:Vis X.env.scope n)(Q:U2 n)(r:U3 n)(A:aW G H/\oZ X.K G H)(hC:fJ X.K c=Qa C)(S:H a=Qa (xcO a C))(T:F c=Qa (.ok d))(P:Gl X x)(q:U2 x)(y:j4 [.Name n p2] X.env=(Qd,eval (.Name n p2) X.env)::j4 [] X.env)(o:U6 X pos []):wpAny (model X.prog X.w) X.A (eval (.Call (.Name x p) [.Name n p2] [] pos) X.env) (EP X B U λv H'=>∃G',Grow G H G' H'/\Rep X.K G' v d) X.xe s:=by let⟨f,N,K,run⟩:=K0.ex;refine v1<|gT I P N ?_ q;refine jf (h₀:=X.base) I.ok.mod.kin K (thn (dR (dF R L Q r) gE y pos B s U H (λw H'=>w=[.ref a]/\H'=H) I #[.ref a,i,rfl,rfl]) ?_) y o;rintro us D⟨w,H1,t,E,e1,z⟩;refine#[t.kIn,?_];subst e1 z;let⟨u,rfl,J⟩:=vals1 E;cases J;refine yh (wf (run X.A X.stack D H1 G a C c d M t.env0 A hC S T) λg s' b=>?_);cases g with|error z=>exact b.elim|ok fl=>cases fl with|ret u=>exact t.after b|next=>exact qy b|brk=>exact qy b|cont=>exact qy b
noncomputable def pH(L:T0q)(F:Str->Mm q8)(r:Re q8):Option q8:=match r with|.ok d=>Qa d|.ex c=>if L.contains c then(match F c with|some (.ok d)=>Qa d|_=>Qb)else Qb
variable{L:List Str}
section
variable{K:qB}{x:Str}{F:Str->Mm q8}
structure DeedOk(P:Program)(w:World)(K:qB)(mg:T0d)(base:Heap)(k:Nat)(s:Shared)(H G:Hp)(r:Re q8)(fl:Addr):Prop where
 fn:∀(s':Shared) fs,Un fs [] H H s.heap s'.heap->wL fl s'.heap
 run:∀ A outer s' fs,Room k A->Env0 P w K mg base A outer s' H->Un fs [] H H s.heap s'.heap->wm (model P w) A (.call (.ref fl) #[[],[]]) (CR (CX1 P w) outer P w H s' (c5o K G H r) (b9g K G H r)) s'
structure ToldOk(P:Program)(w:World)(K:qB)(mg:T0d)(base:Heap)(x:Str)(L:T0q)(F:Str->Mm q8):Prop where ex:∃f,mg x=Qa (.ref f)/\jQ K (.ref f)=Qc/\∀ k A outer s H G r d fl,Room (k+2) A->Env0 P w K mg base A outer s H->(aW G H/\oZ K G H)->DeedOk P w K mg base k s H G r fl->pH L F r=Qa d->wm (model P w) A (.call (.ref f) #[[.ref fl],[]]) (CR CX0 outer P w H s (λv H'=>∃G',Grow G H G' H'/\Rep K G' v d) E0) s
end
def a3x(L:T0q)(F:Str->Mm q8)(cap:T0e)(fe:EF):EF:=λZ=>match fe (cF cap Z)with|some r=>lft (pH L F r)|none=>Qb
def b3w{cap:T0e}(B0:Blk X scope N' cap)(I:Inv X B U H s):Caps (a2m scope X.env) scope N' (iH cap U) H s.heap:=by
 have cl:∀x c,(a2m scope X.env).lookup x=Qa c->X.env.cells.lookup x=Qa c:=λx c h=>a8l h;refine#[λx y c d t=>I.ok.inj x y c (cl x c d)<|cl y c t,λx h=>?_,λx c h=>#[I.freeC x c<|cl x c h,I.cell x c<|cl x c h],λi x v E b=>?_,by unfold iH;rw[qF];exact B0.len];.have w:=qw h;let⟨c,e⟩:=I.ok.has x<|.inl<|B0.free _ w rfl;exact#[c,a1d w e]
 .unfold iH at b;rw[qS]at b;cases g:cap[i]? with|none=>rw[g]at b;cases b|some o=>rw[g]at b;cases o with|none=>cases b|some j=>
    have f:(U[j]?).getD Qb=Qa v:=qA b;have D:U[j]?=Qa (Qa v):=by cases q:U[j]? with|none=>rw[q]at f;cases f|some A=>rw[q]at f;have:A=Qa v:=f;rw[this]
    let⟨y,d,t,p⟩:=B0.caps i j g;rw[E]at d;cases d;have a:=B0.free _ (qw p) rfl;let⟨m,_,C⟩:=I.loc;let⟨u,r,l⟩:=C j x v t D<|.inr<|.inl a;obtain⟨k,_⟩|⟨_,c,e,z⟩:=l;.rw[a]at k;cases k
    .exact#[p,u,c,r,a1d (qw p) e,z]
def b3r{x:Str}{F:Str->Mm q8}{c T:Addr}{cap:T0e}(T0:ToldOk X.prog X.w X.K X.mg X.base x L F)(hx:q∈eZ)(ht:jk X.K q=Qa (c,T))(g:X.env.code=.ref c)(b:X.env.qual++"<lambda>"=lamQ q)(C:kO X.K c T=Qc)(M:BM X.mg X.base)(hr:Room (k+3) X.A)(B0:Blk X scope N' cap)(N:∀y∈scope.names,y.2≠.cell)(i:∀ f c cl(A:Around)(a:List Env) s H E,Room k (A.deeper<|a2Z (lamQ q) scope s.heap.objs.size f (.ref c) cl)->DE (cxL X.prog X.w X.K X.mg X.base N' (a2Z (lamQ q) scope s.heap.objs.size f (.ref c) cl) A a s H E) body fe)(j:∀ pm ct c(cl:T0f),ye (zU "<lambda>" (lamQ q) params body scope cl pm (.ref c) ct) #[[],[]]=pure []:=by intros;rfl)(hco:scope.isCoroutine=false:=by rfl)(P:scope.isGenerator=false:=by rfl)(t:defaultsOf params X.env=([],[]):=by rfl)(he:j4 [.Lambda params body scope lp] X.env=(Qd,eval (.Lambda params body scope lp) X.env)::j4 [] X.env:=by rfl)(K:U6 X pos []:=by rfl)(hg:Gl X x:=by rfl)(S:U2 x:=by decide):DE X (.Call (.Name x p) [.Lambda params body scope lp] [] pos) (a3x L F cap fe):=#[by
 rintro B s U H Q I⟨Z,r0,H0,Gz,G,e,R,qq⟩;unfold a3x at e;split at e
 .rename_i r er;let⟨d,ed,rfl⟩:=bS e;let⟨f,hm,kp,run⟩:=T0.ex;refine v1 (gT I hg hm ?_ S);refine jf (h₀:=X.base) I.ok.mod.kin kp ?_ he K;rw[he];refine ky (a9I hx ht g b C M t (gY λp hp hk=>I.ok.has p.1<|.inl<|B0.free p hp hk) I R λw c' ct pm H2 s2 D g2 fo Hf sf hc'=>?_);refine zE #[D.kIn,?_];have R2:=R.more g2;have dd:DeedOk X.prog X.w X.K X.mg X.base (k+1) s2 H2 G r w:=by
   refine#[λs' fs un=>?_,λA a s' fs o e0 un=>?_];.let⟨sl,z⟩:=un.any fo Hf (by simp);exact#[_,_,_,_,z]
   .let⟨sl,z⟩:=un.any fo Hf (by simp);exact b8x o e0 z rfl (e0.hok c' _ hc').1 B0.kind hco P N (j pm ct c' _) (i _ _ _ _ _ _ _ _<|o.deeper _) ((b3w B0 D).more un) (R2.cap cap) er
  refine yh (wf (run (k+1) X.A X.stack s2 H2 G r d w hr D.env0 #[R2.sub,R2.tab] dd ed) λJ s' b=>?_);cases J with|error e2=>exact b.elim|ok w=>cases w with|ret u=>let⟨v,H',I',rv,G',g',rp⟩:=D.after b;exact#[v,H',I',rv,qq v G' H' (g2.trans g') rp]|next=>exact qy b|brk=>exact qy b|cont=>exact qy b
 .cases e]
def b3f(L:T0q)(K:qB):Bool:=match fJ K "SheetError"with|some S=>a8C K S&&L.all (b3g K S)&&(L.all λc=>L.all λd=>c2v K c d)|none=>Qd
structure ExG(L:T0q)(K:qB):Prop where ok:b3f L K=Qc
variable{d:Str}
section
variable{K:qB}
def ExG.l(F:ExG L K):ExL L K:=#[by
 have h:=F.ok;unfold b3f at h;unfold b7R;split at h;.rename_i S a;rw[qD]at h;first|exact h.1|(rw[a];exact h.1)
 .cases h]
def ExG.one(F:ExG L K)(b:c∈L):∃C,fJ K c=Qa C/\XCls K C/\PySem.W.typeIn K (.ref C)=Qa (.type "type")/\kr K (.ref C) (.type "ValueError")=Qa true:=by
 have h:=F.ok;unfold b3f at h;split at h
 .rename_i S e;rw[qD,qD]at h;have a:=qu.mp h.1.2 c b;unfold b3g at a;split at a;.rename_i C d;simp only[qD,beq_iff_eq]at a;exact#[C,d,a7b a.1.1.1,a.1.1.2,a.1.2]
  .cases a
 .cases h
def ExG.two(F:ExG L K)(e:c∈L)(b:d∈L)(n:c≠d){D:Addr}(g:fJ K c=Qa C)(f:fJ K d=Qa D):C≠D/\kr K (.ref C) (.ref D)=Qa false:=by
 have h:=F.ok;unfold b3f at h;split at h
 .rw[qD,qD]at h;have a:=qu.mp (qu.mp h.2 c e) d b;unfold c2v at a;rw[g,f]at a;obtain z|z:=Bool.or_eq_true_iff.mp a;.exact absurd (beq_iff_eq.mp z) n
  .simp only[qD,beq_iff_eq,bne_iff_ne]at z;exact z
 .cases h
end
variable{pi:Pos}
section
variable{x:Str}
noncomputable def a5B(L:T0q)(i:Nat)(d:Str):EF:=λZ=>match Z[i]? with|some (.exc c)=>if L.contains c then Qa (.ok<|.bool<|c==d)else Qb|_=>Qb
def pR i(F:ExG L X.K)(hm:X.mg "isinstance"=Qb)(f:d∈L:=by decide)(k:U0 X i x:=by exact U1)(J:U2 d:=by decide)(N:j4 [.Name x p,.Name d p2] X.env=(Qd,eval (.Name x p) X.env)::j4 [.Name d p2] X.env:=by rfl)(E:j4 [.Name d p2] X.env=(Qd,eval (.Name d p2) X.env)::j4 [] X.env:=by rfl)(y:(j9 pos<|j4 [.Name d p2] X.env).any (·.1)=false:=by rfl)(hg:Gl X "isinstance":=by rfl)(A:Gl X d:=by rfl):DE X (.Call (.Name "isinstance" pi) [.Name x p,.Name d p2] [] pos) (a5B L i d):=#[by
 rintro B s U H Q I⟨Z,r,H0,Gz,G,e,R,q⟩;let⟨D,t,P,w,_⟩:=F.one f;have z:=kR I.mod.kin I.mod.glob (a8d t);have hc:pC X (.builtin "isinstance") (λY H Q=>∃a C c,Y=[.ref a,.ref D]/\c∈L/\fJ X.K c=Qa C/\H a=Qa (xcO a C)/\Q (.bl<|c==d) H):=by
  rintro B s U H Y us Q I r⟨a,C,c,e1,b,j,K,q⟩;subst e1;let⟨u,w',rfl,T,r2⟩:=vals2 r;cases T;cases r2;let⟨⟨ox,M⟩,_⟩:=I.hok a _ K;let⟨C',g,S,_⟩:=F.one b;rw[j]at g;cases g;by_cases h:c=d;.subst h;rw[j]at t;cases t;refine c5s I.kIn M (by unfold PySem.W.isIn;simp) #[.bl<|c==c,H,I,by show jy Qc=jy (c==c);simp,q]
  .let⟨n1,n2⟩:=F.two b f h j t;exact b5x S P I.kIn M n1 w n2 #[.bl<|c==d,H,I.tok _,by show jy Qd=jy (c==d);simp[h],q]
 refine uX hc hg hm boot_isinstance (dR (dF k.1 k.2 k.3 k.4) (dR (b2G (v:=.ref D) A z rfl J) gE E) N) (by decide) (by decide) N y B s U H Q I ?_;unfold a5B at e;split at e
 .rename_i c hi;split at e;.rename_i b;cases(qA e);let⟨o,eo,a,C,rfl,j,K⟩:=R.at hi;exact#[_,eo,a,C,c,rfl,by simpa using b,j,K,q _ G H (.refl R.sub)<|.bool _]
  .cases e
 .cases e]
noncomputable def c4v(L:T0q)(i:Nat):EF:=λZ=>match Z[i]? with|some (.exc c)=>if L.contains c then Qa (.ok<|.bool Qc)else Qb|_=>Qb
def c1q i(F:ExG L X.K)(J:X.mg "isinstance"=Qb)(j:X.mg "ValueError"=Qb)(f:U0 X i x:=by exact U1)(z:j4 [.Name x p,.Name "ValueError" p2] X.env=(Qd,eval (.Name x p) X.env)::j4 [.Name "ValueError" p2] X.env:=by rfl)(t:j4 [.Name "ValueError" p2] X.env=(Qd,eval (.Name "ValueError" p2) X.env)::j4 [] X.env:=by rfl)(g:(j9 pos<|j4 [.Name "ValueError" p2] X.env).any (·.1)=false:=by rfl)(M:Gl X "isinstance":=by rfl)(k:Gl X "ValueError":=by rfl):DE X (.Call (.Name "isinstance" pi) [.Name x p,.Name "ValueError" p2] [] pos) (c4v L i):=#[by
 rintro B s U H Q I⟨Z,r,H0,Gz,G,e,R,q⟩;have N:pC X (.builtin "isinstance") (λY H Q=>∃a C c,Y=[.ref a,.ty "ValueError"]/\c∈L/\fJ X.K c=Qa C/\H a=Qa (xcO a C)/\Q (.bl Qc) H):=by rintro B s U H Y us Q I r⟨a,C,c,S,b,y,w,q⟩;subst S;let⟨u,w',rfl,E,r2⟩:=vals2 r;cases E;cases r2;let⟨⟨ox,A⟩,_⟩:=I.hok a _ w;let⟨C',d,T,_,D⟩:=F.one b;rw[y]at d;cases d;exact c2D I.kIn A c5w D #[.bl Qc,H,I,rfl,q]
 refine uX N M J boot_isinstance (dR (dF f.1 f.2 f.3 f.4) (dR (b2J (v:=.ty "ValueError") k j (by decide+kernel) rfl (by decide)<|by decide) gE t) z) (by decide) (by decide) z g B s U H Q I ?_;unfold c4v at e;split at e
 .rename_i c K;split at e;.rename_i b;cases(qA e);let⟨o,P,a,C,rfl,y,w⟩:=R.at K;exact#[_,P,a,C,c,rfl,by simpa using b,y,w,q _ G H (.refl R.sub)<|.bool _]
  .cases e
 .cases e]
noncomputable def cD:List Str:=["NoBack","NoMeeting","NoSheet","NoText","NoTime","NoZone","Taken","TooMany"]
end
noncomputable abbrev Sto:=List<|Addr×BS
noncomputable def gC:Sto->Addr->Option BS|[],_=>Qb|p::β,a=>if p.1=a then Qa p.2 else gC β a
noncomputable def nR:Sto->Addr->BS->Sto|[],_,_=>[]|p::β,a,b=>if p.1=a then(a,b)::β else p::nR β a b
noncomputable def plus(H0 H:Hp)(F:T0o):Hp:=λx=>if x∈F then H x else H0 x
noncomputable def less(H:Hp)(F:T0o):Hp:=λx=>if x∈F then Qb else H x
def dG{F:T0o}{x:Addr}(h:x∈F):plus H0 H F x=H x:=if_pos h
def bL{F:T0o}{x:Addr}(h:x∉F):plus H0 H F x=H0 x:=if_neg h
def gG{F:T0o}{x:Addr}(h:x∈F):less H F x=none:=if_pos h
def cY{F:T0o}{x:Addr}(h:x∉F):less H F x=H x:=if_neg h
def yT:HO->Prop|.ins _ _ _=>True|.own _=>True|.dK _=>True|.lst _=>True|_=>False
def BOk.kind{K:qB}{b:BS}(h:BOk K G H a b fp):∀x∈fp,∃o,H x=Qa o/\yT o:=by
 let⟨s,d,r,q,p,Y,k,rfl,n,j,i,g,f,e,_⟩:=h;intro x c;simp only[qI,jB,or_false]at c;obtain rfl|rfl|rfl|rfl|rfl:=c;.exact#[_,j,trivial]
 .exact#[_,i,trivial]
 .exact#[_,g,trivial]
 .exact#[_,f,trivial]
 .exact#[_,e,trivial]
def yT.nt{o:HO}(h:yT o):∀ps,o≠.tbl ps:=λps z=>by subst z;exact h
structure StoOk(K:qB)(H0 G H:Hp)(β:Sto)(fps:List (List Addr)):Prop where
 each:Paired (λ(p:Addr×BS)fp=>BOk K G H p.1 p.2 fp) β fps
 nd:fps.flatten.Nodup
 out:∀x∈fps.flatten,H0 x=Qb/\G x=Qb
def bM(K:qB)(H0 Gz G H:Hp)(U:St)(Z:List Ent)(β:Sto):Prop:=∃fps,StoOk K H0 G H β fps/\RepS K (plus H0 H fps.flatten) Gz G H U Z
def pU(K:qB)(H0 Gz G H:Hp)(β:Sto):Prop:=∃fps,StoOk K H0 G H β fps/\Grow Gz (plus H0 H fps.flatten) G H
section
variable{K:qB}{β:Sto}
theorem a2D{c:α->List Addr->Prop}{b:Addr->Prop}(h:∀p fp,c p fp->∀x∈fp,b x):∀{l:List α}{m:List (List Addr)},Paired c l m->∀x∈m.flatten,b x
 |_,_,.nil,x,a=>nomatch a|_,_,.cons r t,x,a=>by
  rw[qe,qU]at a;obtain a|a:=a;.exact h _ _ r x a
  .exact a2D h t x a
theorem StoOk.kind(S:StoOk K H0 G H β fps):∀x∈fps.flatten,∃o,H x=Qa o/\yT o:=a2D (λ_ _ r=>r.kind) S.each
theorem xX:∀{l:List α}{m:List (List Addr)},Paired Φ l m->(∀p fp,fp∈m->Φ p fp->Ψ p fp)->Paired Ψ l m|_,_,.nil,_=>.nil|_,_,.cons r t,h=>.cons (h _ _ qr r) (xX t λp fp a=>h p fp<|qG _ a)
def StoOk.grow(S:StoOk K H0 G H β fps)(i:aW Gz G)(g:Grow Gz (plus H0 H fps.flatten) G' H')(s:aW G G'):StoOk K H0 G' H' β fps/\plus H0 H' fps.flatten=plus H0 H fps.flatten:=by
 have d:∀x∈fps.flatten,∀o,H x=Qa o->H' x=Qa o:=λx a o e=>by let⟨c,b,k⟩:=S.kind x a;rw[e]at b;cases b;exact g.hh.keep x o (by rwa[dG a]) k.nt
 refine#[#[xX S.each λp j f r=>r.keep (λx o a e _=>d x (vJ.mpr #[j,f,a]) o e) s,S.nd,λx a=>#[(S.out x a).1,g.new x (i.free (S.out x a).2) ?_]],?_];.let⟨c,b,_⟩:=S.kind x a;rw[dG a,b];simp
 ·funext x;by_cases a:x∈fps.flatten;.rw[dG a,dG a];let⟨c,b,_⟩:=S.kind x a;rw[b,d x a c b]
  .rw[bL a,bL a]
def bM.of(S:StoOk K H0 G H β fps)(a:aW Gz G)(R:RepS K (plus H0 H fps.flatten) Gz G' H' σ' ρ')(s:aW G G'):bM K H0 Gz G' H' σ' ρ' β:=by let⟨b,e⟩:=S.grow a R.grow s;exact#[fps,b,by rwa[e]]
def pU.of(S:StoOk K H0 G H β fps)(a:aW Gz G)(g:Grow Gz (plus H0 H fps.flatten) G' H')(s:aW G G'):pU K H0 Gz G' H' β:=by let⟨b,e⟩:=S.grow a g s;exact#[fps,b,by rwa[e]]
theorem bM.grow(R:bM K H0 Gz G H U Z β):pU K H0 Gz G H β:=by let⟨a,S,R⟩:=R;exact#[a,S,R.grow]
theorem bM.sub(R:bM K H0 Gz G H U Z β):aW G H:=by let⟨a,S,R⟩:=R;exact R.sub
theorem bM.tab(R:bM K H0 Gz G H U Z β):oZ K G H:=by let⟨a,S,R⟩:=R;exact R.tab
theorem bM.more(R:bM K H0 Gz G H U Z β)(g:Grow G H G' H'):bM K H0 Gz G' H' U Z β:=by let⟨a,S,R⟩:=R;exact .of S R.grow.gg (R.more g) g.gg
def yN(β:Sto):Ent->Ent
 |.adr a=>match gC β a with|some b=>.ro (Qa a) b|none=>.adr a
 |e=>e
noncomputable def c5v:Ent->Ent|.ro (Qa a) _=>.adr a|e=>e
def vw(β:Sto)(Z:List Ent):List Ent:=Z.map<|yN β
def uv(Z:List Ent):List Ent:=Z.map c5v
theorem a7n{a:Addr}{b:BS}:∀{β:Sto}{fps:List (List Addr)},Paired (λ(p:Addr×BS)fp=>BOk K G H p.1 p.2 fp) β fps->gC β a=Qa b->∃fp∈fps,BOk K G H a b fp
 |_,_,.nil,e=>nomatch e|p::β,_,.cons r t,e=>by
  unfold gC at e;split at e;.rename_i h;cases(qA e);exact#[_,qr,h▸r]
  .let⟨fp,d,c⟩:=a7n t e;exact#[fp,qG _ d,c]
def RepS.view(S:StoOk K H0 G H β fps)(R:RepS K (plus H0 H fps.flatten) Gz G H U Z):RepS K (plus H0 H fps.flatten) Gz G H U (vw β Z):=by
 refine#[R.grow,by unfold vw;rw[qF];exact R.len,λi o e d c=>?_,R.inj.sub λi e d c=>#[?_,rfl],R.tab];.unfold vw at c;rw[qS]at c;let⟨f,q,rfl⟩:=qK.mp c;have E:=R.ent i o f d q;cases f with
  |adr a=>
   unfold yN;dsimp only;split;.rename_i b p;let⟨j,k,r⟩:=a7n S.each p;refine#[a,j,E,λs z=>(qA z).symm,r,λx g=>?_];rw[dG<|vJ.mpr #[j,k,g]];let⟨u,z,_⟩:=r.there x g;rw[z];simp
   .exact E|_=>exact E
 .unfold vw at d;rw[qS]at d;let⟨f,q,rfl⟩:=qK.mp d;rw[q];cases f with|adr a=>unfold yN at c;dsimp only at c;split at c<;>cases c|_=>rfl
def RepS.unv(R:RepS K H0 Gz G H U Z):RepS K H0 Gz G H U (uv Z):=by
 refine#[R.grow,by unfold uv;rw[qF];exact R.len,λi o e d c=>?_,R.inj.sub λi e d c=>#[?_,rfl],R.tab];.unfold uv at c;rw[qS]at c;let⟨f,q,rfl⟩:=qK.mp c;have E:=R.ent i o f d q;cases f with
  |ro g b=>cases g with|none=>exact E|some a=>let⟨p,k,z,j,_⟩:=E;rwa[<-j a rfl]at z
  |_=>exact E
 .unfold uv at d;rw[qS]at d;let⟨f,q,rfl⟩:=qK.mp d;rw[q];cases f with|ro g b=>cases g<;>cases c|_=>rfl
def RepS.unview(R:RepS K H0 Gz G H U (vw β Z)):RepS K H0 Gz G H U Z:=by
 have f:U.length=Z.length:=by have:=R.len;unfold vw at this;rwa[qF]at this
 refine#[R.grow,f,λi o e c b=>?_,R.inj.sub λi e c b=>#[?_,rfl],R.tab]
 .have q:(vw β Z)[i]?=Qa (yN β e):=by unfold vw;rw[qS,b];rfl
  have E:=R.ent i o _ c q;cases e with
  |adr a=>
   unfold yN at E;dsimp only at E;split at E;.let⟨j,g,z,d,_⟩:=E;rwa[<-d a rfl]at z
   .exact E|_=>exact E
 .have q:(vw β Z)[i]?=Qa (yN β e):=by unfold vw;rw[qS,c];rfl
  rw[q];cases e with|adr a=>cases b|_=>rfl
end
def XcO(X:Cx)(H0 Gz G:Hp)(Z:List Ent)(β:Sto)(c:Str):Prop:=∀ B s'(U:St) H' G' e,Inv X B U H' s'->bM X.K H0 Gz G' H' U Z β->aW G G'->b3A X c e H' s'->X.xe e s'
def XcO.mono(h:XcO X H0 Gz G Z β c)(s:aW G G'):XcO X H0 Gz G' Z β c:=λB a U b d e I R g x=>h B a U b d e I R (s.trans g) x
abbrev OEF:=List Ent->Sto->Option (Re q8×Sto)
abbrev OAF:=List Ent->Sto->Option (Re (List q8)×Sto)
abbrev OTF:=List Ent->Sto->Option (Re Bool×Sto)
abbrev OSF:=List Ent->Sto->Option (So×Sto)
def a5l(X:Cx)(H0 Gz G:Hp)(Z:List Ent)(β:Sto)(U:St)(Q:VK):Re q8->Prop|.ok d=>∀v G' H',aW G G'->bM X.K H0 Gz G' H' U Z β->Rep X.K G' v d->Q v H'|.ex c=>XcO X H0 Gz G Z β c
def c6Q(X:Cx)(H0 Gz G:Hp)(Z:List Ent)(β:Sto)(U:St)(Q:Bool->Hp->Prop):Re Bool->Prop|.ok b=>∀G' H',aW G G'->bM X.K H0 Gz G' H' U Z β->Q b H'|.ex c=>XcO X H0 Gz G Z β c
def uA(X:Cx)(H0 Gz G:Hp)(D:Ends)(β:Sto):So->Prop|.nx Z=>∀G' H' σ',aW G G'->bM X.K H0 Gz G' H' σ' Z β->D.nx σ' H'|.rt d=>∀v G' H',aW G G'->pU X.K H0 Gz G' H' β->Rep X.K G' v d->D.rt v H'|.bk Z=>∀G' H' σ',aW G G'->bM X.K H0 Gz G' H' σ' Z β->D.bk σ' H'|.ct Z=>∀G' H' σ',aW G G'->bM X.K H0 Gz G' H' σ' Z β->D.ct σ' H'|.xc c Z=>XcO X H0 Gz G Z β c
noncomputable def rOE(X:Cx)(f:OEF):TE:=λU H Q=>∃Z β r β' H0 Gz G,f Z β=Qa (r,β')/\bM X.K H0 Gz G H U Z β/\a5l X H0 Gz G Z β' U Q r
noncomputable def rOT(X:Cx)(f:OTF):TT:=λU H Q=>∃Z β r β' H0 Gz G,f Z β=Qa (r,β')/\bM X.K H0 Gz G H U Z β/\c6Q X H0 Gz G Z β' U Q r
noncomputable def rOS(X:Cx)(f:OSF):TS:=λD U H=>∃Z β o β' H0 Gz G,f Z β=Qa (o,β')/\bM X.K H0 Gz G H U Z β/\uA X H0 Gz G D β' o
structure OE(X:Cx)(e:Expr)(f:OEF):Prop where run:PE X e (rOE X f)
structure OT(X:Cx)(e:Expr)(f:OTF):Prop where run:PT X e (rOT X f)
structure OS(X:Cx)(st:Stmt)(f:OSF):Prop where run:PS X st (rOS X f)
structure OB(X:Cx)(sts:List Stmt)(f:OSF):Prop where run:PSs X sts (rOS X f)
variable{fa:OTF}{T:Bool->Hp->Prop}{o:So}
section
variable{β β':Sto}
theorem a5l.mono{Q:VK}{r:Re q8}(q:a5l X H0 Gz G Z β U Q r)(s:aW G G1):a5l X H0 Gz G1 Z β U Q r:=by cases r with|ok d=>exactλv f e a R b=>q v f e (s.trans a) R b|ex c=>exact XcO.mono q s
theorem uA.mono{D:Ends}{o:So}(h:uA X H0 Gz G D β o)(s:aW G G1):uA X H0 Gz G1 D β o:=by cases o with|nx Z=>exactλf e a b R=>h f e a (s.trans b) R|rt d=>exactλv f e b g r=>h v f e (s.trans b) g r|bk Z=>exactλf e a b R=>h f e a (s.trans b) R|ct Z=>exactλf e a b R=>h f e a (s.trans b) R|xc c Z=>exact XcO.mono h s
noncomputable def c5g{α γ:Type}(m:Option (Re α×Sto))(k:α->Sto->Option (Re γ×Sto)):Option (Re γ×Sto):=match m with|some (.ok a,β)=>k a β|some (.ex c,β)=>Qa (.ex c,β)|none=>Qb
noncomputable def b5r{α:Type}(m:Option (Re α×Sto))(Z:List Ent)(k:α->Sto->Option (So×Sto)):Option (So×Sto):=match m with|some (.ok a,β)=>k a β|some (.ex c,β)=>Qa (.xc c Z,β)|none=>Qb
def b5s{m:Option (Re α×Sto)}{k:α->Sto->Option (Re γ×Sto)}{r:Re γ×Sto}(h:c5g m k=Qa r):(∃a β,m=Qa (.ok a,β)/\k a β=Qa r)\/∃c β,m=Qa (.ex c,β)/\r=(.ex c,β):=by match m,h with|some (.ok a,β),h=>exact .inl #[a,β,rfl,h]|some (.ex c,β),h=>exact .inr #[c,β,rfl,(qA h).symm]|none,h=>cases h
def a6S{m:Option (Re α×Sto)}{k:α->Sto->Option (So×Sto)}{r:So×Sto}(h:b5r m Z k=Qa r):(∃a β,m=Qa (.ok a,β)/\k a β=Qa r)\/∃c β,m=Qa (.ex c,β)/\r=(.xc c Z,β):=by match m,h with|some (.ok a,β),h=>exact .inl #[a,β,rfl,h]|some (.ex c,β),h=>exact .inr #[c,β,rfl,(qA h).symm]|none,h=>cases h
def obT{k:Bool->Sto->Option (Re γ×Sto)}{r:Re γ}(R:bM X.K H0 Gz G H U Z β)(e:c5g (fa Z β) k=Qa (r,β'))(hx:∀c,r=.ex c->XcO X H0 Gz G Z β' c)(h:∀x a G1 H1,aW G G1->bM X.K H0 Gz G1 H1 U Z a->k x a=Qa (r,β')->T x H1):rOT X fa U H T:=by
 obtain⟨x,a,d,b⟩|⟨c,a,d,b⟩:=b5s e;.exact#[Z,β,_,a,H0,Gz,G,d,R,λG1 H1 f g=>h x a G1 H1 f g b]
 .cases b;exact#[Z,β,_,_,H0,Gz,G,d,R,hx c rfl]
def osE{fa:OEF}{k:q8->Sto->Option (So×Sto)}(R:bM X.K H0 Gz G H U Z β)(e:b5r (fa Z β) Z k=Qa (o,β'))(q:uA X H0 Gz G D β' o){T:VK}(h:∀x v a G1 H1,aW G G1->bM X.K H0 Gz G1 H1 U Z a->Rep X.K G1 v x->k x a=Qa (o,β')->uA X H0 Gz G1 D β' o->T v H1):rOE X fa U H T:=by
 obtain⟨x,a,d,b⟩|⟨c,a,d,b⟩:=a6S e;.exact#[Z,β,_,a,H0,Gz,G,d,R,λv G1 H1 f i g=>h x v a G1 H1 f i g b<|q.mono f]
 .cases b;exact#[Z,β,_,_,H0,Gz,G,d,R,q]
def osT{k:Bool->Sto->Option (So×Sto)}(R:bM X.K H0 Gz G H U Z β)(e:b5r (fa Z β) Z k=Qa (o,β'))(q:uA X H0 Gz G D β' o)(h:∀x a G1 H1,aW G G1->bM X.K H0 Gz G1 H1 U Z a->k x a=Qa (o,β')->uA X H0 Gz G1 D β' o->T x H1):rOT X fa U H T:=by
 obtain⟨x,a,d,b⟩|⟨c,a,d,b⟩:=a6S e;.exact#[Z,β,_,a,H0,Gz,G,d,R,λG1 H1 f g=>h x a G1 H1 f g b<|q.mono f]
 .cases b;exact#[Z,β,_,_,H0,Gz,G,d,R,q]
def a5l.x{Q:VK}(q:a5l X H0 Gz G Z β U Q r):∀c,r=.ex c->XcO X H0 Gz G Z β c:=λc e=>by subst e;exact q
end
def upT(f:TF):OTF:=λZ β=>(f<|vw β Z).map (·,β)
def b5F:So->So|.nx Z=>.nx (uv Z)|.rt d=>.rt d|.bk Z=>.bk (uv Z)|.ct Z=>.ct (uv Z)|.xc c Z=>.xc c<|uv Z
def upS(f:SF):OSF:=λZ β=>(f<|vw β Z).map λo=>(b5F o,β)
variable{sts:List Stmt}
section
variable{a c:Expr}{rest:T0n}{fa:EF}{g:AF}
def a6q(h:DT X e ft):OT X e (upT ft):=#[by rintro B s U H Q I⟨Z,u,r,f,w,t,G,e,R,q⟩;let⟨v,k,z⟩:=qK.mp e;cases z;let⟨j,S,R⟩:=R;refine h.run B s U H Q I #[_,_,_,t,G,k,RepS.view S R,?_];cases r with|ok d=>exactλb a g=>q b a g.gg (.of S R.grow.gg (R.more g) g.gg)|ex c=>exactλB i U a b e p o g x=>q B i U a b e p (.of S R.grow.gg o.unview g) g x]
def b9j(S:StoOk X.K H0 G H β fps)(j:aW Gz G)(q:uA X H0 Gz G D β (b5F o)):a1u X (plus H0 H fps.flatten) Gz G D o:=by cases o with|nx Z=>exactλf b a s i=>q f b a s (.of S j i.unv s)|rt d=>exactλv f b s g p=>q v f b s (.of S j g s) p|bk Z=>exactλf b a s i=>q f b a s (.of S j i.unv s)|ct Z=>exactλf b a s i=>q f b a s (.of S j i.unv s)|xc c Z=>exactλB k U b f e r i g x=>q B k U b f e r (.of S j i.unv g) g x
def lL(h:DS X st f):OS X st (upS f):=#[by rintro B s U H D I⟨Z,g,o,a,j,d,G,e,R,q⟩;let⟨i,c,z⟩:=qK.mp e;cases z;let⟨b,S,R⟩:=R;exact h.run B s U H D I #[_,_,_,d,G,c,RepS.view S R,b9j S R.grow.gg q]]
end
section
variable{a c:Expr}{rest:T0n}{fa fb:OEF}{ft fu:OTF}{f g:OSF}{fA:OAF}
noncomputable def b6U:OSF:=λZ β=>Qa (.nx Z,β)
noncomputable def fR(f g:OSF):OSF:=λZ β=>match f Z β with|some (.nx ρ',β')=>g ρ' β'|r=>r
def b1c:OB X [] b6U:=#[by rintro B s U H D I⟨Z,b,o,a,c,d,G,e,R,q⟩;exact b2C B s U H D I<|by cases(qA e);exact q G H U (.refl _) R]
def dC(A:OS X st f)(J:OB X sts g):OB X (st::sts) (fR f g):=#[by
 rintro B s U H D I⟨Z,u,o,i,j,p,G,e,R,q⟩;unfold fR at e;split at e;.rename_i a r K;refine wg (thn (A.run B s U H {D with nx:=λb k=>rOS X g D b k} I #[Z,u,_,_,j,p,G,K,R,λN k b C L=>#[a,r,o,i,j,p,N,e,L,q.mono C]]) λt y z=>?_);cases t with|next=>let⟨b,k,M,z⟩:=z;exact J.run B y b k D M z|ret v=>exact z|brk=>exact z|cont=>exact z
 .rename_i z;have F:∀a,o≠.nx a:=λa w=>z a i (by rw[e,w]);have E:uA X j p G {D with nx:=λ_ _=>False} i o:=by cases o with|nx a=>exact absurd rfl (F a)|rt d=>exact q|bk a=>exact q|ct a=>exact q|xc c a=>exact q
  refine wg (thn (A.run B s U H {D with nx:=λ_ _=>False} I #[Z,u,o,i,j,p,G,e,R,E]) λt y z=>?_);cases t with|next=>let⟨_,_,_,z⟩:=z;exact z.elim|ret v=>exact z|brk=>exact z|cont=>exact z]
def hV(h:OS X st f):OB X [st] f:=#[a3g h.run]
def a2P(fa:OEF):OSF:=λZ β=>b5r (fa Z β) Z λ_ β'=>Qa (.nx Z,β')
def a3h(h:OE X e fa)(d:wa e Qb pos.line X.env=pure false:=by rfl):OS X (.Expr e pos) (a2P fa):=#[by rintro B s U H D I⟨Z,k,o,b,t,u,G,e,R,q⟩;exact xW h.run d B s U H D I<|osE R e q λx v a j i p g r f c=>by cases(qA f);exact c j i U (.refl _) g]
def a0h(fa:OEF):OSF:=λZ β=>b5r (fa Z β) Z λd β'=>Qa (.rt d,β')
def uY(h:OE X e fa):OS X (.Return (Qa e) pos) (a0h fa):=#[by rintro B s U H D I⟨Z,k,o,b,r,t,G,e,R,q⟩;exact b0U h.run B s U H D I<|osE R e q λx v a j i p g c f d=>by cases(qA f);exact d v j i (.refl _) g.grow c]
def ifO(ft:OTF)(f g:OSF):OSF:=λZ β=>b5r (ft Z β) Z λt β'=>if t then f Z β' else g Z β'
def b2O{x y:List Stmt}(u:OT X c ft)(w:OB X x f)(v:OB X y g):OS X (.If c x y pos) (ifO ft f g):=#[by rintro B s U H D I⟨Z,z,o,b,k,p,G,e,R,q⟩;exact c2i u.run w.run v.run B s U H D I<|osT R e q λt a r C A j d i=>by cases t with|true=>rw[if_pos rfl]at d⊢;exact#[Z,a,o,b,k,p,r,d,j,i]|false=>rw[if_neg<|by decide]at d⊢;exact#[Z,a,o,b,k,p,r,d,j,i]]
def b1y(ft:OTF)(fa fb:OEF):OEF:=λZ β=>c5g (ft Z β) λt β1=>if t then fa Z β1 else fb Z β1
def c2k(u:OT X c ft)(w:OE X a fa)(v:OE X b fb):OE X (.IfExp c a b pos) (b1y ft fa fb):=#[by rintro B s U H Q I⟨Z,y,r,f,k,o,G,e,R,q⟩;exact b6y u.run w.run v.run B s U H Q I<|obT R e q.x λt d p z i j g=>by cases t with|true=>rw[if_pos rfl]at g⊢;exact#[Z,d,r,f,k,o,p,g,j,q.mono i]|false=>rw[if_neg<|by decide]at g⊢;exact#[Z,d,r,f,k,o,p,g,j,q.mono i]]
noncomputable def c0X(i:Nat)(f:OSF):OSF:=λZ β=>match Z[i]? with|some (.lst O)=>f (Z.set i<|.val<|.list O) β|_=>f Z β
def b6M i(h:OB X sts f):OB X sts (c0X i f):=#[by
 rintro B s U H D I⟨Z,b,o,a,d,g,G,e,R,q⟩;unfold c0X at e;split at e;.rename_i O j;let⟨k,S,R⟩:=R;let⟨r,c,p⟩:=R.freeze j;exact h.run B s U H D I #[_,b,o,a,d,g,r,e,.of S R.grow.gg p c,q.mono c]
 .exact h.run B s U H D I #[Z,b,o,a,d,g,G,e,R,q]]
def wW(t:Tg)(fb:OSF):List q8->List Ent->Sto->Option (So×Sto)|[],Z,β=>Qa (.nx Z,β)|d::O,Z,β=>match tgD t Z d with|none=>Qb|some ρ1=>(match fb ρ1 β with|some (.nx ρ2,β2)=>wW t fb O ρ2 β2|some (.ct ρ2,β2)=>wW t fb O ρ2 β2|some (.bk ρ2,β2)=>Qa (.nx ρ2,β2)|some (.rt d,β2)=>Qa (.rt d,β2)|some (.xc c ρ2,β2)=>Qa (.xc c ρ2,β2)|none=>Qb)
def b7M(t:Tg)(fi:AF)(fb:OSF):OSF:=λZ β=>match fi Z with|some (.ok O)=>wW t fb O Z β|_=>Qb
def c3J{u:List Stmt}(hp:PassesOwn (model X.prog X.w) X.A X.env X.xe)(hc:X.calm=Qc)(hi:DI X tg iter fi)(hg:DG X tg t)(hb:OB X u g)(hs:∀x,v6 iter X.env x=pure x:=by intro _;rfl):OS X (.For tg iter u [] pos) (b7M t fi g):=#[λB s U H D I⟨Z,β,o,N,w,k,G,ef,R,q⟩=>b6o hp hc hi.run hg.pg hb.run hs B s U H D I (by
  unfold b7M at ef;split at ef
  .rename_i O e1;let⟨fps,S,R0⟩:=R;refine#[Z,_,_,k,G,e1,R0,λJ G1 H1 L wk=>?_];refine#[λi m A H'=>m=O.length-i/\i<=O.length/\∃p c G',aW G1 G'/\bM X.K w k G' H' A p c/\wW t g (O.drop i) p c=Qa (o,N),#[O.length,by simp,jJ _,Z,β,G1,.refl _,.of S R0.grow.gg (R0.more L) L.gg,by exact ef],?_];rintro i m A H'⟨rfl,hin,p,c,G',s',R',e⟩;let⟨P,C⟩:=wk i G' H' s' R'.sub;by_cases F:i<O.length
   .rw[List.drop_eq_getElem_cons F]at e;have hx:=qN F;refine .inr #[(P _ hx).1,λM H2=>∃b a f,aW G1 f/\bM X.K w k f H2 M b a/\wW t g (O.drop<|i+1) b a=Qa (o,N),?_,λx H2 y=>?_];.rintro M H2⟨b,a,f,s2,R2,e2⟩;exact#[O.length-(i+1),by omega,rfl,F,b,a,f,s2,R2,e2]
    .let⟨f,g2,rx⟩:=(P _ hx).2 x H2 y;unfold wW at e;split at e;.cases e
     .rename_i d et;let⟨fps',S',R0'⟩:=R';refine#[p,O[i],d,_,k,f,et,R0'.more g2,rx,λσ3 R3=>?_];have j:bM X.K w k f H2 σ3 d c:=.of S' R0'.grow.gg R3 g2.gg;have Q:=s'.trans g2.gg;split at e;.rename_i b a r;exact#[d,c,_,_,w,k,f,r,j,λK H4 z E T=>#[b,a,K,Q.trans E,T,e]]
      .rename_i b a r;exact#[d,c,_,_,w,k,f,r,j,λK H4 z E T=>#[b,a,K,Q.trans E,T,e]]
      .rename_i b a r;cases(qA e);exact#[d,c,_,_,w,k,f,r,j,λK H4 z E T=>q K H4 z (L.gg.trans<|Q.trans E) T]
      .rename_i d' a r;cases(qA e);exact#[d,c,_,_,w,k,f,r,j,λv K H4 E gr rv=>q v K H4 (L.gg.trans<|Q.trans E) gr rv]
      .rename_i c' b a r;cases(qA e);exact#[d,c,_,_,w,k,f,r,j,XcO.mono q<|L.gg.trans Q]
      .cases e
   .have hi':i=O.length:=by lia
    subst hi';rw[List.drop_length]at e;cases(qA e);exact .inl #[C<|qM _,q G' H' A (L.gg.trans s') R']
  .cases ef)]
end
end L2.L3
variable{β':L2.L3.Sto}
namespace L2
open PySem PySem.Spec PyProof.Rows
section
variable(P:Program)(w:World)
end
section
variable{h:Heap}{o:HO}
end
section
variable{h:Heap}{x e:Addr}
end
section
variable{fs fs' ex ex':T0o}{h h2:Heap}{x e:Addr}{o:HO}
end
section
variable{U:List (Option V)}
end
section
variable{a:Expr}
variable{tA tB':TT}{rest:T0n}
end
section
variable{Y:List V}
end
section
variable{rest:List Stmt}{t u:TS}
end
variable{tc:TE}
section
variable{a:Expr}
end
section
variable{a:Expr}
end
variable{f:Addr}
section
variable{K:qB}{x:Addr}{v:Value}
end
section
variable{h:Heap}{fs fs':List (Str×V)}
end
section
variable{fs:List (Str×V)}{f:Str}
end
section
variable{f:Str}
end
section
variable{c:Value}{b:Bool}
end
variable{t:TA}
section
variable{s':Shared}
end
section
variable{sp:Sp}{dvs:List V}{O:T0m}{E:XK}{x m:Str}
end
section
variable{sp:Sp}{E:XK}{x m:Str}{kpos:Pos}{kws:List Keyword}{tk:TA}{nm:Option Str}
variable{g:List Value->List Value->List Value}{gV:List V->List V->List V}
end
section
variable{x:Str}{id:String}{r:List V->Hp->VK->Prop}
end
variable{y:V}
section
variable{κ:Type}[DecidableEq κ]
noncomputable def uC(kvs:List (κ×V))(k:κ):Option V:=(kvs.find? λkv=>decide (kv.1=k)).map (·.2)
noncomputable def putK(kvs:List (κ×V))(k:κ)(v:V):List (κ×V):=if(kvs.any λkv=>decide (kv.1=k))=Qc then kvs.map (λkv=>if kv.1=k then(kv.1,v)else kv)else kvs++[(k,v)]
noncomputable def a4U(kvs:List (κ×V))(k:κ):List (κ×V):=kvs.filter λkv=>decide (kv.1≠k)
def a0w{p:κ×V}{r:List (κ×V)}{k:κ}(e:p.1=k):uC (p::r) k=Qa p.2:=by simp[uC,e]
def a0x{p:κ×V}{r:List (κ×V)}{k:κ}(e:¬p.1=k):uC (p::r) k=uC r k:=by simp[uC,e]
theorem a8E k:∀kvs:List (κ×V),(kvs.any λa=>decide (a.1=k))=(uC kvs k).isSome
 |[]=>rfl|p::r=>by
  rw[kD];by_cases e:p.1=k;.simp only[a0w e,decide_eq_true e,Bool.true_or,Option.isSome_some]
  .rw[a0x e,decide_eq_false e,Bool.false_or];exact a8E k r
def a2K kvs(k:κ) v:(putK kvs k v).length<=kvs.length+1:=by
 unfold putK;split;.rw[qF];lia
 .rw[qY,qO,jj];lia
def xJ.isSome_eq{o:Option V}{u:T0p}(r:xJ o u):o.isSome=u.isSome:=by cases o with
 |none=>cases u with|none=>rfl|some _=>exact(show False from r).elim
 |some _=>cases u with|none=>exact(show False from r).elim|some _=>rfl
theorem xJ.getD{o:Option V}{u:T0p}{d:V}{d':Value}(r:xJ o u)(rd:RelV d d'):RelV (o.getD d) (u.getD d'):=by cases o with
 |none=>cases u with|none=>exact rd|some _=>exact(show False from r).elim
 |some _=>cases u with|none=>exact(show False from r).elim|some _=>exact r
def KV.val{kvs:List (κ×V)}{vs:List (κ×Value)}(r:KV kvs vs) k:xJ (uC kvs k) (y9 vs k):=by induction r with|nil=>exact kd|@cons p q f a h t g=>
  let⟨d,i⟩:=h;by_cases e:p.1=k
  .have c:=d.symm.trans e;have b:y9 (q::a) k=Qa q.2:=by simp[y9,c]
   rwa[a0w e,b]
  .have c:¬q.1=k:=λz=>e<|d.trans z;have b:y9 (q::a) k=y9 a k:=by simp[y9,c]
   rwa[a0x e,b]
theorem KV.any{kvs:List (κ×V)}{vs:List (κ×Value)}(r:KV kvs vs) k:(kvs.any λa=>decide (a.1=k))=vs.any λa=>decide (a.1=k):=by induction r with|nil=>rfl|cons h t b=>rw[kD,kD,b,h.1]
def KV.repl{kvs:List (κ×V)}{vs:List (κ×Value)}(r:KV kvs vs) k(c:RelV y u):KV (kvs.map λa=>if a.1=k then(a.1,y)else a) (vs.map λa=>if a.1=k then(a.1,u)else a):=by induction r with|nil=>exact .nil|@cons p q i g h t d=>
  rw[qE,qE];refine .cons ?_ d;let⟨b,f⟩:=h;by_cases e:p.1=k;.rw[if_pos e,if_pos<|b.symm.trans e];exact#[b,c]
  .rw[if_neg e,if_neg<|λz=>e<|b.trans z];exact#[b,f]
def KV.put{kvs:List (κ×V)}{vs:List (κ×Value)}(r:KV kvs vs) k(a:RelV y u):KV (putK kvs k y) (stored vs k u):=by
 unfold putK stored;rw[r.any k];by_cases e:(vs.any λb=>decide (b.1=k))=Qc;.rw[if_pos e,if_pos e];exact r.repl k a
 .rw[if_neg e,if_neg e];exact Paired.snoc r #[rfl,a]
def KV.drop{kvs:List (κ×V)}{vs:List (κ×Value)}(r:KV kvs vs) k:KV (a4U kvs k) (without vs k):=by unfold a4U without;induction r with|nil=>exact .nil|@cons p q j i h t d=>
  let⟨c,f⟩:=h;rw[List.filter_cons,List.filter_cons];by_cases e:p.1=k
  .have a:¬decide (p.1≠k)=true:=by simp[e]
   have b:¬decide (q.1≠k)=true:=by simp[c.symm.trans e]
   rwa[if_neg a,if_neg b]
  .have g:¬q.1=k:=λz=>e<|c.trans z;have a:decide (p.1≠k)=true:=by simp[e]
   have b:decide (q.1≠k)=true:=by simp[g]
   rw[if_pos a,if_pos b];exact .cons #[c,f] d
theorem KV.length{kvs:List (κ×V)}{vs:List (κ×Value)}(r:KV kvs vs):kvs.length=vs.length:=Paired.length r
def b8q kvs(k:κ):(a4U kvs k).length<=kvs.length:=jZ _ _
end
def a6C{k:Key}(r:RelV (kV k) u):(cO P w).is k u=true:=by cases k with|inl i=>let⟨t,e⟩:=(show∃t,u=Value.int i t from r);subst e;exact a2I P w i t|inr x=>let⟨t,e⟩:=(show∃t,u=vN x t from r);subst e;exact a2H P w x t
theorem a6F{P:Program}{w:World}:∀{ks:List Key}{us:T0m},bJ (ks.map kV) us->ItemsAre (cO P w) ks us|[],_,r=>by rw[vU]at r;cases r;exact .nil|k::ks,_,r=>by rw[qE]at r;cases r with|cons h t=>exact .cons (a6C h)<|a6F t
abbrev KT(H:Hp):List (List Key×V)->List (List Key×Addr×Value)->Prop:=Paired λp q=>p.1=q.1/\H q.2.1=Qa (.tup<|p.1.map kV)/\RelV p.2 q.2.2
variable{kvs:List (List Key×V)}{Y:List (List Key×Addr×Value)}
def KT.val(r:KT H kvs Y)(k:List Key):xJ (uC kvs k) ((atKey Y k).map (·.2)):=by induction r with|nil=>exact kd|@cons p q f a h t g=>
  let⟨d,_,i⟩:=h;by_cases e:p.1=k
  .have c:=d.symm.trans e;have b:atKey (q::a) k=Qa q.2:=by simp[atKey,c]
   rwa[a0w e,b]
  .have c:¬q.1=k:=λz=>e<|d.trans z;have b:atKey (q::a) k=atKey a k:=by simp[atKey,c]
   rwa[a0x e,b]
def KT.repl(r:KT H kvs Y) k(d:RelV y u):KT H (kvs.map λb=>if b.1=k then(b.1,y)else b) (Y.map<|putAt k u):=by induction r with|nil=>exact .nil|@cons p q j i h t f=>
  rw[qE,qE];refine .cons ?_ f;let⟨a,c,g⟩:=h;unfold putAt;by_cases e:p.1=k;.rw[if_pos e,if_pos<|a.symm.trans e];exact#[a,c,d]
  .rw[if_neg e,if_neg<|λz=>e<|a.trans z];exact#[a,c,g]
def KT.put(r:KT H kvs Y) k{b:Addr}(d:H b=Qa (.tup<|k.map kV))(a:RelV y u):KT H (putK kvs k y) (storedH Y k b u):=by
 have e:(kvs.any λc=>decide (c.1=k))=(atKey Y k).isSome:=by rw[a8E,(r.val k).isSome_eq,vC]
 unfold putK storedH;rw[e];by_cases q:(atKey Y k).isSome=Qc;.rw[if_pos q,if_pos q];exact r.repl k a
 .rw[if_neg q,if_neg q];exact Paired.snoc r #[rfl,d,a]
def KT.keeps(r:KT H kvs Y)(a:∀b ys,H b=Qa (.tup ys)->H' b=Qa (.tup ys)):KT H' kvs Y:=Paired.mapP r λ_ _ z=>#[z.1,a _ _ z.2.1,z.2.2]
section
variable{h:Heap}
def c2h{u:HO}(ok:HOk P w H h)(e:Rd H a u):eB P w H h a u:=e.ok ok
def a6L{kvs:List (Key×V)}(ok:HOk P w H h)(e:Rd H a (.dK kvs)):kvs.length<=j5/\(a==wt)=Qd/\∃vs,KV kvs vs/\h.DictOf (cO P w) a vs:=show eB P w H h a (.dK kvs)from c2h ok e
def c2x{kvs:List (Key×V)}(ok:HOk P w H h)(e:H a=Qa (.dK kvs)):kvs.length<=j5/\(a==wt)=Qd/\∃vs,KV kvs vs/\h.DictOf (cO P w) a vs:=a6L ok<|.inl e
def a4u{ks:List Key}(ok:HOk P w H h)(e:H a=Qa (.tup<|ks.map kV)):(uy<|cO P w).is h ks a:=by let⟨_,b,r,o,f,d,n,c⟩:=(show eB P w H h a (.tup<|ks.map kV)from ok a _ e);exact#[o,b.toArray,n,f,d,c,by simpa using a6F r]
def b0b(ok:HOk P w H h)(e:Rd H a (.dT kvs)):kvs.length<=j5/\(a==wt)=Qd/\∃Y,KT H kvs Y/\h.DictOfH (uy<|cO P w) a Y:=by
 let⟨z,y,Y,r,o,s,u,k,j,i,g,f⟩:=(show eB P w H h a (.dT kvs)from c2h ok e);refine#[z,y,Y,r,o,s,u,k,j,i,g,λx b=>?_,f];have all:∀{l:List (List Key×V)}{m:List (List Key×Addr×Value)},KT H l m->∀x∈m,(uy<|cO P w).is h x.1 x.2.1:=by intro l m q;induction q with|nil=>intro x b;exact nomatch b|@cons p q A v c t d=>
   intro x b;obtain e|b:=qI.mp b;.subst e;exact a4u ok (by rw[<-c.1];exact c.2.1)
   .exact d x b
 exact all r x b
def c6H(ok:HOk P w H h)(e:H a=Qa (.dT kvs)):kvs.length<=j5/\(a==wt)=Qd/\∃Y,KT H kvs Y/\h.DictOfH (uy<|cO P w) a Y:=b0b ok<|.inl e
end
def b5v(H:Hp)(a:Addr)(y:V)(r:Option V):Prop:=(∃kvs k,Rd H a (.dK kvs)/\y=kV k/\r=uC kvs k)\/∃kvs k b,Rd H a (.dT kvs)/\y=.ref b/\H b=Qa (.tup<|k.map kV)/\r=uC kvs k
def c6R(H:Hp)(a:Addr)(y v:V)(H':Hp):Prop:=(∃kvs k,H a=Qa (.dK kvs)/\y=kV k/\kvs.length<j5/\H'=upd H a (.dK<|putK kvs k v))\/∃kvs k b,H a=Qa (.dT kvs)/\y=.ref b/\H b=Qa (.tup<|k.map kV)/\kvs.length<j5/\H'=upd H a (.dT<|putK kvs k v)
variable{r:Value}
section
variable{o:Option V}
def Inv.big(I:Inv X B U H s):wt<s.heap.objs.size:=by have h:=(I.mod.glob.keeps I.bk).lt;exact zr (by decide) h
def c8c(hu:A.units+1<cLine)(I:Inv X B U H s)(g:b5v H a y o)(p:RelV y u)(h:∀s',Inv X B U H s'->Q (.bool o.isSome) s'):wpAny (model X.prog X.w) A (v9 .In u<|.ref a) Q E s:=by
 obtain⟨d,k,e,i,l⟩|⟨d,k,b,e,i,r,l⟩:=g;.subst i;let⟨z,f,t,c,j⟩:=a6L I.hok e;refine wpAny_in_of (a6C p) f j.mapOf ?_;rw[<-(c.val k).isSome_eq,<-l];exact h _ (I.tok _)
 .subst i;cases(show u=jC b from p);let⟨z,f,Y,c,j⟩:=b0b I.hok e;refine wpAny_in_heap (yp hu) (a4u I.hok r) f j ?_;have q:=(c.val k).isSome_eq;rw[vC]at q;rw[<-q,<-l];exact h _<|I.tok _
def c1u(hu:A.units+1<cLine)(I:Inv X B U H s)(g:b5v H a y o)(p:RelV y u)(h:∀s',Inv X B U H s'->Q (.bool<|!o.isSome) s'):wpAny (model X.prog X.w) A (v9 .NotIn u<|.ref a) Q E s:=by
 obtain⟨d,k,e,i,l⟩|⟨d,k,b,e,i,r,l⟩:=g;.subst i;let⟨z,f,t,c,j⟩:=a6L I.hok e;refine wpAny_notIn_of (a6C p) f j.mapOf ?_;rw[<-(c.val k).isSome_eq,<-l];exact h _ (I.tok _)
 .subst i;cases(show u=jC b from p);let⟨z,f,Y,c,j⟩:=b0b I.hok e;refine wpAny_notIn_heap (yp hu) (a4u I.hok r) f j ?_;have q:=(c.val k).isSome_eq;rw[vC]at q;rw[<-q,<-l];exact h _<|I.tok _
def a8k(I:Inv X B U H s)(d:Mut (H a))(f:kZ a s.heap h')(g:∃q,h'.get? a=Qa q)(c:eB X.prog X.w (upd H a ob) h' a ob):Inv X B U (upd H a ob) {s with heap:=h',toks:=t'}:=I.write (x:=a) (e:=a) d (.inl rfl) (λb q i z=>(f.2 b i).trans z) g c
def b8t{kvs:List (Key×V)}{vs:List (Key×Value)}(z:kvs.length<=j5)(c:(a==wt)=Qd)(b:KV kvs vs)(dd:h'.DictOf (cO P w) a vs):eB P w H' h' a (.dK kvs):=#[z,c,vs,b,dd]
def b5c{Q:Unit->Shared->Prop}(hu:A.units+1<cLine)(I:Inv X B U H s)(g:c6R H a y v H')(G:RelV y u)(J:RelV v r)(h:∀s',Inv X B U H' s'->Q () s'):wpAny (model X.prog X.w) A (setItem (.ref a) u r) Q E s:=by
 obtain⟨f,k,e,C,l,D⟩|⟨f,k,b,e,C,L,l,D⟩:=g
 .subst C D;let⟨z,w,M,d,F⟩:=c2x I.hok e;have o:M.length<=j5:=by rwa[<-d.length]
  have t:(putK f k v).length<=j5:=by have:=a2K f k v;lia
  refine wpAny_setItem_pairs (hsz:=o) (a6C G) F λK i p=>h _ ?_;have N:∃q,K.get? a=Qa q:=let⟨q,_,_,j,_⟩:=i;#[q,j];exact a8k I (by rw[e];exact kd) p N (b8t t w (d.put k J) i)
 .subst C D;cases(show u=jC b from G);let⟨z,w,Y,d,F⟩:=c6H I.hok e;have o:Y.length<=j5:=by rwa[<-Paired.length d]
  have t:(putK f k v).length<=j5:=by have:=a2K f k v;lia
  refine wpAny_setItem_heap (hsz:=o) (yp hu) (a4u I.hok L) F λK i p=>h _ ?_;let⟨q,es,ep,j,T,S,R,_,P⟩:=i;refine a8k I (by rw[e];exact kd) p #[q,j] #[t,w,_,(d.put k L J).keeps λc ys ec=>?_,q,es,ep,j,T,S,R,P];rwa[aF<|dI ec e<|λz=>nomatch z]
end
section
variable{kvs:List (Key×V)}{k:Key}
def c6J{more:T0m}(I:Inv X B U H s)(e:H a=Qa (.dK kvs))(f:RelV (kV k) u)(l:uC kvs k=Qa v)(p:more=[]\/∃x,more=[x])(h:∀c s',Inv X B U (upd H a<|.dK<|a4U kvs k) s'->RelV v c->Q c s'):wpAny (model X.prog X.w) A (call (.builtin "dict.pop") (.ref a::u::more)) Q E s:=by
 let⟨z,F,j,b,r⟩:=c2x I.hok e;let⟨c,w,g⟩:=xJ.some_of (v:=v) (o:=y9 j k) (by rw[<-l];exact b.val k);have C:(keyPart u).isSome=true:=by cases k with|inl i=>let⟨t,q⟩:=(show∃t,u=Value.int i t from f);subst q;rfl|inr x=>let⟨t,q⟩:=(show∃t,u=vN x t from f);subst q;rfl
 have G:argsOk "dict.pop" #[.ref a::u::more,[]]:=by
  obtain q|⟨x,q⟩:=p;.subst q;exact PySem.F.args_dict_pop_2 _ _
  .subst q;exact PySem.F.args_dict_pop_3 _ _ _
 refine call_meetsIn PySem.F.slot_dict_pop r.typeIs PySem.F.entry_dict_pop G (meets_dict_pop_there (cO X.prog X.w) a (a6C f) more p C)
  #[j,c,r,by rwa[<-b.length],w,λJ d y=>h c _ ?_ g];have D:∃q,J.get? a=Qa q:=let⟨q,_,_,hq,_⟩:=d;#[q,hq];exact a8k I (by rw[e];exact kd) y D<|b8t (qk (b8q kvs k) z) F (b.drop k) d
end
noncomputable def c7o(ty td:TE):TE:=λU H Q=>ty U H λy H1=>td U H1 λx H2=>∃a o,x=.ref a/\b5v H2 a y o/\Q (.bl o.isSome) H2
noncomputable def b9p(ty td:TE):TE:=λU H Q=>ty U H λy H1=>td U H1 λx H2=>∃a o,x=.ref a/\b5v H2 a y o/\Q (.bl<|!o.isSome) H2
noncomputable def c5K(td ty tv:TE):TS:=λD U H=>tv U H λv H1=>td U H1 λx H2=>ty U H2 λy H3=>∃a H4,x=.ref a/\c6R H3 a y v H4/\D.nx U H4
variable{ty:TE}
section
variable{i:Expr}
def c3G(hu:X.A.units+1<cLine)(hi:PE X i ty)(ho:PE X o td):PC X .In i o (c7o ty td):=by intro B s U H Q I h;refine thn (hi B s U H _ I h) ?_;rintro iv s1⟨y,H1,I1,ry,q1⟩;refine thn (ho B s1 U H1 _ I1 q1) ?_;rintro u s2⟨x,H2,I2,rx,a,ov,ex,g,q2⟩;subst ex;obtain rfl:u=jC a:=rx;exact c8c hu I2 g ry λs3 I3=>#[.bl ov.isSome,H2,I3,rfl,q2]
def b4l(hu:X.A.units+1<cLine)(hi:PE X i ty)(ho:PE X o td):PC X .NotIn i o (b9p ty td):=by intro B s U H Q I h;refine thn (hi B s U H _ I h) ?_;rintro iv s1⟨y,H1,I1,ry,q1⟩;refine thn (ho B s1 U H1 _ I1 q1) ?_;rintro u s2⟨x,H2,I2,rx,a,ov,ex,g,q2⟩;subst ex;obtain rfl:u=jC a:=rx;exact c1u hu I2 g ry λs3 I3=>#[.bl<|!ov.isSome,H2,I3,rfl,q2]
def b9L(hu:X.A.units+1<cLine)(ho:PE X o td)(hi:PE X i ty)(hv:PE X value tv)(hs:wa value (Qa<|.Subscript o i pos') pos.line X.env=pure Qd):PS X (.Assign [.Subscript o i pos'] value pos) (c5K td ty tv):=by intro B s U H D I h;refine wpAny_Assign_Subscript (thn (hv B s U H _ I h) ?_) hs;rintro r s1⟨v,H1,I1,rv,q1⟩;refine thn (ho B s1 U H1 _ I1 q1) ?_;rintro u s2⟨x,H2,I2,rx,q2⟩;refine thn (hi B s2 U H2 _ I2 q2) ?_;rintro iv s3⟨y,H3,I3,ry,a,H4,ex,g,q3⟩;subst ex;obtain rfl:u=jC a:=rx;exact b5c hu I3 g ry rv λs4 I4=>#[U,H4,I4,q3]
end
def b8u(h:Heap)(a:wt<h.objs.size):eB P w H (h.push {cls:=.type "dict",data:=.dict<|List.toArray []}) h.objs.size (.dK []):=#[jJ _,beq_eq_false_iff_ne.mpr<|jL<|qd a,[],.nil,Heap.DictOf.new h]
def c2R:TE:=λ_ H Q=>∀p,H p=Qb->Q (.ref p) (upd H p<|.dK [])
def b6A:PE X (.Dict [] [] pos) c2R:=λB s U H Q I h=>wpAny_Dict_empty #[.ref s.heap.objs.size,_,I.laid (a:=s.heap.objs.size) (o:=.dK []) (t':=s.toks) (λ_ _ q=>qC _ q) (qM _)<|b8u s.heap I.big,rfl,h _<|I.hok.fresh<|qM _]
structure M1(X:Cx)(o:Expr)(m:Str)(apos:Pos)(e:Expr)(cpos:Pos):Prop where
 base:U8 X o m
 few:((j9 cpos (j4 [e] X.env)).all (λx=>!x.1)&&(wu cpos (wc [] X.env)).all (λx=>x.1.isSome)&&decide (([e]:T0n).length+([]:List Keyword).length+(if([]:List Keyword).isEmpty then 0 else 1)<30))=Qc
 line:(apos.endLine==cpos.line)=Qc
 trees:j9 cpos (j4 [e] X.env)=[(Qd,eval e X.env)]
def IsD(H:Hp)(a:Addr):Prop:=(∃kvs,Rd H a<|.dK kvs)\/∃kvs,Rd H a<|.dT kvs
def b7r(I:Inv X B U H s)(d:IsD H a):s.TypeIs (.ref a) "dict"/\(∀b,jC a=.ref b->∃ob,s.heap.get? b=Qa ob/\ob.dict=Qb)/\(a==wt)=false:=by
 obtain⟨f,e⟩|⟨f,e⟩:=d;.let⟨_,g,k,_,c⟩:=a6L I.hok e;refine#[c.typeIs,λb q=>?_,g];cases q;let⟨ob,_,_,j,i,_⟩:=c;exact#[ob,j,i.2.1]
 .let⟨_,g,Y,_,c⟩:=b0b I.hok e;refine#[c.typeIs,λb q=>?_,g];cases q;let⟨ob,_,_,j,i,_⟩:=c;exact#[ob,j,i.2.1]
section
variable{d:V}{o:Option V}
def c4W(hu:A.units+1<cLine)(I:Inv X B U H s)(g:b5v H a y o)(q:RelV y u)(h:∀p s',Inv X B U H s'->RelV (o.getD .non) p->Q p s'):wpAny (model X.prog X.w) A (call (.builtin "dict.get") [.ref a,u]) Q E s:=by
 obtain⟨f,k,e,j,l⟩|⟨f,k,b,e,j,r,l⟩:=g;.subst j;let⟨z,i,t,c,d⟩:=a6L I.hok e;refine call_meetsIn vR d.typeIs PySem.F.entry_dict_get (PySem.F.args_dict_get_2 _ _) (meets_dict_get (cO X.prog X.w) a (a6C q) i) #[_,d.mapOf,h _ _ (I.tok _) ?_];rw[l];exact(c.val k).getD rfl
 .subst j;cases(show u=jC b from q);let⟨z,i,Y,c,d⟩:=b0b I.hok e;refine call_meetsIn vR d.typeIs PySem.F.entry_dict_get (PySem.F.args_dict_get_2 _ _) (meetsH_dict_get (uy<|cO X.prog X.w) a b i) #[yp hu,k,Y,a4u I.hok r,d,h _ _ (I.tok _) ?_];rw[l];exact(c.val k).getD rfl
end
noncomputable def c2S(td ty:TE):TE:=λU H Q=>td U H λx H1=>∃a,x=.ref a/\IsD H1 a/\ty U H1 λy H2=>∃o,b5v H2 a y o/\Q (o.getD .non) H2
def c2Q(td ty:TE):TE:=λU H Q=>td U H λx H1=>∃a,x=.ref a/\IsD H1 a/\ty U H1 λy H2=>∃kvs k v,H2 a=Qa (.dK kvs)/\y=kV k/\uC kvs k=Qa v/\Q v (upd H2 a<|.dK<|a4U kvs k)
section
variable{f:Expr}{tx:TE}
def a9k(hu:X.A.units+1<cLine)(ho:PE X o td)(he:PE X e ty)(m:M1 X o "get" apos e cpos):PE X (.Call (.Attribute o "get" apos) [e] [] cpos) (c2S td ty):=by intro B s U H Q I h;refine wpAny_Call_method m.base m.few m.line PySem.F.plainAttrs_dict vR PySem.F.type_dict_get<|thn (ho B s U H _ I h) ?_;rintro u s1⟨x,H1,I1,rx,a,ex,d,q1⟩;subst ex;obtain rfl:u=jC a:=rx;let⟨t1,t2,_⟩:=b7r I1 d;refine#[t1,t2,?_];rw[m.trees];exact vn rfl<|zx<|ky<|thn (he B s1 U H1 _ I1 q1) (by rintro iv s2⟨y,H2,I2,ry,ov,g,q2⟩;exact zE<|c4W hu I2 g ry λw' s3 I3 rw'=>#[_,H2,I3,rw',q2])
def b6z(ho:PE X o td)(he:PE X e ty)(m:M1 X o "pop" apos e cpos):PE X (.Call (.Attribute o "pop" apos) [e] [] cpos) (c2Q td ty):=by intro B s U H Q I h;refine wpAny_Call_method m.base m.few m.line PySem.F.plainAttrs_dict PySem.F.slot_dict_pop PySem.F.type_dict_pop<|thn (ho B s U H _ I h) ?_;rintro u s1⟨x,H1,I1,rx,a,ex,d,q1⟩;subst ex;obtain rfl:u=jC a:=rx;let⟨t1,t2,_⟩:=b7r I1 d;refine#[t1,t2,?_];rw[m.trees];refine vn rfl<|zx<|ky<|thn (he B s1 U H1 _ I1 q1) ?_;rintro iv s2⟨y,H2,I2,ry,kvs,k,v,ea,ey,l,q2⟩;refine zE ?_;subst ey;exact c6J I2 ea ry l (.inl rfl) λw' s3 I3 rw'=>#[v,_,I3,rw',q2]
end
section
variable{kvs:List (Key×V)}
end
end L2
namespace Att
open PySem PySem.W PySem.Calls PyProof.Rows
section
variable{K:Frag}
end
end Att
namespace L2
open PySem PySem.Spec PyProof.Rows
section
variable{K:qB}
end
section
variable{κ:Type}[DecidableEq κ]
end
end L2
namespace L2.L3
open PySem PySem.Spec PyProof.Rows
def a7D(i:Nat)(fa fb:EF):SF:=λZ=>match fa (frzAll Z),fb (frzAll Z)with|some (.ok<|.list a),Qa (.ok<|.list b)=>if(a++b).all b0V&&bN (a.length+b.length)then Qa (.nx<|Z.set i<|.lst<|a++b)else Qb|_,_=>Qb
variable{a:Expr}
def a6K i{x:Str}(M:X.N.Nodup)(L:DE X a fa)(K:DE X b fb)(hi:X.N[i]?=Qa x:=by rfl)(hx:Loc X.env.scope x:=by first|exact jU rfl|exact qz rfl)(E:wa (.BinOp a .Add b p2) (Qa<|.Name x p) pos.line X.env=pure false:=by rfl)(J:U7 X x:=by first|exact .inl rfl|exact .inr rfl):DS X (.Assign [.Name x p] (.BinOp a .Add b p2) pos) (a7D i fa fb):=#[λB s U H D I⟨Z,o,t,w,G,c,R,q⟩=>a4b M hi hx (b6x b2P L.run K.run) E J B s U H D I (by
 unfold a7D at c;split at c
 .rename_i da db T S;split at c;.rename_i f;rw[qD]at f;cases(qA c);let⟨G',y,r⟩:=R.frzAll;refine#[_,_,t,w,G',T,r,λv G1 H1 k A=>#[_,_,t,w,G1,S,r.more k,λu G2 H2 d C=>?_]];have g:=k.trans d;have e:=A.mono d.gg;have Q:Grow G H G H2:=#[.refl _,g.hh,y.trans<|g.gg.trans g.sub,λ_ z _=>z,id];cases e with|list P j=>cases C with|list N r2=>exact#[_,_,_,_,rfl,rfl,d.sub.seq P,d.sub.seq N,by rw[j.length,r2.length];exact fZ f.2,λl F=>q G _ _ (.refl _)<|(R.more Q).fresh F<|RepAll.plain f.1<|j.append r2]
  .cases c
 .cases c)]
noncomputable def a2B(kvs:List (Key×q8))(k:Key)(d:q8):List (Key×q8):=if(kvs.any λkv=>decide (kv.1=k))=Qc then kvs.map (λkv=>if kv.1=k then(kv.1,d)else kv)else kvs++[(k,d)]
theorem b0p{e d:Type}{k:Key}:∀{vs:List (Key×e)}{kvs:List (Key×d)},vs.map (·.1)=kvs.map (·.1)->(vs.any λc=>decide (c.1=k))=kvs.any λc=>decide (c.1=k)|[],[],_=>rfl|[],_::_,h=>by simp at h|_::_,[],h=>by simp at h|a::vs,b::kvs,h=>by rw[qE,qE,kl]at h;rw[kD,kD,b0p h.2,h.1]
theorem fE.repl{K:qB}{G:Hp}{k:Key}{v:V}{d:q8}(r:Rep K G v d):∀{vs:List (Key×V)}{kvs:List (Key×q8)},fE K G vs kvs->fE K G (vs.map λe=>if e.1=k then(e.1,v)else e) (kvs.map λe=>if e.1=k then(e.1,d)else e)|[],[],h=>h|[],_::_,h=>by have:=h.1;simp at this|_::_,[],h=>by have:=h.1;simp at this|a::vs,b::kvs,⟨h1,h2⟩=>by rw[qE,qE,kl]at h1;rw[qE,qE]at h2;cases h2 with|cons o j=>
   let⟨i,g⟩:=fE.repl (k:=k) r (vs:=vs) (kvs:=kvs) #[h1.2,j];by_cases c:b.1=k
   .have f:=h1.1.trans c;refine#[?_,?_];.simp only[qE,if_pos c,i,h1.1]
    .simp only[qE,if_pos c,if_pos f];exact .cons r g
   .have f:¬a.1=k:=λz=>c<|h1.1.symm.trans z;refine#[?_,?_];.simp only[qE,if_neg c,i,h1.1]
    .simp only[qE,if_neg c,if_neg f];exact .cons o g
variable{k:Key}{vs:List (Key×V)}{kvs:List (Key×q8)}
def fE.put{K:qB}(h:fE K G vs kvs)(r:Rep K G v d):fE K G (putK vs k v) (a2B kvs k d):=by
 unfold putK a2B;rw[b0p h.1];split;.exact fE.repl r h
 .refine#[by rw[jD,jD,h.1];rfl,?_];rw[jD,jD];exact h.2.append<|.cons r .nil
def fE.len{K:qB}(h:fE K G vs kvs):vs.length=kvs.length:=by have:=congrArg zm h.1;simpa using this
variable{f:Expr}{fd:EF}
def c0W(D:List (q8×q8))(k z:q8):Option q8:=match uG k with|some k=>Qa ((dO k D).getD z)|none=>Qb
def c2u(fd fk:EF):EF:=λZ=>bnd (fd Z) λx=>match x with|.dict D=>bnd (fk Z) λk=>lft (c0W D k .none)|_=>Qb
theorem a1y{k:Key}:∀kvs:List (Key×V),uC kvs k=yQ k kvs
 |[]=>rfl|p::r=>by
  unfold yQ;by_cases c:p.1=k;.rw[if_pos c,a0w c]
  .rw[if_neg c,a0x c,a1y r]
theorem a0l{k:Key}:∀{kvs:List (Key×V)}{D:List (q8×q8)},D.map (·.1)=kvs.map (λp=>hZ p.1)->dO k D=Qb->yQ k kvs=Qb
 |[],_,_,_=>rfl|p::r,[],h,_=>by simp at h|p::r,q::D,h,e=>by
  rw[qE,qE,kl]at h;unfold dO at e;unfold yQ;split at e;.cases e
  .rename_i c;rw[h.1,a2h]at c;rw[if_neg λz=>c<|by rw[z]];exact a0l h.2 e
variable{D:List (q8×q8)}
def a9G{K:qB}{kvs:List (Key×V)}{z:q8}{a:V}(h:D.map (·.1)=kvs.map (λp=>hZ p.1))(r:RepAll K G (kvs.map (·.2)) (D.map (·.2)))(c:Rep K G a z):Rep K G ((uC kvs k).getD a) ((dO k D).getD z):=by rw[a1y];cases e:dO k D with|none=>rwa[a0l h e]|some d=>let⟨v,b,f⟩:=xZ h r e;rwa[b]
def c1s(hu:X.A.units+64<cLine)(z:DE X o fd)(A:DE X e fk)(m:M1 X o "get" ap e cp:=by exact#[rfl,rfl,rfl,rfl]):DE X (.Call (.Attribute o "get" ap) [e] [] cp) (c2u fd fk):=#[λB s U H Q I⟨Z,r,N,P,G,E,R,q⟩=>a9k (by lia) z.run A.run m B s U H Q I (bE R E q.x λx v T M j K w p=>by
  split at p;.rename_i D;cases w with|dict h J y=>
    rename_i a b;refine#[a,rfl,.inl #[b,a3f j.sub h],bE K p (q.more j).x λk u S L c R2 t F=>?_];let⟨d,f,rfl⟩:=bS F;unfold c0W at f;split at f;.rename_i g i;cases(qA f);rw[pT i]at t;cases pL t;have C:=a3f c.sub<|a3f c.gg h;exact#[_,.inl #[b,g,C,rfl,rfl],q _ _ _ (j.trans c)<|a9G J (y.mono c.gg) .none]
    .cases f
  .cases p)]
noncomputable def blD:q8->Option Bool|.bool b=>Qa b|_=>Qb
def b8S{b:Bool}(h:blD d=Qa b):d=.bool b:=by
 unfold blD at h;split at h;.cases h;rfl
 .cases h
def c4X(x y:q8):Option q8:=match x,y with|.list Y,.int k=>(match lJ intD Y with|some ns=>Qa (.int (ns.count k:Nat))|none=>Qb)|.list Y,.bool c=>(match lJ blD Y with|some bs=>Qa (.int (bs.count c:Nat))|none=>Qb)|_,_=>Qb
def c4y(x y:q8):Option q8:=match x,y with|.list Y,.bool c=>(match lJ blD Y with|some bs=>if c∈bs then Qa (.int (bs.idxOf c:Nat))else Qb|none=>Qb)|_,_=>Qb
theorem yY:∀{bs:List Bool}{us:T0m},bJ (bs.map V.bl) us->us=bs.map jy|[],_,.nil=>rfl|b::bs,_,.cons r t=>by cases r;rw[qE,yY t]
theorem a4W k:∀{us:T0m}{ns:T0s},bJ (ns.map V.int) us->us.countP (isInt k)=ns.count k|_,[],.nil=>rfl|_,n::ns,.cons ⟨t,e⟩ r=>by subst e;rw[List.countP_cons,List.count_cons,a4W k r];rfl
def b4x:MtM X "list.count" (λx vs H Q=>∃(p:Addr)(ns:T0s)(k:Int),x=.ref p/\vs=[.int k]/\SqL X.K H p (ns.map V.int)/\Q (.int (ns.count k:Nat)) H):=by
 rintro B s U H x vs v E Q I e f⟨p,ns,k,C,A,w,q⟩;subst C A;cases e;let⟨u,rfl,t,rfl⟩:=f.one;let⟨a,c,g,J⟩:=I.list w;let⟨⟨K,D,G,b⟩,i,d,o,_,j⟩:=g;subst o j;have z:=intsAre_of c;refine wv vW #[_,d,rfl] F.entry_list_count (F.args_list_count_2 _ _)
  (SeqAt.list_countAt p a.toArray i D b (.int k t)<|isInt k) #[d,λy r=>(eq_isInt k t z y<|by simpa using r).at _ _,#[.int _,H,I.tok _,#[_,rfl],?_]];have:(a.toArray.toList.countP (isInt k):Nat)=ns.count k:=by simpa using a4W k c
 rwa[this]
noncomputable def b7s(c:Bool):Value->Bool|.bool b=>b==c|_=>Qd
def b4y:MtM X "list.count" (λx vs H Q=>∃(p:Addr)(bs:List Bool)(c:Bool),x=.ref p/\vs=[.bl c]/\SqL X.K H p (bs.map V.bl)/\Q (.int (bs.count c:Nat)) H):=by
 rintro B s U H x vs v E Q I e f⟨p,bs,c,C,A,w,q⟩;subst C A;cases e;let⟨u,rfl,rfl⟩:=f.one;let⟨r,g,i,J⟩:=I.list w;let⟨⟨K,D,G,a⟩,j,d,o,_,k⟩:=i;subst o k;have z:=yY g;subst z;refine wv vW #[_,d,rfl] F.entry_list_count (F.args_list_count_2 _ _)
  (SeqAt.list_countAt p (bs.map jy).toArray j D a (.bool c)<|b7s c) #[d,λy t=>?_,#[.int _,H,I.tok _,#[_,rfl],?_]];.let⟨b,_,rfl⟩:=qR.mp (show y∈bs.map jy by simpa using t);exact wE b c
 .have:((bs.map jy).toArray.toList.countP (b7s c):Nat)=bs.count c:=by rw[List.countP_map];rfl
  rwa[this]
def b4w:MtM X "list.index" (λx vs H Q=>∃(p:Addr)(bs:List Bool)(c:Bool),x=.ref p/\vs=[.bl c]/\SqL X.K H p (bs.map V.bl)/\c∈bs/\Q (.int (bs.idxOf c:Nat)) H):=by
 intro B s U H x vs v us Q I rx rv⟨p,bs,c,e1,e2,hq,hc,q⟩;subst e1 e2;cases rx;let⟨u,rfl,rfl⟩:=rv.one;let⟨its,r1,p1,hz⟩:=I.list hq;let⟨⟨c1,d1,t1,sl1⟩,n1,g1,k1,_,m1⟩:=p1;subst k1 m1;have hi:=yY r1;subst hi;have lt:=List.idxOf_lt_length_iff.mpr hc;rw[qF]at hz;have hz2:(j5:Nat)<2^62:=by rw[w5];decide
 refine wv F.slot_list_index #[_,g1,rfl] F.entry_list_index (F.args_list_index_2 _ _)
  (SeqAt.list_indexAt p (bs.map jy).toArray n1 d1 sl1 (.bool c) (b7s c) (bs.idxOf c) (by simpa using lt) (by omega) ?_ ?_) #[g1,λy hy=>?_,#[.int _,H,I.tok _,#[_,rfl],q]];.have:=List.getElem_idxOf lt;simpa[b7s]using this
 .intro j hjs hlt;have h1:j<bs.length:=by simpa using hjs
  have:=List.not_of_lt_findIdx (p:=(·==c)) (xs:=bs) hlt;simpa[b7s]using this
 .let⟨b,_,rfl⟩:=qR.mp (show y∈bs.map jy by simpa using hy);exact wE b c
def b8A(D:DE X o fo)(E:DE X e fa)(i:U8 X o "count":=by rfl)(t:U4 X cpos (e::[]):=by rfl)(f:(apos.endLine==cpos.line)=true:=by rfl)(j:U5 X e []:=by rfl)(b:U6 X cpos []:=by rfl):DE X (.Call (.Attribute o "count" apos) [e] [] cpos) (dfE c4X fo fa):=tY λZ r h=>by
 unfold dfE at h;split at h
 .rename_i x y J I;let⟨d,p,rfl⟩:=bS h;refine#[d,rfl,?_];unfold c4X at p;split at p
  .rename_i Y k;split at p;.rename_i L C;have A:=iO (g:=jb) (λd a q=>a7S q) C;subst A;cases(qA p);exact a6o F.plainAttrs_list vW F.type_list_count b4x (D.pd J) (oO (E.pd I) tG j) (λx G H s r=>by cases r with|list u _=>exact .inl #[rfl,_,s.seq u]) (λx K G H Q s r v q=>by cases r with|list u w=>have e:=w.ints;subst e;cases v with|cons z r2=>cases z;cases r2;exact#[_,L,k,rfl,rfl,s.seq u,q _ G H (.refl s)<|.int _]) i t f j b
   .cases p
  .rename_i Y c;split at p;.rename_i bs C;have A:=iO (g:=vb) (λd a q=>b8S q) C;subst A;cases(qA p);exact a6o F.plainAttrs_list vW F.type_list_count b4y (D.pd J) (oO (E.pd I) tG j) (λx G H s r=>by cases r with|list u _=>exact .inl #[rfl,_,s.seq u]) (λx K G H Q s r v q=>by cases r with|list u w=>have e:=w.bools;subst e;cases v with|cons z r2=>cases z;cases r2;exact#[_,bs,c,rfl,rfl,s.seq u,q _ G H (.refl s)<|.int _]) i t f j b
   .cases p
  .cases p
 .cases h
def b5b(A:DE X o fo)(D:DE X e fa)(j:U8 X o "index":=by rfl)(p:U4 X cpos (e::[]):=by rfl)(i:(apos.endLine==cpos.line)=true:=by rfl)(k:U5 X e []:=by rfl)(b:U6 X cpos []:=by rfl):DE X (.Call (.Attribute o "index" apos) [e] [] cpos) (dfE c4y fo fa):=tY λZ r h=>by
 unfold dfE at h;split at h
 .rename_i x y J I;let⟨d,f,rfl⟩:=bS h;refine#[d,rfl,?_];unfold c4y at f;split at f
  .rename_i Y c;split at f
   .rename_i bs E;split at f;.rename_i C;have z:=iO (g:=vb) (λd a q=>b8S q) E;subst z;cases(qA f);exact a6o F.plainAttrs_list F.slot_list_index F.type_list_index b4w (A.pd J) (oO (D.pd I) tG k) (λx G H s r=>by cases r with|list t _=>exact .inl #[rfl,_,s.seq t]) (λx K G H Q s r u q=>by cases r with|list t v=>have e:=v.bools;subst e;cases u with|cons w r2=>cases w;cases r2;exact#[_,bs,c,rfl,rfl,s.seq t,C,q _ G H (.refl s)<|.int _]) j p i k b
    .cases f
   .cases f
  .cases f
 .cases h
noncomputable def a0o(kvs:List (Key×q8))(k:Key):List (Key×q8):=kvs.filter λkv=>decide (kv.1≠k)
def fE.keys{K:qB}(r:fE K G vs kvs):(kvs.map λp=>(hZ p.1,p.2)).map (·.1)=vs.map λp=>hZ p.1:=by rw[qZ];have:=congrArg (List.map hZ) r.1;rw[qZ,qZ]at this;exact this.symm
def fE.vals{K:qB}(r:fE K G vs kvs):RepAll K G (vs.map (·.2)) ((kvs.map λp=>(hZ p.1,p.2)).map (·.2)):=by rw[qZ];exact r.2
theorem fE.drop{K:qB}{G:Hp}{k:Key}:∀{vs:List (Key×V)}{kvs:List (Key×q8)},fE K G vs kvs->fE K G (a4U vs k) (a0o kvs k)|[],[],h=>h|[],_::_,h=>by have:=h.1;simp at this|_::_,[],h=>by have:=h.1;simp at this|a::vs,b::kvs,⟨h1,h2⟩=>by rw[qE,qE,kl]at h1;rw[qE,qE]at h2;cases h2 with|cons i g=>
   let⟨e,d⟩:=fE.drop (k:=k) (vs:=vs) (kvs:=kvs) #[h1.2,g];unfold a4U a0o at e d⊢;by_cases c:b.1=k;.have f:=h1.1.trans c;rw[jT (by simpa using f),jT<|by simpa using c];exact#[e,d]
   .have f:¬a.1=k:=λz=>c<|h1.1.symm.trans z;rw[jG (by simpa using f),jG<|by simpa using c];exact#[by rw[qE,qE,e,h1.1],by rw[qE,qE];exact .cons i d]
def a1P{K:qB}{kvs:List (Key×V)}(h:D.map (·.1)=kvs.map (λp=>hZ p.1))(r:RepAll K G (kvs.map (·.2)) (D.map (·.2))):(uC kvs k).isSome=(dO k D).isSome:=by rw[a1y];cases e:dO k D with|none=>rw[a0l h e];rfl|some d=>let⟨v,a,_⟩:=xZ h r e;rw[a];rfl
def c6r(h:(cO P w).is k u=Qc):RelV (kV k) u:=by
 rw[b1j]at h;obtain⟨i,t,rfl,rfl⟩|⟨x,t,rfl,rfl⟩:=dX h;.exact#[t,rfl]
 .exact#[t,rfl]
theorem a6A{P:Program}{w:World}:∀ l vs(us:T0m),KV l vs->us.length=vs.length->(∀(j:Nat) v,us[j]?=Qa v->∃k x,vs[j]?=Qa (k,x)/\(cO P w).is k v=Qc)->bJ (l.map λp=>kV p.1) us
 |[],_,us,r,hl,_=>by cases r;cases us with|nil=>exact .nil|cons _ _=>simp at hl
 |p::l,_,us,r,hl,h=>by cases r with|@cons _ q _ a b t=>cases us with|nil=>simp at hl|cons u us=>
   refine .cons ?_ (a6A (P:=P) (w:=w) l a us t (by simpa using hl) λj v e=>?_);.let⟨k,x,e,g⟩:=h 0 u rfl;cases e;show RelV (kV p.1) u;rw[b.1];exact c6r g
   .let⟨k,x,e,g⟩:=h (j+1) v (by simpa using e);exact#[k,x,by simpa using e,g]
end L2.L3
namespace L2.SX
open PySem PyProof.Rows
section
variable{K:Type}[DecidableEq K]{knd:KeyKind prog w K}
end
section
variable{K:Type}[DecidableEq K]{knd:KeyKind prog w K}
end
end L2.SX
namespace L2.L3
open PySem PySem.Spec PyProof.Rows PySem.Calls
section
variable{e1 e2:Expr}
end
end L2.L3
namespace L2.L3
open PySem PySem.Spec PyProof.Rows
section
variable{cap:T0e}
end
section
variable{o:HO}
end
section
variable{cap:T0e}
end
section
variable{N:Hp}
end
def b0J{r d:Addr}{n:Nat}{P:Nat->Value->Prop}{OK:Heap->Prop}{ss:T0q}(K:PySem.W.KdlSrc prog w T r d n P OK)(hh:A.handled=Qb)(hok:OK s.heap)(h64:n<64)(hP:∀acc,ItemsOf P acc n->um acc.toList ss)(h:∀(h1:Heap) tk h2 ep out(ss':T0q),(U9 s.heap h1)->(U9 h1 h2)->h2.get? h1.objs.size=Qa (v8 "list" out ep)->um out.toList ss'->ss'.Perm ss->sortedS ss'=Qc->Q (.ref h1.objs.size) {s with heap:=h2,toks:=tk}):wpAny (model prog w) A (call (.builtin "sorted") [.ref r]) Q E s:=by
 refine vL kind_sorted plain_sorted entry_sorted (args_sorted1 _) ?_;refine j0 (m:=checkCount "sorted" 1 1 _)<|j3<|j0 (PySem.W.kdu_collect K hh hok (by rw[w5];exact Q4 ‹_› rfl) λh1 tk acc kp hi=>?_);have hS:=hP acc hi;have hl:acc.toList.length<64:=by rwa[qa,hi.1]
 have hoL:(h1.push<|v8 "list" acc.toList.toArray 0).get? h1.objs.size=Qa (v8 "list" acc.toList.toArray 0):=qP _ rfl;refine j0<|ur ?_ (by rw[w5];exact Q4 ‹_› rfl);refine j0<|v3<|wb slot_list_sort #[_,hoL,rfl] entry_list_sort (list_sort_treeK strKind_oneLt hoL hS.keysOf (λv1z v2z rest e=>keyKind_strs<|by rwa[<-e]) hl λst' a1 a2=>#[_,rfl,?_]) (args_list_sort _);let⟨ss',b1,b2,b3⟩:=sorted_out_str hS a1 a2;generalize(arrOf st').map (·.2)=out at b1;obtain⟨e1,ho1⟩:∃e1,((h1.push<|v8 "list" acc.toList.toArray 0).update h1.objs.size<|kG λ_=>(List.toArray [])).get? h1.objs.size=Qa (v8 "list" (List.toArray []) e1):=#[_,yn hoL<|λ_=>(List.toArray [])];have ho6:=qC (v8 "list" (List.toArray []) 0)<|qC (v8 "tuple" acc.toList.toArray 0) ho1;obtain⟨e2,ho2⟩:∃e2,(y6 (h1.push<|v8 "list" acc.toList.toArray 0) h1.objs.size acc.toList out).get? h1.objs.size=Qa (v8 "list" out e2):=#[_,yn ho6<|λ_=>out];refine j3 #[_,rfl,h h1 tk _ e2 out ss' kp (λb o q=>?_) ho2 b1 b2 b3];have hb:=qd<|qQ q;unfold y6;rw[kh _ _ _ _ hb];refine qC _<|qC _ ?_;rw[kh _ _ _ _ hb];exact qC _ q
def a8q(M:X.calm=Qc):pC X (.builtin "sorted") (λY H Q=>∃(a:Addr)(kvs:List (Key×V))(ns:T0q),Y=[V.ref a]/\Rd H a (.dK kvs)/\kvs.map (·.1)=ns.map zG/\ns.length<64/\∀l,H l=Qb->Q (.ref l) (upd H l<|.lst<|(fG ns).map V.str)):=by
 rintro B s U H Y us Q I r⟨a,kvs,ns,e,N,A,R,q⟩;subst e;let⟨u,rfl,E⟩:=vals1 r;cases E;let⟨z,F,k,b,T⟩:=a6L I.hok N;let⟨ep,g⟩:=T.dictAt;have G:kvs.length=ns.length:=by have:=congrArg zm A;rwa[qF,qF]at this
 refine b0J (ss:=ns) (PySem.W.kdl_dict (knd:=cO X.prog X.w) (kvs:=k) (ep:=ep) F) (I.ok.hd M) g (by rwa[<-b.length,G]) (λi y=>?_) λS o h2 f c D J d K b1 b2 b3=>?_
 .have t:=a6A (P:=X.prog) (w:=X.w) kvs k i.toList b (by rw[qa];exact y.1) (λj v e=>y.2 j v<|by rwa[<-jt]);have:(kvs.map λp=>kV p.1)=ns.map V.str:=by have:=congrArg (List.map kV) A;rwa[qZ,qZ]at this
  rw[this]at t;exact a3D t
 .have e:=a8S b2 b3;subst e;have C:=I.kept (t':=o) J;have L:=C.hok.fresh<|qM _;refine#[.ref S.objs.size,_,C.laid (t':=o) d (qM _) ?_,rfl,q _ L];refine#[?_,c.toList,f,a1x b1,?_];.rw[qF,(bP ns).length_eq];exact jg (xQ<|by exact Q4 ‹_› rfl)
  .rw[K]
noncomputable def c4q:q8×q8->Option Str:=λp=>match p.1 with|.str x=>Qa x|_=>Qb
def a8A:List (q8×q8)->Option (List Str)|[]=>Qa []|p::r=>match c4q p,a8A r with|some x,Qa Y=>Qa (x::Y)|_,_=>Qb
def b2s(O:T0l):Option q8:=match O with|[.dict D]=>(match a8A D with|some ns=>if ns.length<64 then Qa (.list<|(fG ns).map .str)else Qb|none=>Qb)|_=>Qb
theorem b3z:∀{D:List (q8×q8)}{ns:T0q},a8A D=Qa ns->D.map (·.1)=ns.map .str
 |[],ns,h=>by cases h;rfl|(k,v)::r,ns,h=>by
  unfold a8A at h;split at h
  .rename_i x Y a b;cases h;rw[qE,qE,b3z b];congr 1;unfold c4q at a;dsimp only at a;split at a;.cases a;rfl
   .cases a
  .cases h
theorem a6B:∀{kvs:List (Key×V)}{ns:T0q},(kvs.map λp=>hZ p.1)=ns.map .str->kvs.map (·.1)=ns.map zG|[],[],_=>rfl|[],_::_,h=>by cases h|_::_,[],h=>by cases h|(k,v)::r,x::ns,h=>by rw[qE,qE]at h;injection h with h1 h2;rw[qE,qE,a6B h2];congr 1;cases k with|inl i=>cases h1|inr y=>injection h1 with h1;subst h1;rfl
end L2.L3
namespace L2.L3
open PySem PySem.Spec PySem.Calls PyProof.Rows
noncomputable def lB(Z:List Ent):Bool:=Z.all λe=>match e with|.ro _ _=>Qd|_=>Qc
variable{b:BS}
def c0s(h:lB Z=Qc):Z[i]?≠Qa (.ro oa b):=λz=>by have:=qu.mp h _<|zd z;cases this
def BOk.nd{K:qB}(h:BOk K G H a b fp):fp.Nodup:=by let⟨q,d,p,o,k,Y,j,rfl,n,f,e,c,i,g,_⟩:=h;simp only[kB,qI,jB,not_or,not_false_eq_true,List.nodup_nil,and_true];exact#[#[dI f e (by nofun),dI f c (by nofun),dI f i (by nofun),dI f g<|by nofun],#[dI e c (by nofun),dI e i (by nofun),dI e g<|by nofun],#[dI c i (by nofun),dI c g<|by nofun],n]
def Tab.tr{P:Addr}(t:Tab P q H)(k:∀x o,H x=Qa o->¬yT o->H' x=Qa o):Tab P q H':=by let⟨b,g,f,d⟩:=t;refine#[b,k _ _ g (λz=>z),f,λa p e=>?_];let⟨c,j,i⟩:=d a p e;exact#[c,j,k _ _ i<|λz=>z]
section
variable{K:qB}{β:Sto}{fp':T0o}
def RepS.back(R:RepS K H1 Gz G H U Z)(hn:lB Z=Qc)(k1:∀x∈fp,∃o,H x=Qa o/\yT o)(k2:∀x∈fp,H1 x≠Qb)(k3:∀x∈fp',(∃o,H' x=Qa o/\yT o)/\less H fp x=Qb/\G' x=Qb)(g:Grow G (plus (less H fp) H' fp') G' H'):RepS K (plus (less H1 fp) H' fp') Gz G' H' U Z:=by
 have s:∀x o,x∉fp->H x=Qa o->plus (less H fp) H' fp' x=Qa o:=λx o nx e=>by rw[bL (λz=>by have:=(k3 x z).2.1;rw[cY nx,e]at this;cases this),cY nx,e]
 have keep:∀x o,x∉fp->H x=Qa o->(∀L,o≠.tbl L)->H' x=Qa o:=λx o nx e nt=>g.hh.keep x o (s x o nx e) nt;have nk:∀x o,H x=Qa o->¬yT o->x∉fp:=λx o e n z=>by let⟨S,A,k⟩:=k1 x z;rw[e]at A;cases A;exact n k
 have T:∀x o,x∉fp->H x=Qa o->x∉fp':=λx o nx e z=>by have:=(k3 x z).2.1;rw[cY nx,e]at this;cases this
 have u:∀P q,Tab P q H->Tab P q H':=λP q t=>g.hh.tab P q (t.tr λx o e n=>s x o (nk x o e n) e);have own:∀x o,H1 x=Qb->H x=Qa o->x∉fp/\plus (less H1 fp) H' fp' x=none:=λx o D e=>by have nx:x∉fp:=λz=>k2 x z D;exact#[nx,by rw[bL<|T x o nx e,cY nx,D]]
 have I:∀x o,x∉fp->H x=Qa o->G x=Qb->G' x=none:=λx o nx e n=>g.new x n (by rw[s x o nx e];simp);refine#[#[R.grow.gg.trans g.gg,#[λx o e nt=>?_,λx L e=>?_,λP q t=>?_],g.sub,λx e n=>?_,λz=>g.nt<|R.grow.nt z],R.len,λi o e X M=>?_,R.inj.other λj a' dss X M vs e=>?_,#[λx hx c P e=>u _ _<|R.tab.1 x hx c P e,g.nt R.tab.2]]
 .by_cases p:x∈fp';.rwa[dG p]at e
  .rw[bL p]at e;by_cases h:x∈fp;.rw[gG h]at e;cases e
   .rw[cY h]at e;exact keep x o h (R.grow.hh.keep x o e nt) nt
 .by_cases p:x∈fp';.rw[dG p]at e;exact#[L,e]
  .rw[bL p]at e;by_cases h:x∈fp;.rw[gG h]at e;cases e
   .rw[cY h]at e;let⟨p1,D⟩:=R.grow.hh.tbl x L e;exact g.hh.tbl x p1 (s x _ h D)
 .refine u P q<|R.grow.hh.tab P q (t.tr λx o e n=>?_);by_cases p:x∈fp';.rw[dG p]at e;let⟨S,A,k⟩:=(k3 x p).1;rw[e]at A;cases A;exact absurd k n
  .rw[bL p]at e;by_cases h:x∈fp;.rw[gG h]at e;cases e
   .rwa[cY h]at e
 .by_cases p:x∈fp';.exact(k3 x p).2.2
  .rw[bL p]at n;by_cases h:x∈fp;.rw[gG h]at n;exact absurd rfl n
   .rw[cY h]at n;cases q:H1 x with|none=>exact absurd q n|some o=>let⟨S,A⟩:=R.grow.hh.ne q;exact I x S h A (R.grow.new x e n)
 .have E:=R.ent i o e X M;cases e with|no=>trivial|val d=>let⟨v,z,Q⟩:=E;exact#[v,z,Q.mono g.gg]|lst es=>let⟨x,Y,z,f,w,J,Q⟩:=E;let⟨nx,F⟩:=own x _ J f;exact#[x,Y,z,keep x _ nx f (by nofun),I x _ nx f w,F,Q.mono g.gg]|exc c=>let⟨x,C,z,f,w⟩:=E;exact#[x,C,z,f,keep x _ (nk x _ w<|λz=>z) w<|by nofun]|nst dss=>let⟨x,bs,z,f,w,J,g4,g5,r⟩:=E;let⟨nx,F⟩:=own x _ J f;refine#[x,bs,z,keep x _ nx f (by nofun),I x _ nx f w,F,g4,g5,Paired.mapP r ?_];rintro y O⟨Y,N,x2,x3,x4⟩;let⟨ny,n2⟩:=own y _ x3 N;exact#[Y,keep y _ ny N (by nofun),I y _ ny N x2,n2,x4.mono g.gg]|dct kvs=>let⟨x,vs,z,f,w,J,r⟩:=E;let⟨nx,F⟩:=own x _ J f;exact#[x,vs,z,keep x _ nx f (by nofun),I x _ nx f w,F,r.mono g.gg]|adr a=>exact E|ro oa b=>exact absurd M (c0s hn)
 .let⟨x,bs,D,e2,_,e3,_⟩:=R.ent j _ _ X M;cases D;rw[keep _ _ (own _ _ e3 e2).1 e2<|by nofun]at e;cases e;exact e2
theorem a6b:∀{β:Sto}{fps:List (List Addr)},Paired (λ(p:Addr×BS)fp=>BOk K G H p.1 p.2 fp) β fps->gC β a=Qa b->∃d c g f fp,fps=g++fp::f/\Paired (λ(p:Addr×BS)fp=>BOk K G H p.1 p.2 fp) d g/\BOk K G H a b fp/\Paired (λ(p:Addr×BS)fp=>BOk K G H p.1 p.2 fp) c f/\∀b',nR β a b'=d++(a,b')::c
 |_,_,.nil,e=>nomatch e|p::β,_,.cons (l₂:=fs) r t,e=>by
  unfold gC at e;split at e;.rename_i h;cases(qA e);exact#[[],β,[],fs,_,rfl,.nil,h▸r,t,λb'=>by unfold nR;rw[if_pos h];rfl]
  .rename_i h;let⟨d,c,g,f,fp,q,k,i,j,o⟩:=a6b t e;exact#[p::d,c,_::g,f,fp,by rw[q];rfl,.cons r k,i,j,λb'=>by unfold nR;rw[if_neg h,o];rfl]
theorem a4f{b a:Type}{F:b->a->Prop}:∀{l d:List b}{m c:List a},Paired F l m->Paired F d c->Paired F (l++d) (m++c)|_,_,_,_,.nil,h=>h|_,_,_,_,.cons r t,h=>.cons r<|a4f t h
def bM.chg(R:bM K H0 Gz G H U Z β)(hn:lB Z=Qc)(hg:gC β a=Qa b):∃fp,BOk K G H a b fp/\(∀x∈fp,G x=Qb)/\∀ G' H' b' fp',BOk K G' H' a b' fp'->(∀x∈fp',less H fp x=Qb/\G' x=Qb)->Grow G (plus (less H fp) H' fp') G' H'->bM K H0 Gz G' H' U Z (nR β a b'):=by
 let⟨fps,S,R⟩:=R;let⟨β1,X,s,j,fp,rfl,p1,hb,p2,es⟩:=a6b S.each hg;have mem:∀x,x∈(s++fp::j).flatten↔x∈s.flatten\/x∈fp\/x∈j.flatten:=λx=>by rw[zn,qe,qU,qU]
 refine#[fp,hb,λx c=>(S.out x<|(mem x).mpr<|.inr<|.inl c).2,λG' H' b' fp' v D g=>?_];have nd:=S.nd;rw[zn,qe,jc,jc]at nd;let⟨I,⟨ndp,F,N⟩,T⟩:=nd;have o1:∀x∈s.flatten,x∉fp:=λx c z=>T x c x (je _ z) rfl;have o2:∀x∈j.flatten,x∉fp:=λx c z=>N x z x c rfl;have k:=S.kind;have d:∀x,x∈s.flatten\/x∈j.flatten->x∉fp/\x∉fp'/\H' x=H x/\(∃o,H x=Qa o/\yT o)/\G' x=Qb/\H0 x=none:=λx c=>by
  have M:=(mem x).mpr (c.elim .inl λz=>.inr<|.inr z);have nx:=c.elim (o1 x)<|o2 x;let⟨o,e,Q⟩:=k x M;have u:x∉fp':=λz=>by have:=(D x z).1;rw[cY nx,e]at this;cases this
  have m:plus (less H fp) H' fp' x=Qa o:=by rw[bL u,cY nx,e]
  exact#[nx,u,by rw[e,g.hh.keep x o m Q.nt],#[o,e,Q],g.new x (S.out x M).2 (by rw[m];simp),(S.out x M).1]
 have R':=RepS.back R hn (λx c=>k x<|(mem x).mpr<|.inr<|.inl c) (λx c=>by rw[dG<|(mem x).mpr<|.inr<|.inl c];let⟨o,e,_⟩:=k x<|(mem x).mpr<|.inr<|.inl c;rw[e];simp) (λx c=>#[v.kind x c,(D x c).1,(D x c).2]) g;have i:∀x,x∈(s++fp'::j).flatten↔x∈s.flatten\/x∈fp'\/x∈j.flatten:=λx=>by rw[zn,qe,qU,qU]
 have eq:plus (less (plus H0 H (s++fp::j).flatten) fp) H' fp'=plus H0 H' (s++fp'::j).flatten:=by
  funext x;by_cases E:x∈fp';.rw[dG E,dG<|(i x).mpr<|.inr<|.inl E]
  .by_cases C:x∈s.flatten\/x∈j.flatten;.let⟨nx,u,e,_⟩:=d x C;rw[bL E,cY nx,dG<|(mem x).mpr (C.elim .inl λz=>.inr<|.inr z),dG<|(i x).mpr (C.elim .inl λz=>.inr<|.inr z),e]
   .have J:x∉(s++fp'::j).flatten:=λz=>((i x).mp z).elim (λz=>C<|.inl z) λz=>z.elim E λz=>C<|.inr z;rw[bL E,bL J];by_cases A:x∈fp;.rw[gG A,(S.out x<|(mem x).mpr<|.inr<|.inl A).1]
    .rw[cY A,bL<|λz=>((mem x).mp z).elim (λz=>C<|.inl z) λz=>z.elim A λz=>C<|.inr z]
 refine#[s++fp'::j,#[?_,?_,λx c=>?_],by rwa[<-eq]];.rw[es];have P:∀f:List (List Addr),(∀x∈f.flatten,x∈s.flatten\/x∈j.flatten)->∀{t:Sto},Paired (λ(p:Addr×BS)fp=>BOk K G H p.1 p.2 fp) t f->Paired (λ(p:Addr×BS)fp=>BOk K G' H' p.1 p.2 fp) t f:=λf hf t pp=>xX pp λp q hq r=>r.keep (λx o c e _=>by rwa[(d x<|hf x<|vJ.mpr #[q,hq,c]).2.2.1]) g.gg;exact a4f (P s (λx c=>.inl c) p1) (.cons v<|P j (λx c=>.inr c) p2)
 .rw[zn,qe,jc,jc];refine#[I,#[v.nd,F,λx c y L z=>?_],λx c y L z=>?_];.subst z;exact(d x<|.inr L).2.1 c
  .subst z;obtain z|z:=qU.mp L;.exact(d x<|.inl c).2.1 z
   .exact T x c x (qi _ z) rfl
 .rcases(i x).mp c with z|z|z;.exact#[(d x<|.inl z).2.2.2.2.2,(d x<|.inl z).2.2.2.2.1]
  .refine#[?_,(D x z).2];by_cases A:x∈fp;.exact(S.out x<|(mem x).mpr<|.inr<|.inl A).1
   .have c:=(D x z).1;rw[cY A]at c;have J:x∉(s++fp::j).flatten:=λw=>by let⟨o,e,_⟩:=k x w;rw[c]at e;cases e
    have:=R.grow.hh.free c;rwa[bL J]at this
  .exact#[(d x<|.inr z).2.2.2.2.2,(d x<|.inr z).2.2.2.2.1]
def a3n(s:aW G H')(k:∀x o,x∉fp->H x=Qa o->H' x=Qa o):Grow G (plus (less H fp) H' fp') G H':=#[.refl _,.of λx o e=>by
  by_cases h:x∈fp';.rwa[dG h]at e
  .rw[bL h]at e;by_cases a:x∈fp;.rw[gG a]at e;cases e
   .rw[cY a]at e;exact k x o a e,s,λ_ z _=>z,id]
end
structure BCls(K:qB):Prop where cl:Cls K (iW K)n1:rV K (iW K) "sheets"n2:rV K (iW K) "done"n3:rV K (iW K) "undone"
theorem RepS.ro{K:qB}{q r G H:Hp}{U:St}{Z:List Ent}{i:Nat}{f:T0k}{b:BS}(R:RepS K q r G H U Z)(h:Z[i]?=Qa (.ro f b)):∃a dx d l1 l2 vs Y ys,U[i]?=Qa (Qa<|.ref a)/\H a=Qa (.ins (iW K) dx<|bFs d l1 l2)/\H d=Qa (.dK vs)/\H l1=Qa (.lst Y)/\H l2=Qa (.lst ys)/\fE K G vs b.sh/\RepAll K G Y b.dn/\RepAll K G ys b.un:=by let⟨o,e,a,s,rfl,_,⟨dx,d,l1,l2,vs,Y,ys,_,_,p,_,k,j,g,c,r2,r3⟩,_⟩:=R.at h;exact#[a,dx,d,l1,l2,vs,Y,ys,e,p,k,j,g,c,r2,r3]
def bD(b:BS):List (q8×q8):=b.sh.map λp=>(hZ p.1,p.2)
def inF(i:Nat)(fk:EF):EF:=λZ=>match Z[i]? with|some (.ro _ b)=>bnd (fk Z) λk=>(match uG k with|some k=>Qa (.ok<|.bool (dO k<|bD b).isSome)|none=>Qb)|_=>Qb
def c3Y(i:Nat)(fk:EF):TF:=λZ=>match Z[i]? with|some (.ro _ b)=>bnd (fk Z) λk=>(match uG k with|some k=>Qa (.ok<|!(dO k<|bD b).isSome)|none=>Qb)|_=>Qb
def ixF(i:Nat)(fk:EF):EF:=λZ=>match Z[i]? with|some (.ro _ b)=>bnd (fk Z) λk=>(match uG k with|some k=>lft (dO k<|bD b)|none=>Qb)|_=>Qb
def c4B(i:Nat)(fk:EF):EF:=λZ=>match Z[i]? with|some (.ro _ b)=>bnd (fk Z) λk=>lft (c0W (bD b) k .none)|_=>Qb
def c2V(i:Nat):EF:=λZ=>match Z[i]? with|some (.ro _ b)=>lft (b2s [.dict<|bD b])|_=>Qb
noncomputable def BS.ls(u:Bool)(b:BS):List q8:=if u then b.un else b.dn
noncomputable def fNm(u:Bool):Str:=if u then"undone"else"done"
variable{l1 l2:Addr}
section
variable{x:Str}
def c4U i(B0:BCls X.K)(hu:X.A.units+64<cLine)(z:DE X e fk)(f:U0 X i x:=by exact U1)(C:U8 X (.Name x p) "sheets":=by rfl)(y:wl .In (.Attribute (.Name x p) "sheets" p2)=false:=by rfl):DE X (.Compare e [.In] [.Attribute (.Name x p) "sheets" p2] pos) (inF i fk):=#[λB s U H Q I⟨Z,r,H0,Gz,G,g,R,q⟩=>c3B (c3G (by lia) z.run<|uW (dF f.1 f.2 f.3 f.4) C) y B s U H Q I (by
 unfold inF at g;split at g
 .rename_i N b A;refine bE R g q.x λk u G1 H1 F L v o=>?_;let⟨a,K,d,S,P,t,Y,M,J,E,D,h3,T,w,r2,r3⟩:=L.ro A;split at o;.rename_i c j;cases(qA o);rw[pT j]at v;cases pL v;refine#[.ref a,J,a,_,K,_,.ref d,rfl,E,B0.cl,B0.n1,rfl,d,uC t c,rfl,.inl #[t,c,.inl D,rfl,rfl],?_];rw[a1P w.keys w.vals];exact q _ _ _ F (.bool _)
  .cases o
 .cases g)]
def c1l i(B0:BCls X.K)(hu:X.A.units+64<cLine)(z:DE X e fk)(f:U0 X i x:=by exact U1)(C:U8 X (.Name x p) "sheets":=by rfl)(y:wl .NotIn (.Attribute (.Name x p) "sheets" p2)=false:=by rfl):DT X (.Compare e [.NotIn] [.Attribute (.Name x p) "sheets" p2] pos) (c3Y i fk):=#[λB s U H Q I⟨Z,r,H0,Gz,G,g,R,q⟩=>c3s (b4l (by lia) z.run<|uW (dF f.1 f.2 f.3 f.4) C) y B s U H Q I (by
 unfold c3Y at g;split at g
 .rename_i N b A;refine bE R g q.x λk u G1 H1 F L v o=>?_;let⟨a,K,d,S,P,t,Y,M,J,E,D,h3,T,w,r2,r3⟩:=L.ro A;split at o;.rename_i c j;cases(qA o);rw[pT j]at v;cases pL v;refine#[.ref a,J,a,_,K,_,.ref d,rfl,E,B0.cl,B0.n1,rfl,d,uC t c,rfl,.inl #[t,c,.inl D,rfl,rfl],_,rfl,?_];rw[a1P w.keys w.vals];exact q _ _ F
  .cases o
 .cases g)]
def c4T i(B0:BCls X.K)(E:DE X kx fk)(e:U0 X i x:=by exact U1)(J:U8 X (.Name x p) "sheets":=by rfl)(D:a8B kx:=by exactλ_ _=>rfl):DE X (.Subscript (.Attribute (.Name x p) "sheets" p2) kx pos) (ixF i fk):=#[λB s U H Q I⟨Z,r,H0,Gz,G,f,R,q⟩=>c2j c0N (uW (dF e.1 e.2 e.3 e.4) J) E.run D B s U H Q I (by
 unfold ixF at f;split at f
 .rename_i oa b F;let⟨a,S,d,l1,l2,A,Y,T,P,L,K,h3,h4,C,r2,r3⟩:=R.ro F;refine#[.ref a,P,a,_,S,_,.ref d,rfl,L,B0.cl,B0.n1,rfl,bE R f q.x λk u G1 H1 t R1 z y=>?_];split at y;.rename_i j o;let⟨v,N,rfl⟩:=bS y;rw[pT o]at z;cases pL z;have c:=C.mono t.gg;let⟨w,M,g⟩:=xZ c.keys c.vals N;exact#[d,A,j,w,rfl,rfl,.inl<|t.hh.keep d _ K (by nofun),M,q w _ _ t g]
  .cases y
 .cases f)]
def c1r i(B0:BCls X.K)(hu:X.A.units+64<cLine)(D:DE X e fk)(f:U0 X i x:=by exact U1)(F:U8 X (.Name x p) "sheets":=by rfl)(m:M1 X (.Attribute (.Name x p) "sheets" p2) "get" ap e cp:=by exact#[rfl,rfl,rfl,rfl]):DE X (.Call (.Attribute (.Attribute (.Name x p) "sheets" p2) "get" ap) [e] [] cp) (c4B i fk):=#[λB s U H Q I⟨Z,r,H0,Gz,G,j,R,q⟩=>a9k (by lia) (uW (dF f.1 f.2 f.3 f.4) F) D.run m B s U H Q I (by
 unfold c4B at j;split at j
 .rename_i P b E;let⟨a,M,d,T,S,y,Y,N,K,J,A,h3,h4,C,r2,r3⟩:=R.ro E;refine#[.ref a,K,a,_,M,_,.ref d,rfl,J,B0.cl,B0.n1,rfl,d,rfl,.inl #[y,.inl A],bE R j q.x λk u G1 H1 w R1 z L=>?_];let⟨v,g,rfl⟩:=bS L;unfold c0W at g;split at g;.rename_i o t;cases(qA g);rw[pT t]at z;cases pL z;have c:=C.mono w.gg;exact#[_,.inl #[y,o,.inl<|w.hh.keep d _ A (by nofun),rfl,rfl],q _ _ _ w<|a9G c.keys c.vals .none]
  .cases g
 .cases j)]
def c1o i(z:X.calm=Qc)(B0:BCls X.K)(v:X.mg "sorted"=Qb)(e:U0 X i x:=by exact U1)(A:U8 X (.Name x p) "sheets":=by rfl)(y:Gl X "sorted":=by rfl)(k:j4 [.Attribute (.Name x p) "sheets" p2] X.env=(Qd,eval (.Attribute (.Name x p) "sheets" p2) X.env)::j4 [] X.env:=by rfl)(g:U6 X pos []:=by rfl):DE X (.Call (.Name "sorted" p3) [.Attribute (.Name x p) "sheets" p2] [] pos) (c2V i):=#[λB s U H Q I⟨Z,r,H0,Gz,G,f,R,q⟩=>uX (a8q z) y v boot_sorted (dR (uW (dF e.1 e.2 e.3 e.4) A) gE k) (by decide) (by decide) k g B s U H Q I (by
 unfold c2V at f;split at f
 .rename_i L b w;let⟨a,J,d,N,M,o,Y,K,F,D,C,S,P,t,r2,r3⟩:=R.ro w;let⟨T,c,rfl⟩:=bS f;unfold b2s at c;dsimp only at c;split at c
  .rename_i u E;split at c;.rename_i j;cases(qA c);refine#[.ref a,F,a,_,J,_,.ref d,rfl,D,B0.cl,B0.n1,rfl,d,o,u,rfl,.inl C,a6B<|t.keys.symm.trans<|b3z E,j,λl j=>q _ _ _ (.put R.sub j)<|.list (.of aK)<|nV _]
   .cases c
  .cases c
 .cases f)]
def b8U u d b a:(bFs d b a).lookup (fNm u)=Qa (.ref<|if u then a else b):=by cases u<;>rfl
def BCls.nl{K:qB}(B0:BCls K) u:rV K (iW K) (fNm u):=by cases u;exact B0.n2;exact B0.n3
def c2n{K:qB}(u:Bool)(c:H l1=Qa (.lst Y))(a:H l2=Qa (.lst ys))(r2:RepAll K G Y b.dn)(r3:RepAll K G ys b.un):∃zs,H (if u then l2 else l1)=Qa (.lst zs)/\RepAll K G zs (b.ls u):=by
 cases u;.exact#[Y,c,r2]
 .exact#[ys,a,r3]
end
noncomputable def BS.setLs(u:Bool)(b:BS)(l:T0l):BS:=if u then{b with un:=l}else{b with dn:=l}
noncomputable def xcS(m:Mm q8)(Z:List Ent)(β:Sto)(k:q8->Option (So×Sto)):Option (So×Sto):=match m with|some (.ok d)=>k d|some (.ex c)=>Qa (.xc c Z,β)|none=>Qb
def c2F{m:Mm q8}{a:Sto}{k:q8->Option (So×Sto)}{r:So×Sto}(h:xcS m Z a k=Qa r):(∃d,m=Qa (.ok d)/\k d=Qa r)\/∃c,m=Qa (.ex c)/\r=(.xc c Z,a):=by match m,h with|some (.ok d),h=>exact .inl #[d,rfl,h]|some (.ex c),h=>exact .inr #[c,rfl,(qA h).symm]|none,h=>cases h
def b8X(u:Bool)(i:Nat)(fa:EF):OSF:=λZ β=>match Z[i]? with|some (.adr a)=>(match gC β a with|some b=>xcS (fa<|vw β Z) Z β λd=>if bN (b.ls u).length&&lB Z then Qa (.nx Z,nR β a<|b.setLs u<|b.ls u++[d])else Qb|none=>Qb)|_=>Qb
def b8G(i:Nat):OSF:=λZ β=>match Z[i]? with|some (.adr a)=>(match gC β a with|some b=>if lB Z then Qa (.nx Z,nR β a {b with un:=[]})else Qb|none=>Qb)|_=>Qb
def a9f(i:Nat)(fk fv:EF):OSF:=λZ β=>match Z[i]? with|some (.adr a)=>(match gC β a with|some b=>xcS (fv<|vw β Z) Z β λd=>xcS (fk<|vw β Z) Z β λk=>(match uG k with|some k=>if bN b.sh.length&&lB Z then Qa (.nx Z,nR β a {b with sh:=a2B b.sh k d})else Qb|none=>Qb)|none=>Qb)|_=>Qb
def a9g(i:Nat)(fk:EF):OSF:=λZ β=>match Z[i]? with|some (.adr a)=>(match gC β a with|some b=>xcS (fk<|vw β Z) Z β λk=>(match uG k with|some k=>if(dO k<|bD b).isSome&&lB Z then Qa (.nx Z,nR β a {b with sh:=a0o b.sh k})else Qb|none=>Qb)|none=>Qb)|_=>Qb
section
variable{K:qB}{β:Sto}
theorem bM.adr{i:Nat}(R:bM K H0 Gz G H U Z β)(h:Z[i]?=Qa (.adr a)):U[i]?=Qa (Qa<|.ref a):=by let⟨b,S,R⟩:=R;let⟨o,e,z⟩:=R.at h;rw[e];exact congrArg Qa z
def bM.ob(R:bM K H0 Gz G H U Z β)(e:gC β a=Qa b):∃dx d l1 l2 vs Y ys,H a=Qa (.ins (iW K) dx<|bFs d l1 l2)/\H d=Qa (.dK vs)/\H l1=Qa (.lst Y)/\H l2=Qa (.lst ys)/\fE K G vs b.sh/\RepAll K G Y b.dn/\RepAll K G ys b.un:=by let⟨k,S,R⟩:=R;let⟨o,_,dx,d,l1,l2,vs,Y,ys,_,_,j,_,i,g,f,c,r2,r3⟩:=a7n S.each e;exact#[dx,d,l1,l2,vs,Y,ys,j,i,g,f,c,r2,r3]
theorem bM.ls(u:Bool)(R:bM K H0 Gz G H U Z β)(f:gC β a=Qa b):∃dx d l1 l2 zs,H a=Qa (.ins (iW K) dx<|bFs d l1 l2)/\H (if u then l2 else l1)=Qa (.lst zs)/\RepAll K G zs (b.ls u):=by let⟨dx,d,l1,l2,o,Y,k,j,q,i,g,p,r2,r3⟩:=R.ob f;let⟨zs,e,c⟩:=c2n u i g r2 r3;exact#[dx,d,l1,l2,zs,j,e,c]
def bM.wrLs(u:Bool)(R:bM K H0 Gz G H U Z β)(E:lB Z=Qc)(F:gC β a=Qa b):∃dx d l1 l2 zs,H a=Qa (.ins (iW K) dx<|bFs d l1 l2)/\H (if u then l2 else l1)=Qa (.lst zs)/\RepAll K G zs (b.ls u)/\∀c l,RepAll K G c l->bM K H0 Gz G (upd H (if u then l2 else l1)<|.lst c) U Z (nR β a<|b.setLs u l):=by
 have sub:=R.sub;let⟨J,I,y,k⟩:=R.chg E F;let⟨dx,d,l1,l2,q,Y,A,rfl,n,i,p,j,g,f,s,r2,r3⟩:=I;let⟨zs,D,C⟩:=c2n u g f r2 r3;refine#[dx,d,l1,l2,zs,i,D,C,λc l r=>?_];have w:(if u then l2 else l1)∈[a,dx,d,l1,l2]:=by cases u<;>simp
 refine k G _ _ [a,dx,d,l1,l2] ?_ (λx t=>#[gG t,y x t]) (a3n (λx o e=>?_) λx o nx e=>?_)
 .have o:∀x,x≠(if u then l2 else l1)->∀v,H x=Qa v->upd H (if u then l2 else l1) (.lst c) x=Qa v:=λx nx v e=>by rwa[aF nx]
  cases u with|false=>exact#[dx,d,l1,l2,q,c,A,rfl,n,o a (dI i g<|by nofun) _ i,o dx (dI p g<|by nofun) _ p,o d (dI j g<|by nofun) _ j,aK,o l2 (jL n) _ f,s,r,r3]|true=>exact#[dx,d,l1,l2,q,Y,c,rfl,n,o a (dI i f<|by nofun) _ i,o dx (dI p f<|by nofun) _ p,o d (dI j f<|by nofun) _ j,o l1 n _ g,aK,s,r2,r]
 .rw[aF<|λz=>by rw[z,y _ w]at e;cases e];exact sub x o e
 .rwa[aF<|λz=>nx<|by rw[z];exact w]
def bM.wrSh(R:bM K H0 Gz G H U Z β)(A:lB Z=Qc)(C:gC β a=Qa b):∃dx d l1 l2 vs,H a=Qa (.ins (iW K) dx<|bFs d l1 l2)/\H d=Qa (.dK vs)/\fE K G vs b.sh/\∀c f,fE K G c f->bM K H0 Gz G (upd H d<|.dK c) U Z (nR β a {b with sh:=f}):=by
 have sub:=R.sub;let⟨E,D,q,k⟩:=R.chg A C;let⟨dx,d,l1,l2,vs,Y,u,rfl,n,i,t,g,s,r,y,r2,r3⟩:=D;refine#[dx,d,l1,l2,vs,i,g,y,λc f w=>?_];have p:d∈[a,dx,d,l1,l2]:=by simp
 refine k G _ _ [a,dx,d,l1,l2] ?_ (λx j=>#[gG j,q x j]) (a3n (λx o e=>?_) λx o nx e=>?_)
 .have o:∀x,x≠d->∀v,H x=Qa v->upd H d (.dK c) x=Qa v:=λx nx v e=>by rwa[aF nx]
  exact#[dx,d,l1,l2,c,Y,u,rfl,n,o a (dI i g<|by nofun) _ i,o dx (dI t g<|by nofun) _ t,aK,o l1 (dI s g<|by nofun) _ s,o l2 (dI r g<|by nofun) _ r,w,r2,r3]
 .rw[aF<|λz=>by rw[z,q _ p]at e;cases e];exact sub x o e
 .rwa[aF<|λz=>nx<|by rw[z];exact p]
def bM.wrUn(R:bM K H0 Gz G H U Z β)(y:lB Z=Qc)(A:gC β a=Qa b){l:Addr}(c:H l=Qb):∃dx d l1 l2,H a=Qa (.ins (iW K) dx<|bFs d l1 l2)/\bM K H0 Gz G (upd (upd H l<|.lst []) a<|.ins (iW K) dx<|bFs d l1 l) U Z (nR β a {b with un:=[]}):=by
 have sub:=R.sub;let⟨F,C,q,k⟩:=R.chg y A;let⟨dx,d,l1,l2,t,Y,D,rfl,n,f,s,r,i,E,u,r2,r3⟩:=C;refine#[dx,d,l1,l2,f,?_];have g:=aP f c;have p:a∈[a,dx,d,l1,l2]:=by simp
 have o:∀x,x≠a->∀v,H x=Qa v->upd (upd H l<|.lst []) a (.ins (iW K) dx<|bFs d l1 l) x=Qa v:=λx nx v e=>by rwa[aF nx,aF<|aP e c]
 refine k G _ _ [a,dx,d,l1,l] ?_ (λx j=>?_) (a3n (λx o e=>?_) λx o nx e=>?_);.exact#[dx,d,l1,l,t,Y,[],rfl,aP i c,aK,o dx (jL<|dI f s<|by nofun) _ s,o d (jL<|dI f r<|by nofun) _ r,o l1 (jL<|dI f i<|by nofun) _ i,by rw[aF<|jL g,aK],u,r2,.nil]
 .by_cases z:x=l
  .subst z;refine#[?_,sub.free c];by_cases w:x∈[a,dx,d,l1,l2];.exact gG w
   .rwa[cY w]
  .have:x∈[a,dx,d,l1,l2]:=by simp only[qI,jB,or_false]at j⊢;obtain rfl|rfl|rfl|rfl|rfl:=j<;>simp_all
   exact#[gG this,q x this]
 .rw[aF (λz=>by rw[z,q _ p]at e;cases e),aF<|aP (sub x o e) c];exact sub x o e
 .rwa[aF (λz=>nx<|by rw[z];exact p),aF<|aP e c]
end
section
variable{x:Str}
def vE{o:So}{k:q8->Option (So×Sto)}{T:VK}(S:StoOk X.K H0 G H β fps)(R:RepS X.K (plus H0 H fps.flatten) Gz G H U Z)(e:xcS (fa<|vw β Z) Z β k=Qa (o,β'))(q:uA X H0 Gz G D β' o)(h:∀x v G1 H1,Grow G H G1 H1->Rep X.K G1 v x->k x=Qa (o,β')->T v H1):rE X fa U H T:=by
 obtain⟨x,b,a⟩|⟨c,b,a⟩:=c2F e;.exact#[_,_,_,Gz,G,b,RepS.view S R,λv G1 H1 i f=>h x v G1 H1 i f a]
 .cases a;exact#[_,_,_,Gz,G,b,RepS.view S R,λB d U r s e p j g x=>q B d U r s e p (.of S R.grow.gg j.unview g) g x]
def a7T{e d d' c b:Addr}(h:H a=Qa (.ins C dx<|bFs d l1 l2))(h':H a=Qa (.ins C e<|bFs d' c b)):dx=e/\d=d'/\l1=c/\l2=b:=by rw[h]at h';injection h' with h';injection h' with _ e1 e2;injection e2 with e2 e3;injection e3 with e3 e4;injection e4 with e4 _;injection e2 with _ e2;injection e3 with _ e3;injection e4 with _ e4;injection e2 with e2;injection e3 with e3;injection e4 with e4;exact#[e1,e2,e3,e4]
def c0d u i(B0:BCls X.K)(h:DE X e fa)(w:U0 X i x:=by exact U1)(hb:v2 (.Name x p) (fNm u) X.env (eval (.Name x p) X.env)=eval (.Name x p) X.env:=by rfl)(g:v2 (.Attribute (.Name x p) (fNm u) p2) "append" X.env (eval (.Attribute (.Name x p) (fNm u) p2) X.env)=eval (.Attribute (.Name x p) (fNm u) p2) X.env:=by rfl)(t:U4 X cp (e::[]):=by rfl)(f:(ap.endLine==cp.line)=true:=by rfl)(r:U5 X e []:=by rfl)(c:U6 X cp []:=by rfl)(C:wa (.Call (.Attribute (.Attribute (.Name x p) (fNm u) p2) "append" ap) [e] [] cp) Qb pos.line X.env=pure false:=by rfl):OS X (.Expr (.Call (.Attribute (.Attribute (.Name x p) (fNm u) p2) "append" ap) [e] [] cp) pos) (b8X u i fa):=#[λB s U H D I⟨Z,P,o,N,H0,Gz,G,j,R,q⟩=>xW (b2I vH PySem.F.slot_list_append PySem.F.type_list_append a1N (uW (dF w.1 w.2 w.3 w.4) hb) (dR h.run gE r) g t f r c) C B s U H D I (by
  unfold b8X at j;split at j
  .rename_i a hi;have ea:=R.adr hi;split at j
   .rename_i b K;let⟨dx,d0,l1,l2,Q,L,hz,rz⟩:=R.ls u K;let⟨fps,S,R⟩:=R;refine#[.ref a,ea,a,_,dx,_,_,rfl,L,B0.cl,B0.nl u,b8U u d0 l1 l2,.inl #[rfl,Q,.of hz],vE S R j q λd v M H1 y T J=>?_];split at J;.rename_i E;rw[qD]at E;cases(qA J);have R1:bM X.K H0 Gz M H1 U Z P:=.of S R.grow.gg (R.more y) y.gg;let⟨dx',d0',l1',l2',z,F,A,k,wr⟩:=R1.wrLs u E.2 K;let⟨rfl,rfl,rfl,rfl⟩:=a7T (y.hh.keep a _ L<|by nofun) F;exact#[_,z,v,rfl,rfl,A,by rw[k.length];exact b5P E.1,q M _ U y.gg<|wr _ _<|k.append<|.cons T .nil]
    .cases J
   .cases j
  .cases j)]
def b9G d a b l:nF "undone" (.ref l) (bFs d a b)=bFs d a l:=by unfold bFs;simp only[nF];rw[if_neg (by decide),if_neg (by decide),if_pos trivial]
def c0c i(B0:BCls X.K)(d:U0 X i x:=by exact U1)(k:wa (.List [] p3) (Qa<|.Attribute (.Name x p) "undone" p2) pos.line X.env=pure false:=by rfl):OS X (.Assign [.Attribute (.Name x p) "undone" p2] (.List [] p3) pos) (b8G i):=#[λB s U H D I⟨Z,A,o,f,C,E,G,c,R,q⟩=>a4c (dF d.1 d.2 d.3 d.4) (a0k gE) k B s U H D I (by
  unfold b8G at c;split at c
  .rename_i a r;have w:=R.adr r;split at c
   .rename_i b t;split at c;.rename_i u;cases(qA c);refine#[jJ _,λl e=>?_];let⟨y,z,j,g,v,wr⟩:=R.wrUn u t e;exact#[.ref a,w,a,_,y,bFs z j g,rfl,by rwa[aF<|aP v e],B0.cl,B0.n3,by show 3<1000;decide,q G _ U (.refl _)<|by rwa[b9G]]
    .cases c
   .cases c
  .cases c)]
def c0b i(B0:BCls X.K)(hu:X.A.units+64<cLine)(A:DE X e fv)(hk:DE X kx fk)(t:U0 X i x:=by exact U1)(hb:U8 X (.Name x p) "sheets":=by rfl)(hs:wa e (Qa<|.Subscript (.Attribute (.Name x p) "sheets" p2) kx p3) pos.line X.env=pure false:=by rfl):OS X (.Assign [.Subscript (.Attribute (.Name x p) "sheets" p2) kx p3] e pos) (a9f i fk fv):=#[λB s U H D I⟨Z,K,o,β',H0,Gz,G,c,R,q⟩=>b9L (by lia) (uW (dF t.1 t.2 t.3 t.4) hb) hk.run A.run hs B s U H D I (by
  unfold a9f at c;split at c
  .rename_i a hi;have ea:=R.adr hi;split at c
   .rename_i b M;let⟨fps,S,R⟩:=R;refine vE S R c q λd v G1 H1 w rv e1=>?_;have f:bM X.K H0 Gz G1 H1 U Z K:=.of S R.grow.gg (R.more w) w.gg;let⟨dx,Q,l1,l2,vs,Y,ys,N,h3,h4,h5,r1,r2,r3⟩:=f.ob M;let⟨P,T,f⟩:=f;refine#[.ref a,ea,a,_,dx,_,.ref Q,rfl,N,B0.cl,B0.n1,rfl,vE T f e1 (q.mono w.gg) λk u G2 H2 j L r=>?_];split at r
    .rename_i z C;split at r;.rename_i E;rw[qD]at E;cases(qA r);rw[pT C]at L;cases pL L;have R2:bM X.K H0 Gz G2 H2 U Z K:=.of T f.grow.gg (f.more j) j.gg;let⟨dx',d0',l1',l2',y,J,F,g,wr⟩:=R2.wrSh E.2 M;let⟨rfl,rfl,rfl,rfl⟩:=a7T (j.hh.keep a _ N<|by nofun) J;exact#[Q,_,rfl,.inl #[y,z,F,rfl,by rw[g.len];exact b5P E.1,rfl],q G2 _ U (w.gg.trans j.gg)<|wr _ _<|g.put<|rv.mono j.gg]
     .cases r
    .cases r
   .cases c
  .cases c)]
def b6E i(B0:BCls X.K)(hk:DE X kx fk)(j:U0 X i x:=by exact U1)(hb:U8 X (.Name x p) "sheets":=by rfl)(m:M1 X (.Attribute (.Name x p) "sheets" p2) "pop" ap kx cp:=by exact#[rfl,rfl,rfl,rfl])(t:wa (.Call (.Attribute (.Attribute (.Name x p) "sheets" p2) "pop" ap) [kx] [] cp) Qb pos.line X.env=pure false:=by rfl):OS X (.Expr (.Call (.Attribute (.Attribute (.Name x p) "sheets" p2) "pop" ap) [kx] [] cp) pos) (a9g i fk):=#[λB s U H D I⟨Z,M,o,L,H0,Gz,G,d,R,q⟩=>xW (b6z (uW (dF j.1 j.2 j.3 j.4) hb) hk.run m) t B s U H D I (by
  unfold a9g at d;split at d
  .rename_i a hi;have ea:=R.adr hi;split at d
   .rename_i b E;let⟨dx,J,l1,l2,N,Y,ys,F,h3,h4,h5,r1,r2,r3⟩:=R.ob E;let⟨fps,S,R⟩:=R;refine#[.ref a,ea,a,_,dx,_,.ref J,rfl,F,B0.cl,B0.n1,rfl,J,rfl,.inl #[N,.inl h3],vE S R d q λk u K H2 r C g=>?_];split at g
    .rename_i f w;split at g
     .rename_i y;rw[qD]at y;cases(qA g);rw[pT w]at C;cases pL C;have R2:bM X.K H0 Gz K H2 U Z M:=.of S R.grow.gg (R.more r) r.gg;let⟨dx',d0',Q,P,e,A,z,c,wr⟩:=R2.wrSh y.2 E;let⟨rfl,rfl,rfl,rfl⟩:=a7T (r.hh.keep a _ F<|by nofun) A;have T:(uC e f).isSome=true:=by rw[a1P c.keys c.vals];exact y.1
      let⟨v,ev⟩:=vD.mp T;exact#[e,f,v,z,rfl,ev,q K _ U r.gg<|wr _ _ c.drop]
     .cases g
    .cases g
   .cases d
  .cases d)]
end
noncomputable def hJ(m:Nat)(es:List Ent):List Ent:=es++qx (m-es.length) .no
theorem a7w{F:α->β->Prop}:∀{l:List α}{m:List β}{i:Nat}{b:β},Paired F l m->m[i]?=Qa b->∃a,l[i]?=Qa a/\F a b|_,_,_,_,.nil,e=>by simp at e|_,_,0,_,.cons r _,e=>by simp at e;subst e;exact#[_,rfl,r]|_,_,i+1,b,.cons _ t,e=>by let⟨u,d,c⟩:=a7w (i:=i) (b:=b) t (by simpa using e);exact#[u,by simpa using d,c]
theorem b2E{F:α->β->Prop}:∀{l:List α}{m:List β},Paired F l m->l.length=m.length|_,_,.nil=>rfl|_,_,.cons _ t=>by simp[b2E t]
def a1A{K:qB}{es:List Ent}(s:aW G H/\oZ K G H)(r:Paired (λv e=>a5k K H G H (Qa v) e/\a4A e=Qd) vs es):RepS K H G G H (start N vs) (hJ N.length es):=by
 have g:=b2E r;refine#[.refl s.1,by simp[start,hJ,g],λi o e b a=>?_,Inj.free (λi e a=>?_),s.2]
 .unfold hJ at a;unfold start at b;by_cases d:i<es.length;.rw[qt d]at a;rw[qt (by simp;lia),qS]at b;let⟨v,f,c⟩:=a7w r a;rw[f]at b;cases b;exact c.1
  .rw[jS (by omega),jv]at a;split at a;.cases a;trivial
   .cases a
 .unfold hJ at a;by_cases d:i<es.length;.rw[qt d]at a;let⟨v,f,c⟩:=a7w r a;exact c.2
  .rw[jS (by omega),jv]at a;split at a;.cases a;rfl
   .cases a
theorem pN{K:qB}{G H:Hp}:∀{vs:List V}{O:T0l},RepAll K G vs O->Paired (λv e=>a5k K H G H (Qa v) e/\a4A e=Qd) vs (O.map .val)|_,_,.nil=>.nil|_,_,.cons r t=>.cons #[#[_,rfl,r],rfl] (pN t)
def a3X(m n:Nat)(f:SF)(b:BS)(O:T0l):Mm q8:=if O.length=n then(match f (hJ m (.ro Qb b::O.map .val))with|some (.rt d)=>Qa (.ok d)|some (.nx _)=>Qa (.ok .none)|some (.xc c _)=>Qa (.ex c)|_=>Qb)else Qb
noncomputable def spR(K:qB)(F:BS->List q8->Mm q8):Sp:=λvs H Q E=>∃G a b fp ws O r,vs=.ref a::ws/\(aW G H/\oZ K G H)/\BOk K G H a b fp/\RepAll K G ws O/\F b O=Qa r/\c6O K G H Q E r
noncomputable def sF(a:Addr):Option (So×Sto)->Option (Re q8×BS)|some (.rt d,[p])=>if p.1=a then Qa (.ok d,p.2)else Qb|some (.nx _,[p])=>if p.1=a then Qa (.ok .none,p.2)else Qb|some (.xc c _,[p])=>if p.1=a then Qa (.ex c,p.2)else Qb|_=>Qb
open Classical in noncomputable def a0g(m n:Nat)(f:OSF)(b:BS)(O:T0l):Option (Re q8×BS):=if O.length=n then(if h:∃p,∀a,sF a (f (hJ m (.adr a::O.map .val)) [(a,b)])=some p then some h.choose else none)else none
variable{f:OSF}
def fU{m n:Nat}{p:Re q8×BS}(d:O.length=n)(h:∀a,sF a (f (hJ m (.adr a::O.map .val)) [(a,b)])=Qa p):a0g m n f b O=Qa p:=by have c:∃p,∀a,sF a (f (hJ m (.adr a::O.map .val)) [(a,b)])=Qa p:=#[p,h];unfold a0g;rw[if_pos d,dif_pos c];have:=(c.choose_spec 0).symm.trans<|h 0;rw[qA this]
def a3e{m n:Nat}{p:Re q8×BS}(h:a0g m n f b O=Qa p):O.length=n/\∀a,sF a (f (hJ m (.adr a::O.map .val)) [(a,b)])=Qa p:=by
 unfold a0g at h;split at h
 .rename_i c;split at h;.rename_i d;cases(qA h);exact#[c,d.choose_spec]
  .cases h
 .cases h
def c6N(K:qB)(G H0:Hp)(a:Addr)(b':BS)(Q:VK)(E:XK):Re q8->Prop|.ok d=>∀v G' H',aW G G'->pU K H0 G G' H' [(a,b')]->Rep K G' v d->Q v H'|.ex c=>∀C G' H',fJ K c=Qa C->aW G G'->pU K H0 G G' H' [(a,b')]->E (.ref C) Qb H'
def spO(K:qB)(F:BS->List q8->Option (Re q8×BS)):Sp:=λvs H Q E=>∃G a b fp ws O r b',vs=.ref a::ws/\(aW G H/\oZ K G H)/\BOk K G H a b fp/\(∀x∈fp,G x=Qb)/\RepAll K G ws O/\F b O=Qa (r,b')/\c6N K G (less H fp) a b' Q E r
def a1S{F:T0o}:plus (less H F) H F=H:=by
 funext x;by_cases h:x∈F;.rw[dG h]
 .rw[bL h,cY h]
variable{E:XK}
section
variable{K:qB}{x:Str}
def a0Q{X:Cx}{outer:List Env}{fa:Addr}{d:Shared}{j:Value}{c:Str}(I:Inv (fcX P w K mg base N qual scope fa cdv A outer s H E) B U H' d)(k:b3A (fcX P w K mg base N qual scope fa cdv A outer s H E) c j H' d)(r:∀C,fJ K c=Qa C->E (.ref C) Qb H'):(fcX P w K mg base N qual scope fa cdv A outer s H E).xe j d:=by
 let⟨a,C,u,t,p⟩:=k;subst u;refine a0P (X:=fcX P w K mg base N qual scope fa cdv A outer s H E) (fr:=λb=>s.heap.get? b=Qb) I.ok.frames rfl rfl I (p.mono λb g=>?_) (λb g=>?_) λy D un f e q=>?_
 .obtain z|z:=g.1;.cases z
  .exact z
 .cases z:s.heap.get? b with|none=>rfl|some o=>let⟨v,i⟩:=I.base.there b o z (by intro w;cases w);rw[g]at i;cases i
 .exact#[a,C,H',rfl,r C t,I.os,I.bare,a0y I rfl un f,e,q]
def a3o{f:SF}{fa:Addr} m n(Fu:Fun K x qual st fa fd)(S:FnScope N ps (aD st))(hm:N.length=m)(hn:ps.length=n+1)(o:∀ cdv A i s H E,Room k (A.deeper<|wx qual (aD st) s.heap.objs.size fa cdv)->DB (fcX P w K mg base N qual (aD st) fa cdv A i s H E) (bU st) f):FnOk P w K mg base (CX1 P w) (k+1) fa fd ps (spR K<|a3X m n f):=by
 let⟨oc,od,kV,doc,pm,an,cdv,ct,osl,rfl,lk,J⟩:=Fu.ex;refine a4I lk J S ?_ ?_
 .rintro vs H Q E⟨G,a,b,fp,ws,O,r,M,s,L,p,j,_⟩;unfold a3X at j;split at j;.rename_i hl;rw[M,qO,p.length,hl,hn]
  .cases j
 .rintro A i s H vs Q E F⟨G,a,b,fp,ws,O,r,M,sm,L,p,j,q⟩;subst M;have R:RepS K H G G H (start N (.ref a::ws)) (hJ N.length (.ro Qb b::O.map .val)):=a1A sm<|.cons #[#[a,fp,rfl,(λ_ z=>nomatch z),L,λx hx z=>by let⟨u,T,_⟩:=L.there x hx;rw[z]at T;cases T],rfl] (pN p);unfold a3X at j;split at j
  .rw[<-hm]at j;split at j;.rename_i d e;cases(qA j);exact#[_,(o cdv A i s H E F).run,_,_,H,G,G,e,R,λv y t _ g p=>q v y t g p]
   .rename_i D e;cases(qA j);exact#[_,(o cdv A i s H E F).run,_,_,H,G,G,e,R,λy t σ' _ R'=>q .non y t R'.grow .none]
   .rename_i c D e;cases(qA j);exact#[_,(o cdv A i s H E F).run,_,_,H,G,G,e,R,λB s' U t y e' I R _ xx=>a0Q (X:=fcX P w K mg base N qual (aD st) fa cdv A i s H E) I xx λC hC=>q C y t hC R.grow]
   .cases j
  .cases j
def pQ{fa:Addr} m n(Fu:Fun K x qual st fa fd)(S:FnScope N ps (aD st))(hm:N.length=m)(hn:ps.length=n+1)(o:∀ cdv A i s H E,Room k (A.deeper<|wx qual (aD st) s.heap.objs.size fa cdv)->OB (fcX P w K mg base N qual (aD st) fa cdv A i s H E) (bU st) f):FnOk P w K mg base (CX1 P w) (k+1) fa fd ps (spO K<|a0g m n f):=by
 let⟨oc,od,kV,doc,pm,an,cdv,ct,osl,rfl,lk,T⟩:=Fu.ex;refine a4I lk T S ?_ ?_;.rintro vs H Q E⟨G,a,b,t,J,O,r,b',ev,s,hb,hG,u,j,_⟩;rw[ev,qO,u.length,(a3e j).1,hn]
 .rintro A i s H vs Q E M⟨G,a,b,t,J,O,r,b',ev,sm,hb,hG,u,j,q⟩;subst ev;have R0:RepS K H G G H (start N (.ref a::J)) (hJ N.length (.adr a::O.map .val)):=a1A sm<|.cons #[rfl,rfl] (pN u);have R:bM K (less H t) G G H (start N (.ref a::J)) (hJ N.length (.adr a::O.map .val)) [(a,b)]:=#[[t],#[.cons hb .nil,by rw[qe,kC,ja];exact hb.nd,λx L=>by rw[qe,kC,ja]at L;exact#[gG L,hG x L]],by rwa[qe,kC,ja,a1S]];have j:=(a3e j).2 a;rw[<-hm]at j;unfold sF at j;split at j
  .rename_i d p e;split at j;.rename_i y;cases(qA j);refine#[_,(o cdv A i s H E M).run,_,_,_,_,less H t,G,G,e,R,λv D z s g u=>q v D z s ?_ u];rwa[<-y]
   .cases j
  .rename_i F p e;split at j;.rename_i y;cases(qA j);refine#[_,(o cdv A i s H E M).run,_,_,_,_,less H t,G,G,e,R,λD z σ' s R'=>q .non D z s ?_ .none];rw[<-y];exact R'.grow
   .cases j
  .rename_i c F p e;split at j;.rename_i y;cases(qA j);refine#[_,(o cdv A i s H E M).run,_,_,_,_,less H t,G,G,e,R,λB s' U z D e' I R g xx=>a0Q (X:=fcX P w K mg base N qual (aD st) fa cdv A i s H E) I xx λC hC=>q C D z hC g ?_];rw[<-y];exact R.grow
   .cases j
  .cases j
end
structure MDef(K:qB)(m:Str)(st:Stmt):Prop where ex:∃f fd,Fun K m ("Binder."++m) st f fd/\Meth K (iW K) m f
structure MethX(P:Program)(w:World)(K:qB)(mg:T0d)(base:Heap)(m:Str)(k:Nat)(ps:T0q)(sp:Sp):Prop where ex:∃f fd,Meth K (iW K) m f/\Binds K fd ps []/\FnOk P w K mg base (CX1 P w) k f fd ps sp
structure FunX(P:Program)(w:World)(K:qB)(mg:T0d)(base:Heap)(x:Str)(k:Nat)(ps:T0q)(sp:Sp):Prop where ex:∃f fd,mg x=Qa (.ref f)/\jQ K (.ref f)=Qc/\Binds K fd ps []/\FnOk P w K mg base (CX1 P w) k f fd ps sp
variable{Q:VK}
section
variable{x m:Str}
def xV{f:Addr}(F:FnOk X.prog X.w X.K X.mg X.base (CX1 X.prog X.w) k f fd ps sp)(p:Room k X.A)(i:Binds X.K fd ps [])(I:Inv X B U H s)(r:bJ vs us)(h:sp vs H Q E)(hx:∀a C H' s',E (.ref C) Qb H'->Inv X B U H' s'->ExcAt (tZ X) H' a C s'.heap->X.xe (.ref a) s'):wpAny (model X.prog X.w) X.A (call (.ref f) us) (EP X B U Q) X.xe s:=by
 have q:us.length=ps.length:=by rw[<-r.length];exact F.len _ _ _ _ h
 refine yh (wf (F.run X.A X.stack s H #[us,[]] us vs Q E p I.env0 (by simpa using i s us I.kIn (by simpa using q)) r h) λe s' c=>?_);cases e with|error D=>let⟨w,A,y,rfl,t,o,d,un,g,j⟩:=c;exact hx w A y s' t (I.call' (ch:=[]) o un g d<|λb z=>nomatch z) (j.mono λb i=>tK I i)|ok v=>cases v with|ret u=>exact I.after c|next=>exact qy c|brk=>exact qy c|cont=>exact qy c
def a9z{pl:Sem Bool}{sp:Sp}{t:TA}(B0:BCls X.K)(M:MethX X.prog X.w X.K X.mg X.base m k ps sp)(hr:Room k X.A)(he:PE X o ta)(ha:PA X (e::es) t)(I:Inv X B U H s)(hx:∀a C H' s',E (.ref C) Qb H'->Inv X B U H' s'->ExcAt (tZ X) H' a C s'.heap->X.xe (.ref a) s')(h:ta U H λx H1=>∃a dx d l1 l2,x=.ref a/\H1 a=Qa (.ins (iW X.K) dx<|bFs d l1 l2)/\(bFs d l1 l2).lookup m=Qb/\t U H1 λvs H2=>sp (.ref a::vs) H2 Q E)(hst:U5 X e es)(hpl:U6 X pos es)(ht:eval (.Call (.Attribute o m ap) (e::es) [] pos) X.env=(do
   let ov<-eval o X.env
   QI ap.atName let(f,first)<-holding [ov] (ug ov m pl)callWith pos f first (j9 pos<|j4 (e::es) X.env) (wu pos<|wc [] X.env))):wpAny (model X.prog X.w) X.A (eval (.Call (.Attribute o m ap) (e::es) [] pos) X.env) (EP X B U Q) X.xe s:=by let⟨f,fd,hm,hb,F⟩:=M.ex;refine PySem.W.methodCall_KW (pl:=pl) (thn (he B s U H _ I h) ?_) ht;rintro u s1⟨x,H1,I1,rx,a,dx,d,l1,l2,ex,ea,l,q⟩;subst ex;obtain rfl:u=jC a:=rx;refine a4F I1 ea B0.cl hm l ?_;exact jf (first:=[.ref a]) (h₀:=X.base) I.ok.mod.kin hm.kp (thn (ha pos B s1 U H1 _ I1 q)<|by rintro us s2⟨vs,H2,I2,r,q2⟩;exact#[I2.kIn,xV (us:=.ref a::us) (vs:=.ref a::vs) F hr hb I2 (.cons rfl r) q2 hx]) hst hpl
def b4z{pl:Sem Bool}{sp:Sp}(B0:BCls X.K)(M:MethX X.prog X.w X.K X.mg X.base m k ps sp)(hr:Room k X.A)(he:PE X o ta)(I:Inv X B U H s)(hx:∀a C H' s',E (.ref C) Qb H'->Inv X B U H' s'->ExcAt (tZ X) H' a C s'.heap->X.xe (.ref a) s')(h:ta U H λx H1=>∃a dx d l1 l2,x=.ref a/\H1 a=Qa (.ins (iW X.K) dx<|bFs d l1 l2)/\(bFs d l1 l2).lookup m=Qb/\sp [.ref a] H1 Q E)(ht:eval (.Call (.Attribute o m ap) [] [] pos) X.env=(do
   let ov<-eval o X.env
   QI ap.atName let(f,first)<-holding [ov] (ug ov m pl)callWith pos f first (j9 pos<|j4 [] X.env) (wu pos<|wc [] X.env))):wpAny (model X.prog X.w) X.A (eval (.Call (.Attribute o m ap) [] [] pos) X.env) (EP X B U Q) X.xe s:=by let⟨f,fd,hm,hb,F⟩:=M.ex;refine PySem.W.methodCall_KW (pl:=pl) (thn (he B s U H _ I h) ?_) ht;rintro u s1⟨x,H1,I1,rx,a,dx,d,l1,l2,ex,ea,l,q⟩;subst ex;obtain rfl:u=jC a:=rx;exact a4F I1 ea B0.cl hm l<|PySem.W.callWith_K0 (first:=[.ref a]) I1.kIn hm.kp<|xV (us:=[.ref a]) (vs:=[.ref a]) F hr hb I1 (.cons rfl .nil) q hx
end
def iF(F:BS->List q8->Mm q8)(i:Nat)(fa:AF):EF:=λZ=>match Z[i]? with|some (.ro _ b)=>bnd (fa Z) (F b)|_=>Qb
section
variable{x m:Str}{FR:BS->List q8->Mm q8}{FO:BS->List q8->Option (Re q8×BS)}{fa:AF}
def RepS.roB{K:qB}(R:RepS K H0 Gz G H U Z)(h:Z[i]?=Qa (.ro oa b)):∃a fp,U[i]?=Qa (Qa<|.ref a)/\BOk K G H a b fp:=by let⟨o,e,a,fp,rfl,_,r,_⟩:=R.at h;exact#[a,fp,e,r]
def b0I{K:qB}(g:Grow G H G1 H1)(i:oZ K G1 H1)(j:BOk K G H a b fp)(e:RepAll K G1 vs O)(k:FR b O=Qa r)(q:∀d,r=.ok d->∀v G' H',Grow G H G' H'->Rep K G' v d->Q v H'):spR K FR (.ref a::vs) H1 Q (λs _ H'=>∃G' C c,s=.ref C/\r=.ex c/\fJ K c=Qa C/\Grow G H G' H'):=by refine#[G1,a,b,fp,vs,O,r,rfl,#[g.sub,i],j.keep (λx o _ z n=>g.hh.keep x o z n) g.gg,e,k,?_];cases r with|ok d=>exactλv G' H' f e=>q d rfl v G' H' (g.trans f) e|ex c=>exactλC G' H' p f=>#[G',C,c,rfl,rfl,p,g.trans f]
def oX i{pl:Sem Bool}(B0:BCls X.K)(M:MethX X.prog X.w X.K X.mg X.base m k ps (spR X.K FR))(P:Room k X.A)(ha:DA X (e::es) fa)(t:U0 X i x:=by exact U1)(S:∀d l1 l2,(bFs d l1 l2).lookup m=none:=by intros;rfl)(y:U5 X e es:=by rfl)(z:U6 X pos es:=by rfl)(N:eval (.Call (.Attribute (.Name x p) m ap) (e::es) [] pos) X.env=(do
   let ov<-eval (.Name x p) X.env
   QI ap.atName let(f,first)<-holding [ov] (ug ov m pl)callWith pos f first (j9 pos<|j4 (e::es) X.env) (wu pos<|wc [] X.env)):=by rfl):DE X (.Call (.Attribute (.Name x p) m ap) (e::es) [] pos) (iF FR i fa):=#[by
 rintro B s U H Q I⟨Z,r,H0,Gz,G,u,R,q⟩;unfold iF at u;split at u;.rename_i oa b T;let⟨a,fp,ea,F⟩:=R.roB T;let⟨dx,d,l1,l2,K,Y,ys,_,_,h1,_⟩:=id F;refine a9z (E:=λcv _ j=>∃o C c,cv=.ref C/\r=.ex c/\fJ X.K c=Qa C/\Grow G H o j) B0 M P (dF t.1 t.2 t.3 t.4) ha.run I (?_) #[.ref a,ea,a,dx,d,l1,l2,rfl,h1,S d l1 l2,bA R u q.x λO K G1 H1 g1 R1 w D=>b0I g1 R1.tab F w D λd A v o j g' w=>by subst A;exact q v o j g' w] y z N;rintro a2 C j L⟨o,C',c,D,A,hC,g⟩I' J;cases D;subst A;exact q B L U j o _ I' (R.more g) g.gg #[a2,C,rfl,hC,.inl J]
 .cases u]
def b5a i{pl:Sem Bool}(B0:BCls X.K)(M:MethX X.prog X.w X.K X.mg X.base m k ps (spR X.K FR))(F:Room k X.A)(o:U0 X i x:=by exact U1)(J:∀d l1 l2,(bFs d l1 l2).lookup m=none:=by intros;rfl)(D:eval (.Call (.Attribute (.Name x p) m ap) [] [] pos) X.env=(do
   let ov<-eval (.Name x p) X.env
   QI ap.atName let(f,first)<-holding [ov] (ug ov m pl)callWith pos f first (j9 pos<|j4 [] X.env) (wu pos<|wc [] X.env)):=by rfl):DE X (.Call (.Attribute (.Name x p) m ap) [] [] pos) (iF FR i aG):=#[by
 rintro B s U H Q I⟨Z,r,H0,Gz,G,t,R,q⟩;unfold iF at t;split at t;.rename_i oa b K;let⟨a,fp,S,w⟩:=R.roB K;let⟨dx,d,l1,l2,vs,Y,ys,_,_,N,_⟩:=id w;refine b4z (E:=λcv _ e=>∃j C c,cv=.ref C/\r=.ex c/\fJ X.K c=Qa C/\Grow G H j e) B0 M F (dF o.1 o.2 o.3 o.4) I (?_) #[.ref a,S,a,dx,d,l1,l2,rfl,N,J d l1 l2,b0I (.refl R.sub) R.tab w .nil t λd u v j e P A=>by subst u;exact q v j e P A] D;rintro a2 C e z⟨j,C',c,T,u,L,g⟩I' y;cases T;subst u;exact q B z U e j _ I' (R.more g) g.gg #[a2,C,rfl,L,.inl y]
 .cases t]
def b0e i(C:FunX X.prog X.w X.K X.mg X.base y k ps (spR X.K FR))(S:Room k X.A)(ha:DA X es fa)(w:U0 X i x:=by exact U1)(hg:Gl X y:=by rfl)(E:U2 y:=by decide)(K:j4 (.Name x p::es) X.env=(Qd,eval (.Name x p) X.env)::j4 es X.env:=by rfl)(D:U6 X pos es:=by rfl):DE X (.Call (.Name y ap) (.Name x p::es) [] pos) (iF FR i fa):=#[by
 rintro B s U H Q I⟨Z,r,H0,Gz,G,z,R,q⟩;unfold iF at z;split at z
 .rename_i oa b hi;let⟨a,fp,ea,hb⟩:=R.roB hi;let⟨f,fd,T,P,bd,Fk⟩:=C.ex;refine v1 (gT I hg T ?_ E);have hA:=dR (dF (X:=X) (pos:=p) w.1 w.2 w.3 w.4) ha.run K pos B s U H (λu J=>∃A,u=.ref a::A/\spR X.K FR (.ref a::A) J Q (λcv _ o=>∃t C c,cv=.ref C/\r=.ex c/\fJ X.K c=Qa C/\Grow G H t o)) I
   #[.ref a,ea,bA R z q.x λO u G1 J g1 R1 e j=>#[u,rfl,b0I g1 R1.tab hb e j λd F v t o g' e=>by subst F;exact q v t o g' e]];refine jf (h₀:=X.base) I.ok.mod.kin P (thn hA ?_) K D;rintro us s1⟨u,J,L,e,A,j,sp⟩;refine#[L.kIn,?_];subst j;refine xV Fk S bd L e sp ?_;rintro a2 C o N⟨t,C',c,j,F,hC,g⟩I' M;cases j;subst F;exact q B N U o t _ I' (R.more g) g.gg #[a2,C,rfl,hC,.inl M]
 .cases z]
def gA(F:BS->List q8->Option (Re q8×BS))(i:Nat)(fa:AF):OEF:=λZ β=>match Z[i]? with|some (.adr a)=>(match gC β a with|some b=>(match fa (vw β Z)with|some (.ok O)=>if lB Z then(F b O).map λp=>(p.1,nR β a p.2)else Qb|some (.ex c)=>Qa (.ex c,β)|none=>Qb)|none=>Qb)|_=>Qb
def b2g{K:qB}{e:Sto}(R:bM K H0 Gz G H U Z e)(i:lB Z=Qc)(j:gC e a=Qa b):∃fp,BOk K G H a b fp/\(∀x∈fp,G x=Qb)/\∀G' H' b',pU K (less H fp) G G' H' [(a,b')]->bM K H0 Gz G' H' U Z (nR e a b'):=by let⟨fp,o,p,k⟩:=R.chg i j;refine#[fp,o,p,?_];rintro G' H' b'⟨f,q,g⟩;let⟨d,_,c⟩:=q;cases d with|cons r t=>cases t;rw[qe,kC,ja]at g c;exact k G' H' b' _ r c g
def c2W{K:qB}{e:Sto}{i:Hp}(j:aW i G)(R:bM K H0 Gz G H U Z e)(o:lB Z=Qc)(p:gC e a=Qa b)(f:RepAll K G vs O)(w:FO b O=Qa (r,b'))(q:∀d,r=.ok d->∀v G' H',aW G G'->bM K H0 Gz G' H' U Z (nR e a b')->Rep K G' v d->Q v H'):spO K FO (.ref a::vs) H Q (λA _ H'=>∃G' C c,A=.ref C/\r=.ex c/\fJ K c=Qa C/\aW i G'/\bM K H0 Gz G' H' U Z (nR e a b')):=by let⟨z,t,u,k⟩:=b2g R o p;refine#[G,a,b,z,vs,O,r,b',rfl,#[R.sub,R.tab],t,u,f,w,?_];cases r with|ok d=>exactλv G' H' s g f=>q d rfl v G' H' s (k G' H' b' g) f|ex c=>exactλC G' H' y s g=>#[G',C,c,rfl,rfl,y,j.trans s,k G' H' b' g]
def a4m{f:Sto}{i:Nat}{T:List V->Hp->Prop}(R:bM X.K H0 Gz G H U Z f)(D:gC f a=Qa b)(j:(match fa (vw f Z)with|some (.ok O)=>if lB Z then(FO b O).map λp=>(p.1,nR f a p.2)else Qb|some (.ex c)=>Qa (.ex c,f)|none=>Qb)=Qa (r,β'))(q:a5l X H0 Gz G Z β' U Q r)(h:∀vs H1 G1,aW G G1->bM X.K H0 Gz G1 H1 U Z f->spO X.K FO (.ref a::vs) H1 Q (λI _ H'=>∃G' C c,I=.ref C/\r=.ex c/\fJ X.K c=Qa C/\aW G G'/\bM X.K H0 Gz G' H' U Z β')->T vs H1):rA X fa U H T:=by
 let⟨E,S,R⟩:=R;split at j
 .rename_i O t;split at j;.rename_i A;let⟨⟨K,L⟩,F,z⟩:=qK.mp j;cases z;refine#[_,_,_,Gz,G,t,RepS.view S R,λvs G1 H1 k o=>?_];have w:bM X.K H0 Gz G1 H1 U Z f:=.of S R.grow.gg (R.more k) k.gg;exact h vs H1 G1 k.gg w (c2W k.gg w A D o F λd e v G' H' s u o=>by subst e;exact q v G' H' (k.gg.trans s) u o)
  .cases j
 .rename_i c t;cases(qA j);exact#[_,_,_,Gz,G,t,RepS.view S R,λB y U H' G' e J u g x=>q B y U H' G' e J (.of S R.grow.gg u.unview g) g x]
 .cases j
def gQ i{pl:Sem Bool}(B0:BCls X.K)(M:MethX X.prog X.w X.K X.mg X.base m k ps (spO X.K FO))(J:Room k X.A)(N:DA X (e::es) fa)(o:U0 X i x:=by exact U1)(K:∀d l1 l2,(bFs d l1 l2).lookup m=none:=by intros;rfl)(v:U5 X e es:=by rfl)(w:U6 X pos es:=by rfl)(F:eval (.Call (.Attribute (.Name x p) m ap) (e::es) [] pos) X.env=(do
   let ov<-eval (.Name x p) X.env
   QI ap.atName let(f,first)<-holding [ov] (ug ov m pl)callWith pos f first (j9 pos<|j4 (e::es) X.env) (wu pos<|wc [] X.env)):=by rfl):OE X (.Call (.Attribute (.Name x p) m ap) (e::es) [] pos) (gA FO i fa):=#[by
 rintro B s U H Q I⟨Z,β,r,u,H0,Gz,G,j,R,q⟩;unfold gA at j;split at j
 .rename_i a L;split at j;.rename_i b z;have T:=R.adr L;let⟨dx,d,l1,l2,_,_,_,S,_⟩:=R.ob z;refine a9z (E:=λcv _ y=>∃t C c,cv=.ref C/\r=.ex c/\fJ X.K c=Qa C/\aW G t/\bM X.K H0 Gz t y U Z u) B0 M J (dF o.1 o.2 o.3 o.4) N.run I (?_) #[.ref a,T,a,dx,d,l1,l2,rfl,S,K d l1 l2,a4m (i:=i) R z j q λvs H1 G1 _ _ sp=>sp] v w F;rintro a2 C y D⟨t,C',c,e1,e2,P,g,R'⟩I' A;cases e1;subst e2;exact q B D U y t _ I' R' g #[a2,C,rfl,P,.inl A]
  .cases j
 .cases j]
def b6L i(C:FunX X.prog X.w X.K X.mg X.base y k ps (spO X.K FO))(P:Room k X.A)(ha:DA X es fa)(j:U0 X i x:=by exact U1)(hg:Gl X y:=by rfl)(z:U2 y:=by decide)(F:j4 (.Name x p::es) X.env=(Qd,eval (.Name x p) X.env)::j4 es X.env:=by rfl)(v:U6 X pos es:=by rfl):OE X (.Call (.Name y ap) (.Name x p::es) [] pos) (gA FO i fa):=#[by
 rintro B s U H Q I⟨Z,β,r,t,H0,Gz,G,d,R,q⟩;unfold gA at d;split at d
 .rename_i a T;split at d
  .rename_i b w;have ea:=R.adr T;let⟨f,fd,S,N,bd,Fk⟩:=C.ex;refine v1 (gT I hg S ?_ z);have hA:=dR (dF (X:=X) (pos:=p) j.1 j.2 j.3 j.4) ha.run F pos B s U H (λe D=>∃u,e=.ref a::u/\spO X.K FO (.ref a::u) D Q (λcv _ E=>∃o C c,cv=.ref C/\r=.ex c/\fJ X.K c=Qa C/\aW G o/\bM X.K H0 Gz o E U Z t)) I
    #[.ref a,ea,a4m (i:=i) R w d q λe D G1 _ _ sp=>#[e,rfl,sp]];refine jf (h₀:=X.base) I.ok.mod.kin N (thn hA ?_) F v;rintro us s1⟨e,D,J,M,u,A,sp⟩;refine#[J.kIn,?_];subst A;refine xV Fk P bd J M sp ?_;rintro a2 C E L⟨o,C',c,A,e2,hC,g,R'⟩I' K;cases A;subst e2;exact q B L U E o _ I' R' g #[a2,C,rfl,hC,.inl K]
  .cases d
 .cases d]
end
structure RelOk(K:qB)(Rel:Hp->Hp->Prop):Prop where
 sub:∀{G H:_},Rel G H->aW G H/\oZ K G H
 step:∀{G H G' H':_},Rel G H->Grow G H G' H'->Rel G' H'
noncomputable def QvR(K:qB)(Rel:Hp->Hp->Prop)(r:Re q8):VK:=λv H'=>∃G' d,r=.ok d/\Rel G' H'/\Rep K G' v d
def QxR(K:qB)(Rel:Hp->Hp->Prop)(r:Re q8):XK:=λcv _ H'=>∃G' C c,cv=.ref C/\r=.ex c/\fJ K c=Qa C/\Rel G' H'
variable{L:List Str}{Rel:Hp->Hp->Prop}{p5 p6 p7 p8 hpos:Pos}
def b0B(S:RelOk X.K Rel){fl D:Addr}{dn n R:Str}{F:Str->Mm q8}(I:Inv X [] U H s)(hN:X.N.Nodup)(hst:X.stack=X.env::X.outer)(hf:X.env.frame=Qa X.env.locals)(hD:fJ X.K R=Qa D)(hXD:XCls X.K D)(hcs:∀c∈L,∃C,fJ X.K c=Qa C/\XCls X.K C/\kr X.K (.ref C) (.ref D)=Qa Qc)(K0:ClsOk X.prog X.w X.K X.mg X.base y k F)(hr:∀e,RoomN k<|X.A.mark e)(j:pH L F r=Qa d)(hi:X.N[0]?=Qa dn)(Q:X.N[1]?=Qa n)(hσ:U[0]?=Qa (Qa<|.ref fl))(hfn:∀s',Inv X [] U H s'->wL fl s'.heap)(run:∀s',Inv X [] U H s'->wm (model X.prog X.w) X.A (.call (.ref fl) #[[],[]]) (CR (CX1 X.prog X.w) X.stack X.prog X.w H s' (QvR X.K Rel r)<|QxR X.K Rel r) s')(hk0:X.env.scope.names.lookup dn=Qa .local)(P:X.env.scope.names.lookup n=Qa .local)(hg:Gl X R)(hgy:Gl X y)(K:U2 dn)(M:U3 dn)(hdb:U2 R)(hnd:U2 n)(E:U3 n)(hdy:U2 y)(he:j4 [.Name n p6] X.env=(Qd,eval (.Name n p6) X.env)::j4 [] X.env)(hpl:U6 X p7 []):wpAny (model X.prog X.w) X.A (exec (.Try [.Return (Qa<|.Call (.Name dn p1) [] [] p2) p3] [.ExceptHandler (Qa<|.Name R np) (Qa n) [.Return (Qa<|.Call (.Name y p5) [.Name n p6] [] p7) p8] hpos] [] [] pos) X.env)
   (SP X [] {nx:=λ_ _=>False,rt:=λv H'=>∃G',Rel G' H'/\Rep X.K G' v d}) X.xe s:=by
 refine wpAny_Try_except ?_;refine wg<|uo (v0 (b4Z (X:=X) I hi hσ (.inl hk0) K M hfn run) (λu f⟨v,H',w,rv,q⟩=>?_) λe f⟨a,C,H',e1,⟨G',C',c,e2,e3,hC,g⟩,w,xa⟩=>?_);.let⟨G',d',rfl,g,rp⟩:=q;cases j;exact#[v,U,H',w,rv,G',g,rp]
 .subst e1;cases e2;subst e3;unfold pH at j;dsimp only at j;split at j
  .rename_i hc;split at j
   .rename_i dd hF;cases j;let⟨C'',N,hXC,A⟩:=hcs c (by simpa using hc);rw[hC]at N;cases N;have T:pV X (λb=>tZ X b/\∀p∈([]:T0b),p.1≠b) H' a C f.heap:=.inl (xa.mono λb hb=>#[hb,λp hp=>nomatch hp]);have nw:∀b,f.heap.get? b=Qb->tZ X b/\∀p∈([]:T0b),p.1≠b:=λb hb=>#[tK w hb,λp hp=>nomatch hp];refine a4j (X:=X) w.ok.frames hst hf w T nw λh1 ch1 c1 x1=>?_;have I2:=Inv.chg w c1;refine b1B (X:=X) (s:={f with heap:=h1}) c1.hok x1 λh2 ch2 c2 x2=>?_;have I3:=Inv.chg (s:={f with heap:=h1}) I2 c2;let⟨_,_,oe,vs,xo,_⟩:=(show ExcAt _ H' a C h2 from .inr x2).ob;have hm:=kR I.mod.kin I.mod.glob<|a8d hD;refine wpAny_handleBy_cons (codeAny_handlers_test<|gT (X:=Cx.suite X a) (a6G I3 a) hg hm (b5w hXC hXD I3.kIn xo A ?_) hdb) (by intro z;cases z);refine codeAny_handlers_suite_as ?_;refine b1B (X:=X) (s:={f with heap:=h2}) c2.hok x2 λh3 ch3 c3 x3=>?_;have I4:=Inv.chg (s:={f with heap:=h2}) I3 c3;let⟨fa,na,t,vs3,o,hv3⟩:=(show ExcAt _ H' a C h3 from .inr x3).ob;have I5:Inv X [] U (upd H' a<|xcO a C) {f with heap:=h3}:=Inv.track I4 fa na #[t,vs3,o.at_,hv3] #[#[t,o],#[t,o.at_],by rintro g1 g2⟨o1,y⟩k;exact#[o1,k _ y.at_,y.cls]];have J:1<U.length:=by rw[I5.len];exact(qW.mp Q).1
    refine uS (i:=1) (v:=.ref a) I5 hN Q (.inl P) rfl (λs4 I6=>?_)<|.inr P;have g6:Rel G' (upd H' a<|xcO a C):=S.step g<|Grow.side (S.sub g).1 na;have sm6:=S.sub g6;have run:=b8F (X:=Cx.suite X a) (p:=p5) (p2:=p6) (pos:=p7) (e:=Qb) (G:=G') K0 (hr _) (a6G I6 a) Q (by rw[kN J]) (.inl P) hnd E sm6 hC aK hF hgy hdy he hpl;refine wg<|uo (v0 run (?_) λ_ _ z=>qy z);rintro u s5⟨v,H5,I7,rv,G5,g5,rp⟩;have I8:=a9M I7 I.ok;exact name_goes I8 hN Q P λs6 I9=>#[v,_,H5,I9,rv,G5,S.step g6 g5,rp]
   .cases j
  .cases j
section
variable{K:qB}{x:Str}{F:Str->Mm q8}
structure DeedOkR(P:Program)(w:World)(K:qB)(mg:T0d)(base:Heap)(k:Nat)(s:Shared)(H:Hp)(Rel:Hp->Hp->Prop)(r:Re q8)(fl:Addr):Prop where
 fn:∀(s':Shared) fs,Un fs [] H H s.heap s'.heap->wL fl s'.heap
 run:∀ A outer s' fs,Room k A->Env0 P w K mg base A outer s' H->Un fs [] H H s.heap s'.heap->wm (model P w) A (.call (.ref fl) #[[],[]]) (CR (CX1 P w) outer P w H s' (QvR K Rel r) (QxR K Rel r)) s'
structure ToldOkR(P:Program)(w:World)(K:qB)(mg:T0d)(base:Heap)(x:Str)(L:T0q)(F:Str->Mm q8):Prop where ex:∃f,mg x=Qa (.ref f)/\jQ K (.ref f)=Qc/\∀ k A outer s H Rel r d fl,Room (k+2) A->Env0 P w K mg base A outer s H->RelOk K Rel->DeedOkR P w K mg base k s H Rel r fl->pH L F r=Qa d->wm (model P w) A (.call (.ref f) #[[.ref fl],[]]) (CR CX0 outer P w H s (λv H'=>∃G',Rel G' H'/\Rep K G' v d) E0) s
def b3H{dn n:Str}{Dc:Addr}(D:Def K mg x st)(S:FnScope [dn,n] [dn] (aD st))(hD:fJ K "SheetError"=Qa Dc)(hXD:XCls K Dc)(hcs:∀c∈L,∃C,fJ K c=Qa C/\XCls K C/\kr K (.ref C) (.ref Dc)=Qa Qc)(K0:ClsOk P w K mg base y 1 F)(hB:bU st=[.Try [.Return (Qa<|.Call (.Name dn p1) [] [] p2) p3] [.ExceptHandler (Qa<|.Name "SheetError" np) (Qa n) [.Return (Qa<|.Call (.Name y p5) [.Name n p6] [] p7) p8] hpos] [] [] pos])(hb:∀ kV doc pm(an:T0k) cdv ct(us:T0m),us.length=[dn].length->ye (jY x x (fV st) (bU st) (aD st) .none kV doc pm an cdv ct) #[us,[]]=pure ([dn].zip us))(hk0:(aD st).names.lookup dn=Qa .local)(hk:(aD st).names.lookup n=Qa .local)(hg:(aD st).names.lookup ("SheetError":Str)=Qa .globalImplicit)(hgy:(aD st).names.lookup y=Qa .globalImplicit)(t:U2 dn)(E:U3 dn)(hnd:U2 n)(p:U3 n)(hdy:U2 y):ToldOkR P w K mg base x L F:=by
 let⟨N,fd,Fu,hmg⟩:=D.ex;refine#[N,hmg,Fu.kp,λk A a s H Rel r d fl T G RO Dd ht=>?_];have bd:=Fu.binds hb;let⟨oc,od,kV,doc,pm,an,cdv,ct,osl,rfl,lk,hcd⟩:=Fu.ex;have KX:=G.mod.kin.keeps λb o e=>(G.bs b o e).1;have R:=G.mod.nolimit.keeps λb o e=>(G.bs b o e).1;have g:∀z∈[dn].zip [jC fl],(aD st).names.lookup z.1=Qa .local\/((aD st).names.lookup z.1=Qa .cell/\((v4 (s.heap.objs.size+1) (aD st).names []).lookup z.1).isSome=Qc):=by
  rintro ⟨n,v⟩hy;obtain q|q:=S.par n (zj hy).1;.exact .inl q
  .exact .inr #[q,zL _ _ _<|.inl q]
 refine yx T.depth (KX _ _ lk) rfl S.co S.gen rfl (vv KX hcd)<|bd s [.ref fl] KX rfl _ _ _ _ ?_;refine yj S.kind g λenv he s1 xx=>?_;subst he;refine#[R.keeps xx.toInCall.keep,codeAny_func ?_];have I:Inv (a2i CX0 P w K mg base [dn,n] x (aD st) N cdv A a s H E0) [] (start [dn,n] [.ref fl]) H s1:=a1W S T.hd G rfl (.cons rfl .nil) xx;rw[hB];have j:Room (k+1) (A.deeper<|wx x (aD st) s.heap.objs.size N cdv):=T.deeper _;have i:=b0B (X:=a2i CX0 P w K mg base [dn,n] x (aD st) N cdv A a s H E0) (p1:=p1) (p2:=p2) (p3:=p3) (np:=np) (p5:=p5) (p6:=p6) (p7:=p7) (p8:=p8) (hpos:=hpos) (pos:=pos) RO I S.nd rfl rfl hD hXD hcs K0 (λe=>Room.n (j.mono (by lia):Room 1 _) e) ht rfl rfl rfl (λM Q=>Dd.fn M _ Q.base)
  (λM Q=>Dd.run _ _ M _ (j.mono<|by lia) Q.env0 Q.base) hk0 hk hg hgy t E (by decide) hnd p hdy rfl rfl;refine wg (v0 i (λf M q=>?_) λ_ _ z=>z);cases f with|next=>let⟨_,_,_,z⟩:=q;exact z.elim|brk=>let⟨_,_,_,z⟩:=q;exact z.elim|cont=>let⟨_,_,_,z⟩:=q;exact z.elim|ret u=>let⟨v,σ',H',J,rv,q⟩:=q;exact#[v,H',J.os,J.bare,J.base,J.hok,rv,q]
end
variable{c:Addr}{body:Expr}{fe:OEF}
section
variable{K:qB}
def b4Y{f:Addr}{cl:T0f}{outer:List Env}{t:Sto}{o:Obj}(hr:Room (k+1) A)(e0:Env0 P w K mg base A outer s H)(ho:s.heap.get? f=Qa o)(L:o.data=.func (zU "<lambda>" qual params body scope cl pm (.ref c) ct))(hcd:s.heap.CodeRec (.ref c) qual)(hk:scope.kind=.function)(S:scope.isCoroutine=Qd)(Q:scope.isGenerator=Qd)(j:∀x∈scope.names,x.2≠.cell)(p:ye (zU "<lambda>" qual params body scope cl pm (.ref c) ct) #[[],[]]=pure [])(g:OE (cxL P w K mg base N (a2Z qual scope s.heap.objs.size f (.ref c) cl) A outer s H<|QxR K Rel r) body fe)(C:Caps cl scope N U H s.heap)(R:bM K H0 G G H U Z t)(hf:fe Z t=Qa (r,β'))(hR:∀G' H',aW G G'->pU K H0 G G' H' β'->Rel G' H'):wm (model P w) A (.call (.ref f) #[[],[]]) (CR (CX1 P w) outer P w H s (QvR K Rel r)<|QxR K Rel r) s:=by
 have y:=e0.mod.nolimit.keeps λb o e=>(e0.bs b o e).1;refine PySem.W.kla_callFunE hr.depth ho L S Q rfl hcd ?_;rw[p];refine j3<|wpAny_newFunctionEnv j (by simp) (λh1 M D=>?_) hk;have kp:∀b o,s.heap.get? b=Qa o->h1.get? b=Qa o:=λb o e=>D.extBut b o (qd<|qQ e)<|qC _ e;refine#[y.keeps kp,PySem.W.kla_codeExpr ?_];have I:Inv (cxL P w K mg base N (a2Z qual scope s.heap.objs.size f (.ref c) cl) A outer s H<|QxR K Rel r) [] U H {s with heap:=h1,toks:=s.toks+([]:T0g).length}:=b3a hk j hr.hd e0 C #[_,M] kp;refine v0 (g.run [] _ U H (QvR K Rel r) I #[Z,t,r,β',H0,G,G,hf,R,?_]) (λu' s' E=>?_) λe s' E=>E;.cases r with|ok d=>exactλv G' H' s R' u=>#[G',d,rfl,hR G' H' s R'.grow,u]|ex c'=>
   rintro B s' σ' H' G' e' i R' sg⟨a,C',e1,hE,xa⟩;subst e1;refine a0P (X:=cxL P w K mg base N (a2Z qual scope s.heap.objs.size f (.ref c) cl) A outer s H<|QxR K Rel<|.ex c') (fr:=λb=>s.heap.get? b=Qb) i.ok.frames rfl rfl i (xa.mono λb p=>?_) (λb p=>?_) λh' ch un T F x'=>?_
   .obtain z|z:=p.1;.cases z
    .exact z
   .cases z:s.heap.get? b with|none=>rfl|some o=>let⟨o',z'⟩:=i.base.there b o z (by intro w;cases w);rw[p]at z';cases z'
   .exact#[a,C',H',rfl,#[G',C',c',rfl,rfl,hE,hR G' H' sg R'.grow],i.os,i.bare,a0y i rfl un T,F,x']
 .let⟨v',H',J,u,q⟩:=E;exact#[v',H',J.os,J.bare,J.base,J.hok,u,q]
end
def bM.whole{K:qB}{i:Sto}(R:bM K H0 Gz G H U Z i)(j:lB Z=Qc) cap:∃F:List Addr,bM K (less H F) G G H (iH cap U) (cF cap Z) i/\∀G' H' β',pU K (less H F) G G' H' β'->bM K H0 Gz G' H' U Z β':=by
 let⟨b,S,R⟩:=R;refine#[b.flatten,#[b,#[S.each,S.nd,λx c=>#[gG c,(S.out x c).2]],by rw[a1S];exact R.cap cap],?_];rintro G' H' β'⟨a,d,g⟩;have p:=RepS.back (fp:=b.flatten) (fp':=a.flatten) R j S.kind (λx c=>by rw[dG c];let⟨o,e,_⟩:=S.kind x c;rw[e];simp) (λx c=>#[d.kind x c,d.out x c]) g;refine#[a,#[d.each,d.nd,λx c=>#[?_,(d.out x c).2]],?_]
 .by_cases h:x∈b.flatten;.exact(S.out x h).1
  .have c:=(d.out x c).1;rw[cY h]at c;have:=R.grow.hh.free c;rwa[bL h]at this
 .have k:plus (less (plus H0 H b.flatten) b.flatten) H' a.flatten=plus H0 H' a.flatten:=by
   funext x;by_cases f:x∈a.flatten;.rw[dG f,dG f]
   .rw[bL f,bL f];by_cases h:x∈b.flatten;.rw[gG h,(S.out x h).1]
    .rw[cY h,bL h]
  rwa[<-k]
def a2z(L:T0q)(F:Str->Mm q8)(cap:T0e)(fe:OEF):OEF:=λZ β=>if lB Z then(match fe (cF cap Z) β with|some (r,β')=>(pH L F r).map λd=>(.ok d,β')|none=>Qb)else Qb
def a3i{x:Str}{F:Str->Mm q8}{c T:Addr}{cap:T0e}(T0:ToldOkR X.prog X.w X.K X.mg X.base x L F)(hx:q∈eZ)(ht:jk X.K q=Qa (c,T))(t:X.env.code=.ref c)(o:X.env.qual++"<lambda>"=lamQ q)(C:kO X.K c T=Qc)(M:BM X.mg X.base)(hr:Room (k+3) X.A)(B0:Blk X scope N' cap)(hnc:∀y∈scope.names,y.2≠.cell)(w:∀ f c cl(A:Around)(a:List Env) s H E,Room k (A.deeper<|a2Z (lamQ q) scope s.heap.objs.size f (.ref c) cl)->OE (cxL X.prog X.w X.K X.mg X.base N' (a2Z (lamQ q) scope s.heap.objs.size f (.ref c) cl) A a s H E) body fe)(D:∀ pm ct c(cl:T0f),ye (zU "<lambda>" (lamQ q) params body scope cl pm (.ref c) ct) #[[],[]]=pure []:=by intros;rfl)(hco:scope.isCoroutine=false:=by rfl)(hge:scope.isGenerator=false:=by rfl)(K:defaultsOf params X.env=([],[]):=by rfl)(he:j4 [.Lambda params body scope lp] X.env=(Qd,eval (.Lambda params body scope lp) X.env)::j4 [] X.env:=by rfl)(hpl:U6 X pos []:=by rfl)(hg:Gl X x:=by rfl)(hdb:U2 x:=by decide):OE X (.Call (.Name x p) [.Lambda params body scope lp] [] pos) (a2z L F cap fe):=#[by
 rintro B s U H Q I⟨Z,β,r0,j,H0,Gz,G,e,R,qq⟩;unfold a2z at e;split at e
 .rename_i hn;split at e
  .rename_i r β' er;let⟨d,ed,z⟩:=qK.mp e;cases z;let⟨f,hm,kp,run⟩:=T0.ex;refine v1 (gT I hg hm ?_ hdb);refine jf (h₀:=X.base) I.ok.mod.kin kp ?_ he hpl;rw[he];let⟨fps,S,R0⟩:=id R;refine ky (a9I hx ht t o C M K (gY λp hp hk=>I.ok.has p.1<|.inl<|B0.free p hp hk) I R0 λN c' ct pm H2 s2 P g2 fo Hf sf hc'=>?_);refine zE #[P.kIn,?_];have R2:=R.more g2;let⟨F,Ri,back⟩:=R2.whole hn cap;have RL:RelOk X.K (λb i=>aW G b/\bM X.K H0 Gz b i U Z j):=#[λh=>#[h.2.sub,h.2.tab],λh g=>#[h.1.trans g.gg,h.2.more g]];have dd:DeedOkR X.prog X.w X.K X.mg X.base (k+1) s2 H2 (λb i=>aW G b/\bM X.K H0 Gz b i U Z j) r N:=by
    refine#[λs' fs un=>?_,λA a s' fs J e0 un=>?_];.let⟨sl,z⟩:=un.any fo Hf (by simp);exact#[_,_,_,_,z]
    .let⟨sl,z⟩:=un.any fo Hf (by simp);exact b4Y J e0 z rfl (e0.hok c' _ hc').1 B0.kind hco hge hnc (D pm ct c' _) (w _ _ _ _ _ _ _ _<|J.deeper _) ((b3w B0 P).more un) Ri er λb i s g=>#[s,back b i j g]
   refine yh (wf (run (k+1) X.A X.stack s2 H2 _ r d N hr P.env0 RL dd ed) λres s' o=>?_);cases res with|error e2=>exact o.elim|ok N=>cases N with|ret u=>let⟨v,i,I',rv,b,⟨sg,g'⟩,rp⟩:=P.after o;exact#[v,i,I',rv,qq v b i sg g' rp]|next=>exact qy o|brk=>exact qy o|cont=>exact qy o
  .cases e
 .cases e]
end L2.L3
namespace L2.L3
open PySem PySem.Spec PyProof.Rows
def b8n i j{x:Str}{a:Expr}{fa:AF}{pt:Pos}{k k2 f:_}(E:X.calm=Qc)(J:X.N.Nodup)(t:i≠j)(F:DA X [a,b] fa)(hi:X.N[i]?=Qa x:=by rfl)(C:X.N[j]?=Qa y:=by rfl)(hx:X.env.scope.names.lookup x=Qa .local:=by rfl)(w:X.env.scope.names.lookup y=Qa .local:=by rfl)(z:swappedStores [.Tuple [.Name x px,.Name y py] k pt] (.Tuple [a,b] k2 f) X.env=pure (Qa [x,y]):=by rfl)(A:swapsWithSole [.Tuple [.Name x px,.Name y py] k pt] (.Tuple [a,b] k2 f) pos.line X.env=pure false:=by rfl):DS X (.Assign [.Tuple [.Name x px,.Name y py] k pt] (.Tuple [a,b] k2 f) pos) (a7e (.tp [i,j])<|iR fa):=#[by
 rintro B s U H D I⟨Z,o,S,T,G,e,R,q⟩;refine b6n E J hi C t hx w F.run z A B s U H D I ?_;have K:bns (fa Z) Z (λY=>bns (lft<|a2G Y) Z λd=>(tgD (.tp [i,j]) Z d).map So.nx)=Qa o:=by rw[<-e];unfold a7e iR;cases h:fa Z with|none=>rfl|some r=>cases r<;>rfl
 refine sA R K q λO P N M Q L g c v=>?_;unfold a2G at c;split at c
 .have c:(if[i,j].length=O.length then Qa (lS Z [i,j] O)else Qb).map So.nx=Qa o:=c;split at c;.rename_i p;cases c;cases g with|nil=>cases p|cons u g=>cases g with|nil=>cases p|cons r2 g=>cases g with|nil=>exact#[_,_,rfl,v N M _ (.refl _)<|(L.set u).set r2]|cons _ _=>simp at p
  .cases c
 .cases c]
end L2.L3
namespace L2.L3
open PySem PySem.Spec PySem.Calls PyProof.Rows
noncomputable def yK:BS:=#[[],[],[]]
def spI(K:qB):Sp:=λvs H Q _=>∃x dx,vs=[.ref x]/\H x=Qa (.ins (iW K) dx [])/\∀d l1 l2 H6,H d=Qb->H l1=Qb->H l2=Qb->l1≠l2->H6 x=Qa (.ins (iW K) dx<|bFs d l1 l2)->H6 d=Qa (.dK [])->H6 l1=Qa (.lst [])->H6 l2=Qa (.lst [])->(∀y o,y≠x->H y=Qa o->H6 y=Qa o)->Q .non H6
noncomputable def bF1(d:Addr):List (Str×V):=[("sheets",.ref d)]
noncomputable def bF2(d l1:Addr):List (Str×V):=[("sheets",.ref d),("done",.ref l1)]
def c3q d:nF "sheets" (.ref d) []=bF1 d:=rfl
def c3p d a:nF "done" (.ref a) (bF1 d)=bF2 d a:=by unfold bF1 bF2;simp only[nF];rw[if_neg<|by decide]
def c3o d b a:nF "undone" (.ref a) (bF2 d b)=bFs d b a:=by unfold bFs bF2;simp only[nF];rw[if_neg (by decide),if_neg<|by decide]
variable{fa:Addr}{a1 a2 a3 a4 b1 b2 b3 b4 c1 c2 c3 c4:Pos}
section
variable{K:qB}
def b7u(B0:BCls K)(Fu:Fun K "__init__" "Binder.__init__" st fa fd)(S:FnScope ["self"] ["self"] (aD st))(T:(aD st).names.lookup ("self":Str)=Qa .local)(X:bU st=[.Assign [.Attribute (.Name "self" a1) "sheets" a2] (.Dict [] [] a3) a4,.Assign [.Attribute (.Name "self" b1) "done" b2] (.List [] b3) b4,.Assign [.Attribute (.Name "self" c1) "undone" c2] (.List [] c3) c4]):FnOk P w K mg base CX0 (k+1) fa fd ["self"] (spI K):=by
 refine Fu.ok S (λN H Q E⟨x,D,e,_⟩=>by rw[e];rfl)<|?_;rintro J A f s H N Q E hr⟨x,D,e,R,q⟩;subst e;rw[X];have c:Vis (a2i CX0 P w K mg base ["self"] "Binder.__init__" (aD st) fa J A f s H E).nox.env.scope "self":=.inl T;refine#[_,sC (a4c (dF (i:=0) rfl c) b6A rfl)<|sC (a4c (dF (i:=0) rfl c) (a0k gE) rfl)<|a3g<|a4c (dF (i:=0) rfl c) (a0k gE) rfl,?_];intro d G;have a:=aP R G;refine#[.ref x,rfl,x,_,D,[],rfl,by rwa[aF a],B0.cl,B0.n1,by decide,?_];rw[c3q];refine#[jJ _,λu v=>#[.ref x,rfl,x,_,D,bF1 d,rfl,?_,B0.cl,B0.n2,by show 1<1000;decide,?_]];.rw[aF<|aP aK v];exact aK
 rw[c3p];have b:=aP aK v;have j:d≠u:=λz=>by rw[<-z,aF<|jL a,aK]at v;cases v
 refine#[jJ _,λC r=>#[.ref x,rfl,x,_,D,bF2 d u,rfl,?_,B0.cl,B0.n3,by show 2<1000;decide,?_]];.rw[aF<|aP aK r];exact aK
 rw[c3o];have g:=aP aK r;have p:u≠C:=λz=>by rw[<-z,aF<|jL b,aK]at r;cases r
 have t:d≠C:=λz=>by rw[<-z,aF<|jL a,aF j,aF<|jL a,aK]at r;cases r
 have M:H u=none:=by rwa[aF<|jL b,aF<|jL j]at v
 have L:H C=none:=by rwa[aF<|jL g,aF<|jL p,aF<|jL g,aF<|jL t]at r
 refine q d u C _ G M L p aK ?_ ?_ ?_ λy o F I=>?_;.rw[aF<|jL a,aF t,aF<|jL a,aF j,aF<|jL a,aK]
 .rw[aF<|jL b,aF p,aF<|jL b,aK]
 .rw[aF<|jL g,aK]
 .rwa[aF F,aF<|aP I L,aF F,aF<|aP I M,aF F,aF<|aP I G]
end
structure BMk(P:Program)(w:World)(K:qB)(mg:T0d)(base:Heap)(k:Nat):Prop where ex:∃f fd,mg "Binder"=Qa (.ref (iW K))/\Mk K (iW K) f/\Binds K fd ["self"] []/\FnOk P w K mg base CX0 k f fd ["self"] (spI K)
section
variable{K:qB}{β:Sto}
def RepS.setA(R:RepS K H0 Gz G H U Z):RepS K H0 Gz G H (U.set i<|Qa<|.ref a) (Z.set i<|.adr a):=by
 refine#[R.grow,by simp[R.len],λj o e b c=>?_,R.inj.sub λj e b c=>?_,R.tab]
 .obtain⟨rfl,rfl,_⟩|⟨n,b⟩:=bF b
  .obtain⟨_,rfl,_⟩|⟨n,_⟩:=bF c;.rfl
   .exact absurd rfl n
  .obtain⟨z,_⟩|⟨_,c⟩:=bF c;.exact absurd z n
   .exact R.ent j o e b c
 .obtain⟨_,rfl,_⟩|⟨n,b⟩:=bF b;.cases c
  .exact#[b,jK<|jL n]
def b3V{x:Addr}(R:bM K H0 Gz G H U Z β)(h:H x=Qb):gC β x=none:=by cases q:gC β x with|none=>rfl|some b=>let⟨_,_,_,_,_,_,_,a,_⟩:=R.ob q;rw[h]at a;cases a
def bM.made{x:Addr}(R:bM K H0 Gz G H U Z β)(t:lB Z=Qc)(j:BOk K G H6 x yK fp)(fr:∀y∈fp,H y=Qb)(d:∀y o,H y=Qa o->H6 y=Qa o):bM K H0 Gz G H6 U Z ((x,yK)::β):=by
 let⟨b,S,R⟩:=R;have q:aW G H6:=λy o e=>d y o<|R.sub y o e;have g:Grow G (plus (less H []) H6 fp) G H6:=a3n q λy o _ e=>d y o e;have w:=RepS.back (fp:=[]) (fp':=fp) R t (λy a=>nomatch a) (λy a=>nomatch a) (λy a=>#[j.kind y a,by rw[cY<|by simp];exact fr y a,R.sub.free<|fr y a]) g;have k:∀y∈b.flatten,y∉fp:=λy a z=>by let⟨o,e,_⟩:=S.kind y a;rw[fr y z]at e;cases e
 refine#[fp::b,#[.cons j (xX S.each λp f v r=>r.keep (λy o _ e _=>d y o e)<|.refl _),?_,λy a=>?_],?_];.rw[qe,jc];exact#[j.nd,S.nd,λy a z s e=>by subst e;exact k y s a]
 .rw[qe,qU]at a;obtain a|a:=a;.refine#[?_,R.sub.free<|fr y a];have n:y∉b.flatten:=λz=>k y z a;have:=R.grow.hh.free<|fr y a;rwa[bL n]at this
  .exact S.out y a
 .have u:plus (less (plus H0 H b.flatten) []) H6 fp=plus H0 H6 (fp::b).flatten:=by
   funext y;rw[qe];by_cases i:y∈fp;.rw[dG i,dG<|je _ i]
   .rw[bL i,cY<|by simp];by_cases c:y∈b.flatten;.rw[dG c,dG<|qi _ c];let⟨o,e,_⟩:=S.kind y c;rw[e,d y o e]
    .rw[bL c,bL<|λz=>(qU.mp z).elim i c]
  rwa[<-u]
def Grow.less(g:Grow Gz H0 G' H')(h:aW H0' H0):Grow Gz H0' G' H':=#[g.gg,#[λb o e n=>g.hh.keep b o (h b o e) n,λb c e=>g.hh.tbl b c<|h b _ e,λP q t=>g.hh.tab P q<|t.same h],g.sub,λa e n=>g.new a e (λz=>n<|h.free z),g.nt]
def pU.forget(g:pU K H0 Gz G H β):pU K H0 Gz G H []:=by let⟨b,S,g⟩:=g;refine#[[],#[.nil,.nil,λx a=>nomatch a],g.less λx o e=>?_];rw[bL<|by simp]at e;rwa[bL<|λz=>by rw[(S.out x z).1]at e;cases e]
end
open Classical in noncomputable def mkO(i:Nat)(js:T0t)(fA:AF)(g:OSF):OSF:=λZ β=>if lB Z then(if h:∃d,∀a,gC β a=none->∃O β',fA (vw ((a,yK)::β) Z)=some (.ok O)/\js.length=O.length/\g (lS (Z.set i (.adr a)) js O) ((a,yK)::β)=some (.rt d,β')then some (.rt h.choose,[])else none)else none
def b4N b:∃a,gC b a=none:=by
 have:∀b:Sto,∃n,∀a,n<=a->gC b a=none:=λb=>by induction b with|nil=>exact#[0,λa _=>rfl]|cons p b d=>let⟨n,h⟩:=d;refine#[max n<|p.1+1,λa c=>?_];have f:=qk (Nat.le_max_left _ _) c;have e:=qk (Nat.le_max_right _ _) c;unfold gC;rw[if_neg<|qd e,h a f]
 let⟨n,h⟩:=this b;exact#[n,h n<|qM _]
variable{fA:AF}{g:OSF}
def c4e(o:lB Z=Qc)(h:∀a,gC β a=Qb->∃O β',fA (vw ((a,yK)::β) Z)=Qa (.ok O)/\js.length=O.length/\g (lS (Z.set i<|.adr a) js O) ((a,yK)::β)=Qa (.rt d,β')):mkO i js fA g Z β=Qa (.rt d,[]):=by have f:∃d,∀a,gC β a=Qb->∃O β',fA (vw ((a,yK)::β) Z)=Qa (.ok O)/\js.length=O.length/\g (lS (Z.set i<|.adr a) js O) ((a,yK)::β)=Qa (.rt d,β'):=#[d,h];unfold mkO;rw[if_pos o,dif_pos f];let⟨a,j⟩:=b4N β;let⟨O,k,q,_,p⟩:=h a j;let⟨r,e,c,_,b⟩:=f.choose_spec a j;rw[q]at c;cases c;rw[p]at b;cases b;rfl
variable{T:List V->Hp->Prop}
section
variable{bs ts:T0n}{rest:List Stmt}{pt pt2:Pos}{x:Str}
def b4C{q:Sto}(R:bM X.K H0 Gz G H U Z q)(u:lB Z=Qc)(h:∀x c,H x=Qb->bM X.K H0 Gz G c U Z ((x,yK)::q)->rA X fA U c λvs J=>T (.ref x::vs) J):b2m (b5L (iW X.K) (spI X.K) [] (λ_ _ _=>False) b5K) (rA X fA) U H T:=by
 intro x b i g f;refine#[x,b,rfl,aK,λd s r c v C A k I F E D t=>#[rfl,?_]];have j:∀y,upd (upd H b<|.own x) x (.ins (iW X.K) b []) y=Qb->H y=Qb/\y≠x/\y≠b:=λy a=>by
  have nx:y≠x:=λz=>by rw[z,aK]at a;cases a
  have nd:y≠b:=λz=>by rw[aF nx,z,aK]at a;cases a
  rw[aF nx,aF nd]at a;exact#[a,nx,nd]
 have p:=t b _ f (by rw[aF f,aK]);have keep:∀y o,H y=Qa o->c y=Qa o:=λy o e=>t y o (aP e i) (by rwa[aF<|aP e i,aF<|aP e g]);have w:BOk X.K G c x yK [x,b,d,s,r]:=#[b,d,s,r,[],[],[],rfl,k,I,p,F,E,D,#[rfl,.nil],.nil,.nil];refine h x c i<|R.made u w (λy a=>?_) keep;simp only[qI,jB,or_false]at a;obtain rfl|rfl|rfl|rfl|rfl:=a;.exact i
 .exact g
 .exact(j _ v).1
 .exact(j _ C).1
 .exact(j _ A).1
def c0D{d:Sto}{o:So}(R:bM X.K H0 Gz G H U Z d)(c:mkO i js fA g Z d=Qa (o,β'))(q:uA X H0 Gz G D β' o)(h:∀x vs O b e,aW G b->bM X.K H0 Gz b e U Z ((x,yK)::d)->RepAll X.K b vs O->js.length=O.length->(∀j r a,aW b j->bM X.K H0 Gz j r a (lS (Z.set i<|.adr x) js O) ((x,yK)::d)->rOS X g D a r)->T (.ref x::vs) e):b2m (b5L (iW X.K) (spI X.K) [] (λ_ _ _=>False) b5K) (rA X fA) U H T:=by
 unfold mkO at c;split at c
 .rename_i z;split at c;.rename_i A;cases(qA c);refine b4C R z λx Q y M=>?_;let⟨O,k,J,I,F⟩:=A.choose_spec x<|b3V R y;let⟨E,S,p⟩:=M;refine#[_,_,_,Gz,G,J,RepS.view S p,λvs b e f u=>?_];have L:bM X.K H0 Gz b e U Z ((x,yK)::d):=.of S p.grow.gg (p.more f) f.gg;exact h x vs O b e f.gg L u I λj r a t K=>#[_,_,_,k,H0,Gz,j,F,K,λv P N s C w=>q v P N (f.gg.trans<|t.trans s) C.forget w]
  .cases c
 .cases c
theorem bM.setA{K:qB}{c d G H:Hp}{U:St}{Z:List Ent}{b:Sto}{i:Nat}{a:Addr}(R:bM K c d G H U Z b):bM K c d G H (U.set i<|Qa<|.ref a) (Z.set i<|.adr a) b:=by let⟨e,S,R⟩:=R;exact .of S R.grow.gg R.setA<|.refl _
def b3I{t:TS}(c:PS X st t)(b:OB X rest g)(I:Inv X B U H s)(h:t {D with nx:=λσ' H'=>rOS X g D σ' H'} U H):wpAny (model X.prog X.w) X.A (execs (st::rest) X.env) (SP X B D) X.xe s:=by refine wg (thn (c B s U H _ I h) λd a z=>?_);cases d with|next=>let⟨σ',H',e,z⟩:=z;exact b.run B a σ' H' D e z|ret v=>exact z|brk=>exact z|cont=>exact z
end
def a9a(m n:Nat)(f:OSF)(O:T0l):Mm q8:=if O.length=n then(match f (pY m O) []with|some (.rt d,_)=>Qa (.ok d)|_=>Qb)else Qb
def pU.nil{K:qB}{a:Sto}(g:pU K H0 Gz G H a):Grow Gz H0 G H:=by let⟨b,S,g⟩:=g;exact g.less λx o e=>by rwa[bL<|λz=>by rw[(S.out x z).1]at e;cases e]
def bM.start{K:qB}(R:RepS K H G G H U Z):bM K H G G H U Z []:=by
 refine#[[],#[.nil,.nil,λx a=>nomatch a],?_];have:plus H H ([]:List (List Addr)).flatten=H:=by funext x;rw[bL<|by simp]
 rwa[this]
variable{c:Addr}
section
variable{K:qB}{x:Str}
def b7N{f:OSF}{T:Addr} m n(Fu:Fun K x x st fa fd)(S:FnScope N ps (aD st))(M:N.length=m)(L:ps.length=n)(t:K.In base)(F:base.Ns j6 mg)(j:mg x=Qa (.ref fa))(I:jk K x=Qa (c,T))(i:∀ A a s H E,Room k (A.deeper<|wx x (aD st) s.heap.objs.size fa<|.ref c)->OB (fcx P w K mg base N x (aD st) fa (.ref c) A a s H E) (bU st) f):FnOk P w K mg base CX0 (k+1) fa fd ps (spD K λO d=>a9a m n f O=Qa (.ok d)):=by
 let⟨oc,od,kV,doc,pm,an,cdv,ct,D,rfl,p,o⟩:=Fu.ex;have X:=PySem.W.law_code t F I j (t _ _ p) rfl;subst X;refine a4I p o S (λy H Q E⟨G,O,d,s,r,b,_⟩=>?_) (λA a s H y Q E J⟨G,O,d,z,r,b,q⟩=>?_)
 .have b:a9a m n f O=Qa (.ok d):=b;unfold a9a at b;split at b;.rename_i R;rw[r.length,R,L]
  .cases b
 .have b:a9a m n f O=Qa (.ok d):=b;unfold a9a at b;split at b
  .rw[<-M,<-xP]at b;split at b;.rename_i d' u e;cases(qA b);refine#[_,(i A a s H E J).run.nox,nB N O,[],_,_,H,G,G,e,.start<|lO z r,λv G' H' _ g C=>q v G' H' g.nil C]
   .cases b
  .cases b
end
noncomputable def xG:Stmt->Nat->Stmt|.ClassDef _ _ _ b _ _ _ _ _ _ _,j=>b.getD j (.Pass #[0,0,0,0])|s,_=>s
section
variable{K:qB}{x m:Str}{f:Addr}{kV:Value}
def b7O{T:Addr} mm n(Fu:Fun K x x st fa fd)(S:FnScope N ps (aD st))(hm:N.length=mm)(hn:ps.length=n+1)(kb:K.In base)(nb:base.Ns j6 mg)(M:mg x=Qa (.ref fa))(ht:jk K x=Qa (c,T))(j:∀ A f s H E,Room k (A.deeper<|wx x (aD st) s.heap.objs.size fa<|.ref c)->OB (fcX P w K mg base N x (aD st) fa (.ref c) A f s H E) (bU st) fO):FnOk P w K mg base (CX1 P w) (k+1) fa fd ps (spO K<|a0g mm n fO):=by
 let⟨oc,od,kV,doc,pm,an,cdv,ct,osl,rfl,lk,hcd⟩:=Fu.ex;have hc:=PySem.W.law_code kb nb ht M (kb _ _ lk) rfl;subst hc;refine a4I lk hcd S ?_ ?_;.rintro vs H Q E⟨G,a,b,o,F,O,r,b',ev,s,hb,hG,t,i,_⟩;rw[ev,qO,t.length,(a3e i).1,hn]
 .rintro A f s H vs Q E L⟨G,a,b,o,F,O,r,b',ev,sm,hb,hG,t,i,q⟩;subst ev;have R0:RepS K H G G H (start N (.ref a::F)) (hJ N.length (.adr a::O.map .val)):=a1A sm<|.cons #[rfl,rfl] (pN t);have R:bM K (less H o) G G H (start N (.ref a::F)) (hJ N.length (.adr a::O.map .val)) [(a,b)]:=#[[o],#[.cons hb .nil,by rw[qe,kC,ja];exact hb.nd,λx J=>by rw[qe,kC,ja]at J;exact#[gG J,hG x J]],by rwa[qe,kC,ja,a1S]];have i:=(a3e i).2 a;rw[<-hm]at i;unfold sF at i;split at i
  .rename_i d p e;split at i;.rename_i u;cases(qA i);refine#[_,(j A f s H E L).run,_,_,_,_,less H o,G,G,e,R,λv z y s g t=>q v z y s ?_ t];rwa[<-u]
   .cases i
  .rename_i D p e;split at i;.rename_i u;cases(qA i);refine#[_,(j A f s H E L).run,_,_,_,_,less H o,G,G,e,R,λz y σ' s R'=>q .non z y s ?_ .none];rw[<-u];exact R'.grow
   .cases i
  .rename_i c' D p e;split at i;.rename_i u;cases(qA i);refine#[_,(j A f s H E L).run,_,_,_,_,less H o,G,G,e,R,λB s' U y z e' I R g xx=>a0Q (X:=fcX P w K mg base N x (aD st) fa (.ref c) A f s H E) I xx λC hC=>q C z y hC g ?_];rw[<-u];exact R.grow
   .cases i
  .cases i
def a8w(a:jF K j6 "Binder"=Qa (Qa<|.ref C)):iW K=C:=by unfold iW;rw[a]
def mdef_mk(b:jF K j6 "Binder"=Qa (Qa<|.ref C))(a:jH K (.ref C) m=Qa (Qa<|.ref f))(i:vP K (.ref f)=Qc)(l:K.lookup f=Qa #[oc,od,.func<|jY m ("Binder."++m) (fV st) (bU st) (aD st) .none kV doc pm an cdv ct,sl])(c:kz K cdv ("Binder."++m)=Qc)(k:jQ K (.ref f)=Qc):MDef K m st:=#[f,_,a7Z l c k,by rw[a8w b];exact#[a,i,k]]
def bcls_mk(j:jF K j6 "Binder"=Qa (Qa<|.ref C))(i:zZ K C qV=Qc)(g:zz K C=Qc)(f:wF K C=Qc)(d:jH K (.ref C) "__setattr__"=Qa (Qa<|.builtin "object.__setattr__"))(c:jH K (.ref C) "sheets"=Qa Qb)(b:jH K (.ref C) "done"=Qa Qb)(a:jH K (.ref C) "undone"=Qa Qb):BCls K:=by
 have e:=a8w j;refine#[?_,?_,?_,?_]<;>rw[e];.exact#[i,g,f,d]
 .exact c
 .exact b
 .exact a
structure BIn(K:qB)(st:Stmt):Prop where ex:∃f fd,jF K j6 "Binder"=Qa (Qa (.ref (iW K)))/\Mk K (iW K) f/\Fun K "__init__" "Binder.__init__" st f fd
def bin_mk(b:jF K j6 "Binder"=Qa (Qa<|.ref C))(k1:PySem.W.makesIn K C=Qc)(k2:jH K (.ref C) "__init__"=Qa (Qa<|.ref f))(k3:vP K (.ref f)=Qc)(a:jQ K (.ref C)=Qc)(l:K.lookup f=Qa #[oc,od,.func<|jY "__init__" "Binder.__init__" (fV st) (bU st) (aD st) .none kV doc pm an cdv ct,sl])(c:kz K cdv "Binder.__init__"=Qc)(k:jQ K (.ref f)=Qc):BIn K st:=by have e:=a8w b;exact#[f,_,by rwa[e],by rw[e];exact#[k1,k2,k3,a],a7Z l c k]
def c1P{h:Heap}(X:K.In h)(G:h.Ns j6 mg)(B0:BCls K)(I:BIn K st)(S:FnScope ["self"] ["self"] (aD st))(b:(aD st).names.lookup ("self":Str)=Qa .local)(d:bU st=[.Assign [.Attribute (.Name "self" a1) "sheets" a2] (.Dict [] [] a3) a4,.Assign [.Attribute (.Name "self" b1) "done" b2] (.List [] b3) b4,.Assign [.Attribute (.Name "self" c1) "undone" c2] (.List [] c3) c4])(c:∀ kV doc pm(an:T0k) cdv ct(us:T0m),us.length=["self"].length->ye (jY "__init__" "Binder.__init__" (fV st) (bU st) (aD st) .none kV doc pm an cdv ct) #[us,[]]=pure ((["self"]:T0q).zip us)):BMk P w K mg base 1:=by let⟨f,e,g,M,a⟩:=I.ex;exact#[f,e,kR X G g,M,a.binds c,b7u (k:=0) B0 a S b d]
end
end L2.L3
namespace L2.ZT
open PySem PyProof.Rows
section
variable{z TI TO c d t u:Addr}{Y ys:Array Value}{a b:Value}
end
end L2.ZT
namespace L2.L3
open PySem PySem.Spec PyProof.Rows
section
variable{a b:Expr}
end
variable{y:q8}
def nG{g:q8->q8->Option q8}{x:q8}(b:fa Z=Qa (.ok x))(a:fb Z=Qa (.ok y))(h:g x y=Qa d):op2 g fa fb Z=Qa (.ok d):=by rw[uZ,b,bG,a,bG,h];rfl
def fF{g:q8->q8->Option Bool}{x:q8}{r:Bool}(b:fa Z=Qa (.ok x))(a:fb Z=Qa (.ok y))(h:g x y=Qa r):eG g fa fb Z=Qa (.ok r):=by rw[c5d,b,bG,a,bG,h];rfl
def aM{x:q8}{Y:T0l}(b:fa Z=Qa (.ok x))(a:aa Z=Qa (.ok Y)):aB fa aa Z=Qa (.ok (x::Y)):=by rw[bW,b,bG,a,bG]
variable{s:List Mt}
def b5S{x:Mt}(nd:(s.map (·.1)).Nodup)(hx:x∈s):∃l r,s=l++x::r/\∀m∈l,m.1≠x.1:=by let⟨l,r,rfl⟩:=List.append_of_mem hx;refine#[l,r,rfl,λm a=>?_];rw[jD,qE,vY,List.pairwise_append]at nd;exact nd.2.2 m.1 (kA a) x.1 (by simp)
noncomputable def prt(s:List Mt)(m:Mt):List Mt:=s.filter λo=>!decide (o.1=m.1)&&decide (ov m o)
def gof(s:List Mt)(m:Mt):List Mt:=((c6x<|c7P s).find? λA=>decide (m∈A)).getD []
def grp(s:List Mt)(m:Mt):List Mt:=s.filter λa=>decide (a∈gof s m)
def wid(s:List Mt)(m:Mt):Int:=c4d<|grp s m
section
variable(hp:∀m∈s,m.2.1<m.2.2)
include hp
omit hp
abbrev cl(P:List Ly)(m:Mt):Int:=(c2z P m.1:Nat)
variable{P:List Ly}
def lst(s:List Mt)(P:List Ly)(m:Mt):Int:=c6f ((wid s m::(prt s m).map (cl P)).filter λc=>decide (cl P m<c))
end
def a4O:SF:=(retS<|op2 a2a (var 0)<|cst<|.int 48)
def a5j:List q8->Mm q8:=lV 1 1 a4O
noncomputable def dn(m:Mt):Nat:=((m.2.2-1)/48+1-m.2.1/48).toNat
variable{m:Mt}
def b8h i:a5j [.int i]=Qa (.ok<|.int<|i/48):=by refine cN rfl ?_;show a4O [.val<|.int i]=_;rfl
def c2f{m:Mt}(h:jN m.1=Qc):qm (dM m)=true:=b5V (n:=1) (λd a=>by
 have:d=.str m.1\/d=.int m.2.1\/d=.int m.2.2:=by simpa using a
 obtain rfl|rfl|rfl:=this<;>simp[ka,h]) (λd a=>by
 have:d=.str m.1\/d=.int m.2.1\/d=.int m.2.2:=by simpa using a
 obtain rfl|rfl|rfl:=this<;>simp[zA]) (by decide)
abbrev a3C:TF:=eG eqD (op2 ixD (var 2)<|cst<|.int 0)<|var 1
abbrev fL:SF:=ifS a3C (retS<|var 2) eM
def iG:SF:=(bI (b1d<|a9S (.nm 2) (nD<|var 0) fL)<|eW "NoMeeting")
def mO:List q8->Mm q8:=oJ 3 2 iG
abbrev dB:TF:=gS<|gI<|aS eO<|aB (var 0)<|aB (var 1) aG
def uF:SF:=(ifS dB (eW "NoTime") eM)
def aT:List q8->Mm q8:=oJ 2 2 uF
abbrev a5Y:TF:=gS<|gI<|aS gO<|aB (var 1) aG
def a4L:SF:=(bI (ifS a5Y (eW "NoTime") eM)<|retS<|op2 aY (var 0)<|var 1)
def a1r:List q8->Mm q8:=oJ 2 2 a4L
abbrev nO:EF:=fK (.nm 0) [Qb,Qa 2] (nD<|var 0) (eG neD (op2 ixD (var 0)<|cst<|.int 0)<|op2 ixD (var 1)<|cst<|.int 0)<|var 0
def eP:SF:=(bI (dA 2<|fC mO<|aB (var 0)<|aB (var 1) aG)<|retS<|eS uK<|aB nO aG)
def eV:List q8->Mm q8:=oJ 3 2 eP
abbrev rZ:TF:=eG inX (var 1)<|aS gN<|aB (var 0) aG
abbrev lN:TF:=eG geD (eS mS<|aB (var 0) aG)<|cst<|.int 16
def dE:SF:=(bI (ifS rZ (eW "Taken") eM)<|bI (a4P<|fC aT<|aB (var 2)<|aB (var 3) aG)<|bI (ifS lN (eW "TooMany") eM)<|retS<|eS uK<|aB (eS a8Q<|aB (op2 aY (var 0)<|iR<|aB (iR<|aB (var 1)<|aB (var 2)<|aB (var 3) aG) aG) aG) aG)
def iP:List q8->Mm q8:=oJ 4 4 dE
def nU{m n:Nat}(a:O.length=n)(h:f (pY m O)=Qa (.rt d)):oJ m n f O=Qa (.ok d):=by unfold oJ;rw[if_pos a,h]
def b9B{m n:Nat}(a:O.length=n)(h:f (pY m O)=Qa (.nx Z)):oJ m n f O=Qa (.ok .none):=by unfold oJ;rw[if_pos a,h]
variable{c:Str}
def iL{m n:Nat}(a:O.length=n)(h:f (pY m O)=Qa (.xc c Z)):oJ m n f O=Qa (.ex c):=by unfold oJ;rw[if_pos a,h]
def c0o(h:f Z=Qa (.nx ρ')):b1d f Z=Qa (.nx ρ'):=by unfold b1d;rw[h]
def c0n(h:f Z=Qa (.rt d)):b1d f Z=Qa (.rt d):=by unfold b1d;rw[h]
def xR{g:SF}(h:f Z=Qa (.xc c ρ')):bI f g Z=Qa (.xc c ρ'):=by unfold bI;rw[h]
def c1J F fa Z:fC F fa Z=bnd (fa Z) F:=rfl
def eL{F:List q8->Mm q8}{fa:AF}(a:fa Z=Qa (.ok O))(h:F O=Qa r):fC F fa Z=Qa r:=by rw[c1J,a,bG,h]
theorem a1O{S:q8}{x:Str}:∀ l(r:List Mt) y,(∀m∈l,m.1≠x)->∃a,lM (.nm 2) fL ((l++r).map dM) [.val S,.val<|.str x,y]=lM (.nm 2) fL (r.map dM) [.val S,.val<|.str x,a]|[],r,y,_=>#[y,rfl]|m::l,r,y,hl=>by have n:=hl m (by simp);let⟨a,e⟩:=a1O (S:=S) l r (.val<|dM m) λm b=>hl m<|qG _ b;refine#[a,?_];rw[<-e];exact b4D (ρ1:=[.val S,.val<|.str x,.val<|dM m]) (ρ2:=[.val S,.val<|.str x,.val<|dM m]) rfl (by simp[n])
def c1j(nd:(s.map (·.1)).Nodup){x:Mt}(hx:x∈s):mO [dS s,.str x.1]=Qa (.ok<|dM x):=by let⟨l,r,rfl,h⟩:=b5S nd hx;refine nU rfl ?_;show iG [.val<|dS (l++x::r),.val<|.str x.1,.no]=_;refine iJ<|c0n ?_;rw[a4H,nT (d:=dS (l++x::r)) rfl rfl,oY];let⟨a,e⟩:=a1O (S:=dS (l++x::r)) l (x::r) .no h;rw[e];show lM (.nm 2) fL (dM x::r.map dM) _=_;rw[lM,c5z];dsimp only[List.set];rw[show fL [.val<|dS (l++x::r),.val<|.str x.1,.val<|dM x]=Qa (.rt<|dM x)from by simp]
def b6R{x:Str}(h:∀m∈s,m.1≠x):mO [dS s,.str x]=Qa (.ex "NoMeeting"):=by let⟨a,e⟩:=a1O (S:=dS s) s [] .no h;rw[ja]at e;refine iL (Z:=[.val<|dS s,.val<|.str x,a]) rfl ?_;show iG [.val<|dS s,.val<|.str x,.no]=_;unfold iG;rw[aI<|c0o (ρ':=[.val<|dS s,.val<|.str x,a])<|by rw[a4H,nT (d:=dS s) rfl rfl,oY,e];rfl];rfl
noncomputable def tmB(b e:Int):Bool:=decide (0<=b)&&(decide (b<e)&&decide (e<=480))
variable{b e:Int}
def a0z:tmB b e=Qc↔0<=b/\b<e/\e<=480:=by unfold tmB;simp
def a4Q b e:eO [.int b,.int e]=Qa (.ok<|.bool<|tmB b e):=by
 have w:∀i:Int,gO [.int i]=Qa (.ok<|.bool Qc):=λi=>by kernel_rfl
 refine cN rfl ?_;show mW [.val<|.int b,.val<|.int e]=_;unfold tmB;by_cases d:0<=b<;>by_cases c:b<e<;>by_cases a:e<=480<;>simp[mW,w,d,c,a]
def b8c(h:tmB b e=Qc):aT [.int b,.int e]=Qa (.ok .none):=by
 refine b9B (Z:=[.val<|.int b,.val<|.int e]) rfl ?_;show ifS dB _ _ [.val<|.int b,.val<|.int e]=_;have t:dB [.val<|.int b,.val<|.int e]=Qa (.ok Qd):=by show bnd (bnd (aS eO (aB (var 0)<|aB (var 1) aG) [.val<|.int b,.val<|.int e]) _) _=_;rw[bB (O:=[.int b,.int e]) rfl<|a4Q b e,h];rfl
 rw[dY,t];rfl
def b2Q(h:tmB b e=Qd):aT [.int b,.int e]=Qa (.ex "NoTime"):=by
 refine iL (Z:=[.val<|.int b,.val<|.int e]) rfl ?_;show ifS dB _ _ [.val<|.int b,.val<|.int e]=_;have t:dB [.val<|.int b,.val<|.int e]=Qa (.ok Qc):=by show bnd (bnd (aS eO (aB (var 0)<|aB (var 1) aG) [.val<|.int b,.val<|.int e]) _) _=_;rw[bB (O:=[.int b,.int e]) rfl<|a4Q b e,h];rfl
 rw[dY,t];rfl
noncomputable def repl(x:Str)(b e:Int)(m:Mt):Mt:=if m.1=x then(m.1,b,e)else m
def a9Z a b:a1r [.int a,.int b]=Qa (.ok<|.int<|a+b):=by
 refine nU rfl ?_;show a4L [.val<|.int a,.val<|.int b]=_;unfold a4L;have t:a5Y [.val<|.int a,.val<|.int b]=Qa (.ok Qd):=by show bnd (bnd (aS gO (aB (var 1) aG) [.val<|.int a,.val<|.int b]) _) _=_;rw[bB (O:=[.int b]) rfl<|c1d b];rfl
 rw[aI (ρ':=[.val<|.int a,.val<|.int b])<|by rw[dY,t];rfl];rfl
def b9A{m n:Nat}(b:O.length=n)(h:f (pY m O)=retS fa Z)(a:fa Z=Qa r):oJ m n f O=Qa r:=by unfold oJ;rw[if_pos b,h,cE,a];cases r<;>rfl
def b1G{x:Mt}(nd:(s.map (·.1)).Nodup)(hx:x∈s)(b:s.length<64):eV [dS s,.str x.1]=Qa (.ok<|dS<|s.filter λm=>!decide (m.1=x.1)):=by refine nU rfl ?_;unfold eP;rw[aI (ρ':=[.val<|dS s,.val<|.str x.1,.val<|dM x])<|by rw[dW,eL (O:=[dS s,.str x.1]) rfl<|c1j nd hx];rfl];have a:nO [.val<|dS s,.val<|.str x.1,.val<|dM x]=Qa (.ok<|.list<|(s.filter λm=>!decide (m.1=x.1)).map dM):=sI dM (λm=>[.val<|dM m,.val<|dM x]) (λm=>!decide (m.1=x.1)) dM s (by rfl) (by exact Q4 ‹_› rfl) (λm _=>by rfl) (λm _=>by rfl) (λm _ _=>by simp);rw[cE,mB (O:=[.list<|(s.filter λm=>!decide (m.1=x.1)).map dM]) (by rw[bW,a];rfl)<|a5R _];rfl
def c2Z(s:List Mt):∀d∈s.map dM,fN [Qd,Qc,Qc] d=true:=λd a=>by let⟨m,_,rfl⟩:=qR.mp a;rfl
end L2.L3
namespace HT
open PySem PySem.Spec PyProof.Rows
end HT
namespace L2
open PySem PySem.Spec PyProof.Rows
end L2
namespace L2.L3
open PySem PySem.Spec PyProof.Rows
section
variable{a:Expr}{fa:EF}{fl:OF}
end
abbrev a8K:OTF:=upT<|isT Qd (.none)<|var 2
def a8b:OSF:=(ifO a8K (a9g 0<|var 1)<|a9f 0 (var 1)<|var 2)
def a1p:BS->List q8->Option (Re q8×BS):=a0g 3 2 a8b
def rM:OSF:=(fR (b8X Qd 0<|iR<|aB (var 1)<|aB (var 2)<|aB (c4B 0<|var 2)<|aB (var 3) aG)<|fR (b8G 0)<|fR (a2P<|gA a1p 0<|aB (var 2)<|aB (var 3) aG)<|upS<|retS<|var 3)
def bH:BS->List q8->Option (Re q8×BS):=a0g 4 3 rM
abbrev a8L:TF:=orT (gS<|gI<|aS bC<|aB (var 1) aG)<|gS<|gI<|aS cR<|aB (var 2) aG
def a8c:OSF:=(fR (upS<|ifS a8L (eW "NoSheet") eM)<|fR (upS<|dA 3<|inF 0<|var 1)<|fR (a2P<|gA bH 0<|aB (cst<|.str "lay")<|aB (var 1)<|aB (var 2) aG)<|upS<|retS<|var 3)
def a1q:BS->List q8->Option (Re q8×BS):=a0g 4 2 a8c
def a5E:SF:=(bI (a4P<|fC aT<|aB (var 1)<|aB (var 2) aG)<|retS<|iR<|aB (var 0)<|aB (var 1)<|aB (var 2) aG)
def rW:List q8->Mm q8:=oJ 3 3 a5E
abbrev pP:EF:=a2l (.tp [0,1,2]) [Qb,Qb,Qb,Qa 1] (nD<|var 0) ttT<|fC rW<|aB (var 0)<|aB (fC a1r<|aB (var 1)<|aB (var 3) aG)<|aB (fC a1r<|aB (var 2)<|aB (var 3) aG) aG
def b1C:SF:=(retS<|eS uK<|aB pP aG)
def pA:List q8->Mm q8:=oJ 2 2 b1C
abbrev pW:TF:=orT (gS<|gI<|aS bC<|aB (var 1) aG)<|c3Y 0<|var 1
def lE:SF:=(bI (ifS pW (eW "NoSheet") eM)<|retS<|ixF 0<|var 1)
def aJ:BS->List q8->Mm q8:=a3X 2 1 lE
def b4O:OSF:=(a0h<|gA bH 0<|aB (cst<|.str "shift")<|aB (var 1)<|aB (fC pA<|aB (iF aJ 0<|aB (var 1) aG)<|aB (var 2) aG) aG)
def oC:BS->List q8->Option (Re q8×BS):=a0g 3 2 b4O
abbrev b0G:TF:=thT<|orT (eG neD (dfE c4X (var 1)<|cst<|.bool Qc)<|cst<|.int 1)<|gS<|gI<|c4v cD 0
def b4Q:SF:=(bI (b4p 1<|aB (a5B cD 0 "NoBack")<|aB (a5B cD 0 "NoMeeting")<|aB (a5B cD 0 "NoSheet") aG)<|bI (b1E 1<|nJ<|aB (a5B cD 0 "NoText") aG)<|b4M 1<|bI (a7D 1 (var 1)<|nJ<|aB (a5B cD 0 "NoTime")<|aB (a5B cD 0 "NoZone")<|aB (a5B cD 0 "Taken") aG)<|b4M 1<|bI (a7D 1 (var 1)<|nJ<|aB (a5B cD 0 "TooMany") aG)<|bI (ifS b0G (retS<|cst<|.str "wrong") eM)<|bI (dA 2<|nJ<|aB (cst<|.str "no back")<|aB (cst<|.str "no meeting")<|aB (cst<|.str "no sheet")<|aB (cst<|.str "no text")<|aB (cst<|.str "no time")<|aB (cst<|.str "no zone")<|aB (cst<|.str "taken")<|aB (cst<|.str "too many") aG)<|b4M 1<|retS<|op2 ixD (var 2)<|dfE c4y (var 1)<|cst<|.bool Qc)
def cJ:Str->Mm q8:=c3e 3 b4Q
def a2c:SF:=(retS<|c2V 0)
def mC:BS->List q8->Mm q8:=a3X 1 0 a2c
def b7Q:OSF:=(a0h<|gA bH 0<|aB (cst<|.str "drop")<|aB (var 1)<|aB (fC eV<|aB (iF aJ 0<|aB (var 1) aG)<|aB (var 2) aG) aG)
def sL:BS->List q8->Option (Re q8×BS):=a0g 3 2 b7Q
def c1b:OSF:=(a0h<|gA bH 0<|aB (cst<|.str "add")<|aB (var 1)<|aB (fC iP<|aB (iF aJ 0<|aB (var 1) aG)<|aB (var 2)<|aB (var 3)<|aB (var 4) aG) aG)
def yI:BS->List q8->Option (Re q8×BS):=a0g 5 4 c1b
def xA:OSF:=(fR (upS<|dA 2<|iF aJ 0<|aB (var 1) aG)<|fR (a2P<|gA bH 0<|aB (cst<|.str "take")<|aB (var 1)<|aB (cst .none) aG)<|upS<|retS<|var 2)
def sK:BS->List q8->Option (Re q8×BS):=a0g 3 1 xA
abbrev oU:EF:=fK (.nm 0) [Qb,Qa 1] (nD<|aS gN<|aB (var 0) aG) (eG a7C (var 0)<|aS gN<|aB (var 1) aG)<|var 0
def a5D:SF:=(retS oU)
def mM:List q8->Mm q8:=lV 2 2 a5D
abbrev tW:EF:=fK (.nm 0) [Qb,Qa 1] (nD<|var 0) (b2d (eG a7C (var 0)<|var 1)<|eG inX (op2 ixD (var 0)<|cst<|.int 0)<|aS gN<|aB (var 1) aG)<|op2 ixD (var 0)<|cst<|.int 0
def oW:SF:=(bI (dA 2 tW)<|retS<|iR<|aB (aS mM<|aB (var 0)<|aB (var 1) aG)<|aB (aS mM<|aB (var 1)<|aB (var 0) aG)<|aB (var 2) aG)
def lK:List q8->Mm q8:=lV 3 2 oW
abbrev a3B:TF:=gI<|op2 ixD (aS lK<|aB (var 0)<|aB (var 1) aG)<|cst<|.int 2
abbrev a4x:EF:=fK (.nm 0) [Qb,Qa 0] (nD<|var 1) (eG a7C (var 0)<|var 1)<|var 0
abbrev yZ:TF:=eG gtD (eS mS<|aB (var 2) aG)<|cst<|.int 16
def oA:SF:=(bI (ifS a3B (eW "Taken") eM)<|bI (dA 2<|op2 aY (var 0)<|eS uK<|aB a4x aG)<|bI (ifS yZ (eW "TooMany") eM)<|retS<|eS uK<|aB (eS a8Q<|aB (var 2) aG) aG)
def yH:List q8->Mm q8:=oJ 3 2 oA
def b4P:OSF:=(a0h<|gA bH 0<|aB (cst<|.str "merge")<|aB (var 1)<|aB (fC yH<|aB (iF aJ 0<|aB (var 1) aG)<|aB (iF aJ 0<|aB (var 2) aG) aG) aG)
def mD:BS->List q8->Option (Re q8×BS):=a0g 3 2 b4P
variable{b:BS}{c:Str}{ft:OTF}{fa:OEF}{k:q8}{key:Key}
section
variable{ρv:List Ent}{β:Sto}{f g:OSF}
def a5P:yN ((a,b)::β) (.adr a)=.ro (Qa a) b:=by unfold yN gC;dsimp only;rw[if_pos rfl]
def vwS(h:vw [(a,b)] Z=Z):vw [(a,b)] (.adr a::Z)=.ro (Qa a) b::Z:=by show yN _ _::vw _ Z=_;rw[a5P,h]
def cU:gC ((a,b)::β) a=Qa b:=by exact if_pos rfl
def dL:nR ((a,b)::β) a b'=(a,b')::β:=by exact if_pos rfl
def dQ(h:f Z β=Qa (.nx ρ',β')):fR f g Z β=g ρ' β':=by unfold fR;rw[h]
def b9y(h:f Z β=Qa (.xc c ρ',β')):fR f g Z β=Qa (.xc c ρ',β'):=by unfold fR;rw[h]
def b9z(h:f Z β=Qa (.rt d,β')):fR f g Z β=Qa (.rt d,β'):=by unfold fR;rw[h]
def sN{f:SF}{o:So}(a:vw β Z=ρv)(h:f ρv=Qa o):upS f Z β=Qa (b5F o,β):=by unfold upS;rw[a,h];rfl
def fP{f:TF}{r:Re Bool}(a:vw β Z=ρv)(h:f ρv=Qa r):upT f Z β=Qa (r,β):=by unfold upT;rw[a,h];rfl
def c2q(h:ft Z β=Qa (.ok Qc,β')):ifO ft f g Z β=f Z β':=by unfold ifO;rw[h];rfl
def c2r(h:ft Z β=Qa (.ok Qd,β')):ifO ft f g Z β=g Z β':=by unfold ifO;rw[h];rfl
def a0V(h:fa Z β=Qa (.ok d,β')):a2P fa Z β=Qa (.nx Z,β'):=by unfold a2P;rw[h];rfl
def tE(h:fa Z β=Qa (.ok d,β')):a0h fa Z β=Qa (.rt d,β'):=by unfold a0h;rw[h];rfl
def b2A(h:fa Z β=Qa (.ex c,β')):a0h fa Z β=Qa (.xc c Z,β'):=by unfold a0h;rw[h];rfl
def gK{F:BS->List q8->Option (Re q8×BS)}{fa:AF}(hi:Z[i]?=Qa (.adr a))(d:gC β a=Qa b)(e:fa (vw β Z)=Qa (.ok O))(f:F b O=Qa (r,b'))(c:lB Z=true:=by rfl):gA F i fa Z β=Qa (r,nR β a b'):=by unfold gA;rw[hi];dsimp only;rw[d];rw[e];dsimp only;rw[if_pos c,f];rfl
def a9A{F:BS->List q8->Option (Re q8×BS)}{fa:AF}(hi:Z[i]?=Qa (.adr a))(d:gC β a=Qa b)(e:fa (vw β Z)=Qa (.ex c)):gA F i fa Z β=Qa (.ex c,β):=by unfold gA;rw[hi];dsimp only;rw[d];rw[e]
def rY{F:Str->Mm q8}{cap:T0e}{fe:OEF}(h:fe (cF cap Z) β=Qa (r,β'))(a:pH L F r=Qa d)(b:lB Z=true:=by rfl):a2z L F cap fe Z β=Qa (.ok d,β'):=by unfold a2z;rw[if_pos b,h];dsimp only;rw[a];rfl
def c1X{u:Bool}{fa:EF}(hi:Z[i]?=Qa (.adr a))(f:gC β a=Qa b)(g:fa (vw β Z)=Qa (.ok d))(c:bN (b.ls u).length=Qc)(e:lB Z=true:=by rfl):b8X u i fa Z β=Qa (.nx Z,nR β a<|b.setLs u<|b.ls u++[d]):=by unfold b8X;rw[hi];dsimp only;rw[f];rw[g];show(if _ then _ else _)=_;rw[if_pos<|by rw[c,e];rfl]
def c1H(hi:Z[i]?=Qa (.adr a))(d:gC β a=Qa b)(c:lB Z=true:=by rfl):b8G i Z β=Qa (.nx Z,nR β a {b with un:=[]}):=by unfold b8G;rw[hi];dsimp only;rw[d];dsimp only;rw[if_pos c]
def b9H(hi:Z[i]?=Qa (.adr a))(j:gC β a=Qa b)(e:fv (vw β Z)=Qa (.ok d))(g:fk (vw β Z)=Qa (.ok k))(o:uG k=Qa key)(c:bN b.sh.length=Qc)(f:lB Z=true:=by rfl):a9f i fk fv Z β=Qa (.nx Z,nR β a {b with sh:=a2B b.sh key d}):=by unfold a9f;rw[hi];dsimp only;rw[j];rw[e];rw[g];show(match uG k with|some k=>_|none=>_)=_;rw[o];dsimp only;rw[if_pos<|by rw[c,f];rfl]
def b6q(hi:Z[i]?=Qa (.adr a))(f:gC β a=Qa b)(e:fk (vw β Z)=Qa (.ok k))(g:uG k=Qa key)(c:(dO key<|bD b).isSome=Qc)(d:lB Z=true:=by rfl):a9g i fk Z β=Qa (.nx Z,nR β a {b with sh:=a0o b.sh key}):=by unfold a9g;rw[hi];dsimp only;rw[f];rw[e];show(match uG k with|some k=>_|none=>_)=_;rw[g];dsimp only;rw[if_pos<|by rw[c,d];rfl]
def a3d{m n:Nat}{f:SF}(a:O.length=n)(h:f (hJ m (.ro Qb b::O.map .val))=Qa (.rt d)):a3X m n f b O=Qa (.ok d):=by unfold a3X;rw[if_pos a,h]
def b9C{m n:Nat}{f:SF}(a:O.length=n)(h:f (hJ m (.ro Qb b::O.map .val))=Qa (.xc c Z)):a3X m n f b O=Qa (.ex c):=by unfold a3X;rw[if_pos a,h]
end
def bSh(b:BS)(x:Str):Option q8:=dO (.inr x)<|bD b
def a9e(sh:List (Key×q8))(x:Str)(s:q8):List (Key×q8):=match s with|.none=>a0o sh (.inr x)|s=>a2B sh (.inr x) s
def behind(b:BS)(w:Str)(x:Str)(s:q8):BS:=#[a9e b.sh x s,b.dn++[.tuple [.str w,.str x,(bSh b x).getD .none,s]],[]]
def xH(b:BS)(x:Str)(s:q8):Bool:=bN b.sh.length&&(match s with|.none=>(bSh b x).isSome|_=>Qc)
def c6C{x:Str}{s:q8}(h:xH b x s=Qc):a1p b [.str x,s]=Qa (.ok .none,{b with sh:=a9e b.sh x s}):=by
 unfold xH at h;rw[qD]at h;refine fU rfl λa=>?_;show sF a (a8b [.adr a,.val<|.str x,.val s] [(a,b)])=_;have c:vw [(a,b)] [.adr a,.val<|.str x,.val s]=[.ro (Qa a) b,.val<|.str x,.val s]:=vwS rfl;unfold a8b;by_cases f:s=.none;.subst f;rw[c2q<|fP c (r:=.ok Qc) rfl,b6q (key:=.inr x) rfl cU (by rw[c];rfl) rfl h.2,dL];show(if a=a then _ else _)=_;rw[if_pos rfl];rfl
 .have e:a9e b.sh x s=a2B b.sh (.inr x) s:=by cases s<;>first|rfl|exact absurd rfl f
  have t:a8K [.adr a,.val<|.str x,.val s] [(a,b)]=Qa (.ok Qd,[(a,b)]):=fP c (by cases s<;>first|rfl|exact absurd rfl f);rw[c2r t,b9H (key:=.inr x) (d:=s) rfl cU (by rw[c];rfl) (by rw[c];rfl) rfl h.1,dL,e];show(if a=a then _ else _)=_;rw[if_pos rfl]
def a4g:sF a (Qa (.rt d,[(a,b)]))=Qa (.ok d,b):=if_pos rfl
def b0Z:sF a (Qa (.xc c Z,[(a,b)]))=Qa (.ex c,b):=if_pos rfl
variable{w:Str}
def a8f{x:Str}{s:q8}(h:xH b x s=Qc)(e:bN b.dn.length=Qc):bH b [.str w,.str x,s]=Qa (.ok s,behind b w x s):=by refine fU rfl λa=>?_;show sF a (rM [.adr a,.val<|.str w,.val<|.str x,.val s] [(a,b)])=_;have c:∀b:BS,vw [(a,b)] [.adr a,.val<|.str w,.val<|.str x,.val s]=[.ro (Qa a) b,.val<|.str w,.val<|.str x,.val s]:=λb=>vwS rfl;unfold rM;rw[dQ<|c1X (u:=Qd) (d:=.tuple [.str w,.str x,(bSh b x).getD .none,s]) rfl cU (by rw[c];rfl) e,dL];rw[dQ<|c1H rfl cU,dL];show sF a (fR (a2P<|gA a1p 0<|aB (var 2)<|aB (var 3) aG) (upS<|retS<|var 3) [.adr a,.val<|.str w,.val<|.str x,.val s] [(a,#[b.sh,b.dn++[.tuple [.str w,.str x,(bSh b x).getD .none,s]],[]])])=_;have f:=c6C (b:=#[b.sh,b.dn++[.tuple [.str w,.str x,(bSh b x).getD .none,s]],[]]) (x:=x) (s:=s) h;rw[dQ<|a0V<|gK (a:=a) (O:=[.str x,s]) rfl cU (by rw[c];rfl) f,dL];rw[sN (c _) (o:=.rt s) rfl];exact a4g
def a4R{x:Str}{s:q8}(c:bC [.str x]=Qa (.ok<|.bool Qc))(h:bSh b x=Qa s):aJ b [.str x]=Qa (.ok s):=by
 refine a3d rfl ?_;show lE [.ro Qb b,.val<|.str x]=_;unfold lE;have a:dO (.inr x) (bD b)=Qa s:=h;have t:pW [.ro Qb b,.val<|.str x]=Qa (.ok Qd):=by show orT _ _ _=_;unfold orT;rw[show gS (gI<|aS bC<|aB (var 1) aG) [.ro Qb b,.val<|.str x]=Qa (.ok Qd)by unfold gS gI;rw[bB (O:=[.str x]) rfl c];rfl];show(Qa (Re.ok<|!(dO (.inr x)<|bD b).isSome):Mm Bool)=_;rw[a];rfl
 rw[aI (ρ':=[.ro Qb b,.val<|.str x]) (by rw[dY,t];rfl),cE];show bns (lft<|dO (.inr x)<|bD b) _ _=_;rw[a];rfl
def a9v{n:q8}(h:bC [n]=Qa (.ok<|.bool Qd)\/∃x,n=.str x/\bC [.str x]=Qa (.ok<|.bool Qc)/\bSh b x=Qb):aJ b [n]=Qa (.ex "NoSheet"):=by
 refine b9C (Z:=[.ro Qb b,.val n]) rfl ?_;show lE [.ro Qb b,.val n]=_;have t:pW [.ro Qb b,.val n]=Qa (.ok Qc):=by
  show orT _ _ _=_;unfold orT;obtain h|⟨x,rfl,c,a⟩:=h;.rw[show gS (gI<|aS bC<|aB (var 1) aG) [.ro Qb b,.val n]=Qa (.ok Qc)by unfold gS gI;rw[bB (O:=[n]) rfl h];rfl];rfl
  .rw[show gS (gI<|aS bC<|aB (var 1) aG) [.ro Qb b,.val<|.str x]=Qa (.ok Qd)by unfold gS gI;rw[bB (O:=[.str x]) rfl c];rfl];have a:dO (.inr x) (bD b)=none:=a;show(Qa (Re.ok<|!(dO (.inr x)<|bD b).isSome):Mm Bool)=_;rw[a];rfl
 exact xR (by rw[dY,t];rfl)
def did(b:BS)(w x:Str)(r:Re q8):Re q8×BS:=match r with|.ok v=>(.ok v,behind b w x v)|.ex c=>(.ex c,b)
def a2V(b:BS)(x:Str)(r:Re q8):Bool:=bN b.dn.length&&(match r with|.ok v=>xH b x v|.ex _=>Qc)
variable{es:List Ent}
def a0Z{x:Str}(g:vw [(a,b)] es=es)(i:lB es=Qc)(f:fe (.ro (Qa a) b::.val (.str x)::es)=Qa r)(e:a2V b x r=Qc):sF a (a0h (gA bH 0<|aB (cst<|.str w)<|aB (var 1)<|aB fe aG) (.adr a::.val (.str x)::es) [(a,b)])=Qa (did b w x r):=by unfold a2V at e;rw[qD]at e;have d:vw [(a,b)] (.adr a::.val (.str x)::es)=.ro (Qa a) b::.val (.str x)::es:=vwS (by show Ent.val (.str x)::vw _ es=_;rw[g]);cases r with|ok v=>rw[tE<|gK (a:=a) (O:=[.str w,.str x,v]) rfl cU (by rw[d,bW,b3s,bG,bW];show bnd (bnd (aB fe aG _) _) _=_;rw[bW,f];rfl) (a8f e.2 e.1) (show lB (.adr a::.val (.str x)::es)=Qc from i),dL];exact a4g|ex c=>rw[b2A<|a9A (a:=a) (c:=c) rfl cU<|by rw[d,bW,b3s,bG,bW];show bnd (bnd (aB fe aG _) _) _=_;rw[bW,f];rfl];exact b0Z
def a0Y{n:q8}(e:vw [(a,b)] es=es)(f:fe (.ro (Qa a) b::.val n::es)=Qa (.ex c)):sF a (a0h (gA bH 0<|aB (cst<|.str w)<|aB (var 1)<|aB fe aG) (.adr a::.val n::es) [(a,b)])=Qa (.ex c,b):=by have d:vw [(a,b)] (.adr a::.val n::es)=.ro (Qa a) b::.val n::es:=vwS (by show Ent.val n::vw _ es=_;rw[e]);rw[b2A<|a9A (a:=a) (c:=c) rfl cU<|by rw[d,bW,b3s,bG,bW];show bnd (bnd (aB fe aG _) _) _=_;rw[bW,f];rfl];exact b0Z
section
variable{x:Str}{n l t u s o:q8}
def c6F(c:aJ b [.str x]=Qa (.ok s))(e:iP [s,l,t,u]=Qa r)(d:a2V b x r=Qc):yI b [.str x,l,t,u]=Qa (did b "add" x r):=fU rfl λa=>a0Z (es:=[.val l,.val t,.val u]) rfl rfl (eL (O:=[s,l,t,u]) (by rw[bW];show bnd (aJ b [.str x]) _=_;rw[c];rfl) e) d
def c3W(d:aJ b [n]=Qa (.ex c)):yI b [n,l,t,u]=Qa (.ex c,b):=fU rfl λa=>a0Y (es:=[.val l,.val t,.val u]) rfl (by show bnd (bnd (aJ b [n]) _) _=_;rw[d];rfl)
def c4K(c:aJ b [.str x]=Qa (.ok s))(e:eV [s,l]=Qa r)(d:a2V b x r=Qc):sL b [.str x,l]=Qa (did b "drop" x r):=fU rfl λa=>a0Z (es:=[.val l]) rfl rfl (eL (O:=[s,l]) (by rw[bW];show bnd (aJ b [.str x]) _=_;rw[c];rfl) e) d
def c0r(d:aJ b [n]=Qa (.ex c)):sL b [n,l]=Qa (.ex c,b):=fU rfl λa=>a0Y (es:=[.val l]) rfl (by show bnd (bnd (aJ b [n]) _) _=_;rw[d];rfl)
def c1f(c:aJ b [.str x]=Qa (.ok s))(e:pA [s,l]=Qa r)(d:a2V b x r=Qc):oC b [.str x,l]=Qa (did b "shift" x r):=fU rfl λa=>a0Z (es:=[.val l]) rfl rfl (eL (O:=[s,l]) (by rw[bW];show bnd (aJ b [.str x]) _=_;rw[c];rfl) e) d
def b6P(d:aJ b [n]=Qa (.ex c)):oC b [n,l]=Qa (.ex c,b):=fU rfl λa=>a0Y (es:=[.val l]) rfl (by show bnd (bnd (aJ b [n]) _) _=_;rw[d];rfl)
def c1i(c:aJ b [.str x]=Qa (.ok s))(d:aJ b [l]=Qa (.ok o))(f:yH [s,o]=Qa r)(e:a2V b x r=Qc):mD b [.str x,l]=Qa (did b "merge" x r):=fU rfl λa=>a0Z (es:=[.val l]) rfl rfl (eL (O:=[s,o]) (by rw[bW];show bnd (aJ b [.str x]) _=_;rw[c,bG];rw[bW];show bnd (bnd (aJ b [l]) _) _=_;rw[d];rfl) f) e
def b6Q(d:aJ b [n]=Qa (.ex c)):mD b [n,l]=Qa (.ex c,b):=fU rfl λa=>a0Y (es:=[.val l]) rfl (by show bnd (bnd (aJ b [n]) _) _=_;rw[d];rfl)
def b4n(d:aJ b [n]=Qa (.ok s))(e:aJ b [l]=Qa (.ex c)):mD b [n,l]=Qa (.ex c,b):=fU rfl λa=>a0Y (es:=[.val l]) rfl (by show bnd (bnd (aJ b [n]) _) _=_;rw[d,bG];show bnd (bnd (bnd (aJ b [l]) _) _) _=_;rw[e];rfl)
def c6D(i:bC [.str x]=Qa (.ok<|.bool Qc))(g:cR [s]=Qa (.ok<|.bool Qc))(j:xH b x s=Qc)(f:bN b.dn.length=Qc):a1q b [.str x,s]=Qa (.ok<|.bool (bSh b x).isSome,behind b "lay" x s):=by
 refine fU rfl λa=>?_;show sF a (a8c [.adr a,.val<|.str x,.val s,.no] [(a,b)])=_;unfold a8c;have e:vw [(a,b)] [.adr a,.val<|.str x,.val s,.no]=[.ro (Qa a) b,.val<|.str x,.val s,.no]:=vwS rfl;have t:a8L [.ro (Qa a) b,.val<|.str x,.val s,.no]=Qa (.ok Qd):=by show orT _ _ _=_;unfold orT;rw[show gS (gI<|aS bC<|aB (var 1) aG) [.ro (Qa a) b,.val<|.str x,.val s,.no]=Qa (.ok Qd)by unfold gS gI;rw[bB (O:=[.str x]) rfl i];rfl];unfold gS gI;rw[bB (O:=[s]) rfl g];rfl
 rw[dQ<|sN e (o:=.nx [.ro (Qa a) b,.val<|.str x,.val s,.no])<|by rw[dY,t];rfl];show sF a (fR _ _ [.adr a,.val<|.str x,.val s,.no] _)=_;rw[dQ<|sN e (o:=.nx [.ro (Qa a) b,.val<|.str x,.val s,.val<|.bool (bSh b x).isSome]) rfl];show sF a (fR _ _ [.adr a,.val<|.str x,.val s,.val<|.bool (bSh b x).isSome] _)=_;have c:∀d:BS,vw [(a,d)] [.adr a,.val<|.str x,.val s,.val<|.bool (bSh b x).isSome]=[.ro (Qa a) d,.val<|.str x,.val s,.val<|.bool (bSh b x).isSome]:=λd=>vwS rfl;rw[dQ<|a0V<|gK (a:=a) (O:=[.str "lay",.str x,s]) rfl cU (by rw[c];rfl)<|a8f j f,dL,sN (c _) (o:=.rt<|.bool (bSh b x).isSome) rfl];exact a4g
def c4G(g:aJ b [.str x]=Qa (.ok s))(i:xH b x .none=Qc)(e:bN b.dn.length=Qc):sK b [.str x]=Qa (.ok s,behind b "take" x .none):=by refine fU rfl λa=>?_;show sF a (xA [.adr a,.val<|.str x,.no] [(a,b)])=_;unfold xA;have f:vw [(a,b)] [.adr a,.val<|.str x,.no]=[.ro (Qa a) b,.val<|.str x,.no]:=vwS rfl;rw[dQ<|sN f (o:=.nx [.ro (Qa a) b,.val<|.str x,.val s])<|by rw[dW];show bns (aJ b [.str x]) _ _=_;rw[g];rfl];show sF a (fR _ _ [.adr a,.val<|.str x,.val s] _)=_;have c:∀d:BS,vw [(a,d)] [.adr a,.val<|.str x,.val s]=[.ro (Qa a) d,.val<|.str x,.val s]:=λd=>vwS rfl;rw[dQ<|a0V<|gK (a:=a) (O:=[.str "take",.str x,.none]) rfl cU (by rw[c];rfl)<|a8f i e,dL,sN (c _) (o:=.rt s) rfl];exact a4g
def c0q(e:aJ b [n]=Qa (.ex c)):sK b [n]=Qa (.ex c,b):=by refine fU rfl λa=>?_;show sF a (xA [.adr a,.val n,.no] [(a,b)])=_;unfold xA;have d:vw [(a,b)] [.adr a,.val n,.no]=[.ro (Qa a) b,.val n,.no]:=vwS rfl;rw[b9y<|sN d (o:=.xc c [.ro (Qa a) b,.val n,.no])<|by rw[dW];show bns (aJ b [n]) _ _=_;rw[e];rfl];exact b0Z
def a4S(h:a8A (bD b)=Qa ns)(a:ns.length<64):mC b []=Qa (.ok<|.list<|(fG ns).map .str):=by refine a3d rfl ?_;unfold a2c;rw[cE];show bns (lft<|b2s [.dict<|bD b]) _ _=_;unfold b2s;dsimp only;rw[h];dsimp only;rw[if_pos a];rfl
end
structure Gs(s:List Mt):Prop where
 nr:NR s
 ok:∀m∈s,jN m.1=Qc
 tm:∀m∈s,tmB m.2.1 m.2.2=Qc
 few:s.length<=16
variable{s:List Mt}
def SheetOk.gs(S:SheetOk s):Gs s:=#[#[S.nodup,S.pw],S.name_ok,λm a=>a0z.mpr (by have:=S.times m a;lia),by have:=S.few;exact Q2 ‹_› rfl]
abbrev Ou:=Str ⊕ List Mt
def reO:Ou->Re q8|.inl c=>.ex c|.inr s=>.ok<|dS s
def a2u(s:List Mt)(l:Str)(t u:Int):Ou:=if l∈s.map (·.1)then .inl "Taken"else if tmB t u=Qc then(if s.length<16 then .inr (a4i<|s++[(l,t,u)])else .inl "TooMany")else .inl "NoTime"
noncomputable def sH(s:List Mt)(l:Str):Ou:=if l∈s.map (·.1)then .inr (s.filter λm=>!decide (m.1=l))else .inl "NoMeeting"
noncomputable def sh(c:Int)(m:Mt):Mt:=(m.1,m.2.1+c,m.2.2+c)
def lR(s:List Mt)(c:Int):Ou:=if(s.all λm=>tmB (sh c m).2.1 (sh c m).2.2)=Qc then .inr (s.map<|sh c)else .inl "NoTime"
def lW(s o:List Mt):Ou:=if eJ s o=[]then(if(gZ s o).length<=16 then .inr (a4i<|gZ s o)else .inl "TooMany")else .inl "Taken"
variable{t u:Int}
def a4G{l:Str}(nd:(s.map (·.1)).Nodup)(h:l∉s.map (·.1)):((s++[(l,t,u)]).map (·.1)).Nodup:=by rw[jD,jc];exact#[nd,by simp,λa d b c e=>by
  subst e;have:a=l:=by simpa using c
  subst this;exact h d]
def ifT{t:TF}{g h:SF}(a:t Z=Qa (.ok Qc))(b:f Z=Qa (.xc c ρ')):bI (ifS t f g) h Z=Qa (.xc c ρ'):=xR (by rwa[dY,a5e a])
def c4M(S:Gs s) l t u:iP [dS s,.str l,.int t,.int u]=Qa (reO<|a2u s l t u):=by
 have i:=S.few;have a:rZ [.val<|dS s,.val<|.str l,.val<|.int t,.val<|.int u]=Qa (.ok (decide (l∈s.map (·.1)))):=fF (x:=.str l) (y:=.list ((s.map (·.1)).map .str)) rfl (bB (O:=[dS s]) rfl<|a0W s<|by exact Q2 ‹_› rfl)<|a7U _ _;unfold a2u;by_cases b:l∈s.map (·.1);.rw[if_pos b];rw[decide_eq_true b]at a;refine iL (Z:=[.val<|dS s,.val<|.str l,.val<|.int t,.val<|.int u]) rfl ?_;exact ifT a rfl
 rw[if_neg b];rw[decide_eq_false b]at a;by_cases d:tmB t u=Qc
 .rw[if_pos d];have e:dE [.val<|dS s,.val<|.str l,.val<|.int t,.val<|.int u]=(bI (ifS lN (eW "TooMany") eM)<|retS<|eS uK<|aB (eS a8Q<|aB (op2 aY (var 0)<|iR<|aB (iR<|aB (var 1)<|aB (var 2)<|aB (var 3) aG) aG) aG) aG) [.val<|dS s,.val<|.str l,.val<|.int t,.val<|.int u]:=by unfold dE;rw[ifF a,aI (ρ':=[.val<|dS s,.val<|.str l,.val<|.int t,.val<|.int u])<|by show bns (fC aT (aB (var 2)<|aB (var 3) aG) _) _ _=_;rw[eL (O:=[.int t,.int u]) rfl<|b8c d];rfl]
  have c:lN [.val<|dS s,.val<|.str l,.val<|.int t,.val<|.int u]=Qa (.ok<|decide ((16:Int)<=(s.length:Nat))):=fF (x:=.int (s.length:Nat)) (y:=.int 16) (mB (O:=[dS s]) rfl<|by simp) rfl<|c6z ..;by_cases f:s.length<16
  .rw[if_pos f];rw[decide_eq_false<|by lia]at c;refine nU rfl ?_;show dE [.val<|dS s,.val<|.str l,.val<|.int t,.val<|.int u]=_;rw[e,ifF c];have nd:=a4G (t:=t) (u:=u) S.nr.nd b;have j:op2 aY (var 0) (iR<|aB (iR<|aB (var 1)<|aB (var 2)<|aB (var 3) aG) aG) [.val<|dS s,.val<|.str l,.val<|.int t,.val<|.int u]=Qa (.ok<|.tuple<|(s++[(l,t,u)]).map dM):=by
    have g:s.length+1<=100000:=by exact Q2 ‹_› rfl
    simp[g]
   rw[cE,a2r,bW,a2r,bW,j];simp only[bG,a2v,a3E (c2Z<|s++[(l,t,u)]) (by rw[qF,qY];simp only[qO,jj];exact Q0 ‹_› rfl),a4q,a8P nd,a5R,oY]
  .rw[if_neg f];rw[decide_eq_true<|by lia]at c;refine iL (Z:=[.val<|dS s,.val<|.str l,.val<|.int t,.val<|.int u]) rfl ?_;show dE [.val<|dS s,.val<|.str l,.val<|.int t,.val<|.int u]=_;rw[e];exact ifT c rfl
 .rw[if_neg d];refine iL (Z:=[.val<|dS s,.val<|.str l,.val<|.int t,.val<|.int u]) rfl ?_;show dE [.val<|dS s,.val<|.str l,.val<|.int t,.val<|.int u]=_;unfold dE;rw[ifF a];refine xR ?_;show bns (fC aT (aB (var 2)<|aB (var 3) aG) _) _ _=_;rw[eL (O:=[.int t,.int u]) rfl<|b2Q<|by simpa using d];rfl
def c1k(S:Gs s) l:eV [dS s,.str l]=Qa (reO<|sH s l):=by
 have b:=S.few;unfold sH;by_cases h:l∈s.map (·.1);.rw[if_pos h];let⟨m,a,rfl⟩:=qR.mp h;exact b1G S.nr.nd a (by exact Q0 ‹_› rfl)
 .rw[if_neg h];refine iL (Z:=[.val<|dS s,.val<|.str l,.no]) rfl ?_;refine xR ?_;rw[dW,eL (O:=[dS s,.str l]) rfl<|b6R λm a e=>h<|qR.mpr #[m,a,e]];rfl
def b4W x b e:rW [.str x,.int b,.int e]=Qa (if tmB b e=Qc then .ok (dM (x,b,e))else .ex "NoTime"):=by
 by_cases h:tmB b e=Qc;.rw[if_pos h];refine nU rfl ?_;show bI (a4P<|fC aT<|aB (var 1)<|aB (var 2) aG) _ [.val<|.str x,.val<|.int b,.val<|.int e]=_;rw[aI (ρ':=[.val<|.str x,.val<|.int b,.val<|.int e])<|by show bns (fC aT (aB (var 1)<|aB (var 2) aG) _) _ _=_;rw[eL (O:=[.int b,.int e]) rfl<|b8c h];rfl];rfl
 .rw[if_neg h];refine iL (Z:=[.val<|.str x,.val<|.int b,.val<|.int e]) rfl ?_;show bI (a4P<|fC aT<|aB (var 1)<|aB (var 2) aG) _ [.val<|.str x,.val<|.int b,.val<|.int e]=_;unfold bI;have a:a4P (fC aT<|aB (var 1)<|aB (var 2) aG) [.val<|.str x,.val<|.int b,.val<|.int e]=Qa (.xc "NoTime" [.val<|.str x,.val<|.int b,.val<|.int e]):=by show bns (fC aT (aB (var 1)<|aB (var 2) aG) _) _ _=_;rw[eL (O:=[.int b,.int e]) rfl<|b2Q<|by simpa using h];rfl
  rw[a]
theorem a9D{t:Tg}{ρb:List Ent}{fe:EF}(ρx:Mt->List Ent) f(d:∀m,tgD t ρb (dM m)=Qa (ρx m))(e:∀m,fe (ρx m)=Qa (if tmB (f m).2.1 (f m).2.2=Qc then .ok (dM<|f m)else .ex "NoTime")):∀s:List Mt,lC t ρb ttT fe (s.map dM)=Qa (if(s.all λm=>tmB (f m).2.1 (f m).2.2)=Qc then .ok ((s.map f).map dM)else .ex "NoTime")
 |[]=>rfl|m::s=>by
  rw[qE,lC,d];show bnd (fe<|ρx m) _=_;rw[e,a9D ρx f d e s,zi];by_cases b:tmB (f m).2.1 (f m).2.2=Qc
  .rw[if_pos b,bG,b,Bool.true_and];by_cases a:(s.all λm=>tmB (f m).2.1 (f m).2.2)=Qc;.rw[if_pos a,if_pos a];rfl
   .rw[if_neg a,if_neg a];rfl
  .have c:tmB (f m).2.1 (f m).2.2=false:=by simpa using b
   rw[if_neg b,c,Bool.false_and];rfl
def b4T s c(a:s.length<=1000):pA [dS s,.int c]=Qa (if(s.all λm=>tmB (sh c m).2.1 (sh c m).2.2)=Qc then .ok (dS<|s.map<|sh c)else .ex "NoTime"):=by
 refine b9A (fa:=eS uK<|aB pP aG) (Z:=[.val<|dS s,.val<|.int c]) rfl rfl ?_;have k:pP [.val<|dS s,.val<|.int c]=Qa (if(s.all λm=>tmB (sh c m).2.1 (sh c m).2.2)=Qc then .ok (.list<|(s.map<|sh c).map dM)else .ex "NoTime"):=by
  show bnd (Qa<|.ok<|s.map dM) _=_;rw[bG,if_pos<|show bN (s.map dM).length=Qc by rw[qF];exact decide_eq_true<|by exact Q2 ‹_› rfl];rw[a9D (λm=>[.val<|.str m.1,.val<|.int m.2.1,.val<|.int m.2.2,.val<|.int c]) (sh c) (λm=>rfl) (λm=>eL (O:=[.str m.1,.int<|m.2.1+c,.int<|m.2.2+c]) (aM rfl<|aM (eL (O:=[.int m.2.1,.int c]) rfl<|a9Z _ _)<|aM (eL (O:=[.int m.2.2,.int c]) rfl<|a9Z _ _) rfl)<|b4W m.1 (m.2.1+c)<|m.2.2+c) s];by_cases h:(s.all λm=>tmB (sh c m).2.1 (sh c m).2.2)=Qc;.rw[if_pos h,if_pos h];rfl
  .rw[if_neg h,if_neg h];rfl
 show bnd (bnd (pP _) _) _=_;rw[k];by_cases h:(s.all λm=>tmB (sh c m).2.1 (sh c m).2.2)=Qc;.rw[if_pos h,if_pos h];rfl
 .rw[if_neg h,if_neg h];rfl
def b8a(S:Gs s) c:pA [dS s,.int c]=Qa (reO<|lR s c):=by have a:=S.few;rw[b4T s c<|by exact Q2 ‹_› rfl];unfold lR;split<;>rfl
def a9w{m:Mt}{l:List Mt}(f:jN m.1=Qc)(c:∀x∈l,jN x.1=Qc):a7C (dM m) (dS l)=Qa (!decide (m∈l)):=by
 show(a6H (dM m)<|l.map dM).map _=_;unfold a6H;rw[if_pos<|by rw[qD,qu];exact#[c2f f,λd b=>by let⟨x,a,rfl⟩:=qR.mp b;exact c2f<|c x a]];have:((l.map dM).any λd=>ji d<|dM m)=decide (m∈l):=by
  rw[List.any_map,kq,List.any_eq_true,decide_eq_true_eq];constructor;.rintro⟨x,a,e⟩;have e:ji (dM x) (dM m)=true:=e;rw[b7T,decide_eq_true_eq]at e;rwa[<-e]
  ·exactλh=>#[m,h,by show ji (dM m) (dM m)=Qc;rw[b7T];simp]
 rw[this];rfl
def b6T x(ns:T0q):a7C (.str x) (.list<|ns.map .str)=Qa (!decide (x∈ns)):=by unfold a7C;rw[a7U];rfl
structure RwOk(s:List Mt):Prop where
 nr:NR s
 ok:∀m∈s,jN m.1=Qc
 few:s.length<=40
def Gs.rw(S:Gs s):RwOk s:=#[S.nr,S.ok,by have:=S.few;exact Q2 ‹_› rfl]
variable{o:List Mt}
def b3i(a:RwOk s)(b:RwOk o):mM [dS s,dS o]=Qa (.ok<|.list<|(yF s o).map .str):=by
 have d:=a.few;have c:=b.few;refine cN rfl ?_;show retS oU [.val<|dS s,.val<|dS o]=_;have k:oU [.val<|dS s,.val<|dS o]=Qa (.ok<|.list<|(yF s o).map .str):=sI qb (λx=>[.val<|.str x,.val<|dS o]) (λx=>!decide (x∈o.map (·.1))) qb (s.map (·.1)) (nT (bB (O:=[dS s]) rfl<|a0W s<|by omega) rfl) (by rw[qF];omega) (λx _=>rfl)
   (λx _=>fF (x:=.str x) (y:=.list ((o.map (·.1)).map .str)) rfl (bB (O:=[dS o]) rfl<|a0W o<|by exact Q2 ‹_› rfl)<|b6T x _) (λx _ _=>rfl);rw[cE,k];rfl
def b7Y(a:RwOk s)(b:RwOk o):lK [dS s,dS o]=Qa (.ok<|.tuple [.list<|(yF s o).map .str,.list<|(yF o s).map .str,.list<|(eJ s o).map .str]):=by
 have f:=a.few;have e:=b.few;refine cN rfl ?_;show oW [.val<|dS s,.val<|dS o,.no]=_;unfold oW;have k:tW [.val<|dS s,.val<|dS o,.no]=Qa (.ok<|.list<|(eJ s o).map .str):=by
  unfold eJ;rw[qZ];have c:=sI (t:=.nm 0) (cap:=[Qb,Qa 1]) (fi:=nD<|var 0) (ft:=b2d (eG a7C (var 0)<|var 1)<|eG inX (op2 ixD (var 0)<|cst<|.int 0)<|aS gN<|aB (var 1) aG) (fe:=op2 ixD (var 0)<|cst<|.int 0) (Z:=[.val<|dS s,.val<|dS o,.no]) dM (λm=>[.val<|dM m,.val<|dS o]) (λr=>!decide (r∈o)&&decide (r.1∈o.map (·.1))) (λm=>.str m.1) s rfl (by exact Q2 ‹_› rfl) (λm _=>rfl) (λm d=>?_) (λm _ _=>rfl);.exact c
  rw[b2c,fF (x:=dM m) (y:=dS o) rfl rfl<|a9w (a.ok m d) b.ok,bG];rw[fF (x:=.str m.1) (y:=.list ((o.map (·.1)).map .str)) rfl (bB (O:=[dS o]) rfl<|a0W o<|by exact Q2 ‹_› rfl)<|a7U m.1 _];exact c0Q _ _
 rw[aI (ρ':=[.val<|dS s,.val<|dS o,.val<|.list<|(eJ s o).map .str])<|by rw[dW,k];rfl];rw[cE,oE,aM (bB (O:=[dS s,dS o]) rfl<|b3i a b)<|aM (bB (O:=[dS o,dS s]) rfl<|b3i b a) rfl];rfl
def b8g(i:RwOk s)(j:RwOk o):yH [dS s,dS o]=Qa (reO<|lW s o):=by
 have A:=i.few;have z:=j.few;have f:a3B [.val<|dS s,.val<|dS o,.no]=Qa (.ok<|!(eJ s o).isEmpty):=by show gI (op2 ixD (aS lK<|aB (var 0)<|aB (var 1) aG)<|cst<|.int 2) _=_;rw[b0A,nG (x:=.tuple [.list<|(yF s o).map .str,.list<|(yF o s).map .str,.list<|(eJ s o).map .str]) (y:=.int 2) (bB (O:=[dS s,dS o]) rfl<|b7Y i j) rfl rfl,bG];cases eJ s o<;>rfl
 unfold lW;by_cases b:eJ s o=[]
 .rw[if_pos b];rw[b]at f;have k:a4x [.val<|dS s,.val<|dS o,.no]=Qa (.ok<|.list<|(o.filter λr=>!decide (r∈s)).map dM):=sI dM (λm=>[.val<|dM m,.val<|dS s]) (λr=>!decide (r∈s)) dM o rfl (by exact Q2 ‹_› rfl) (λm _=>rfl) (λm t=>fF (x:=dM m) (y:=dS s) rfl rfl<|a9w (j.ok m t) i.ok) (λm _ _=>rfl);have w:(gZ s o).length<=80:=by unfold gZ;rw[qY];have:=jZ (λr=>!decide (r∈s)) o;lia
  have a:aY (dS s) (dS<|o.filter λr=>!decide (r∈s))=Qa (dS<|gZ s o):=by unfold gZ;rw[c5m,if_pos (by rw[qF,qF];have:=jZ (λr=>!decide (r∈s)) o;lia),<-jD]
  have p:oA [.val<|dS s,.val<|dS o,.no]=(bI (ifS yZ (eW "TooMany") eM)<|retS<|eS uK<|aB (eS a8Q<|aB (var 2) aG) aG) [.val<|dS s,.val<|dS o,.val<|dS<|gZ s o]:=by unfold oA;rw[ifF f,aI (ρ':=[.val<|dS s,.val<|dS o,.val<|dS<|gZ s o])<|by rw[dW,nG (x:=dS s) (y:=dS<|o.filter λr=>!decide (r∈s)) rfl (mB (O:=[.list<|(o.filter λr=>!decide (r∈s)).map dM]) (aM k rfl)<|a5R _) a];rfl]
  have e:yZ [.val<|dS s,.val<|dS o,.val<|dS<|gZ s o]=Qa (.ok<|decide ((16:Int)<((gZ s o).length:Nat))):=fF (x:=.int ((gZ s o).length:Nat)) (y:=.int 16) (mB (O:=[dS<|gZ s o]) rfl<|by simp) rfl<|c6w ..;by_cases c:(gZ s o).length<=16;.rw[if_pos c];rw[decide_eq_false<|by lia]at e;refine nU rfl ?_;show oA [.val<|dS s,.val<|dS o,.no]=_;rw[p,ifF e];have nd:=b0C i.nr j.nr b;have q:a8Q [.tuple<|(gZ s o).map dM]=Qa (.list<|a2W<|(gZ s o).map dM):=a3E (k:=Qd) (g:=[Qc,Qc]) (λd u=>by let⟨m,_,rfl⟩:=qR.mp u;rfl) (by rw[qF];exact Q0 ‹_› rfl);rw[cE,mB (O:=[.list<|(a4i<|gZ s o).map dM]) (aM (mB (O:=[dS<|gZ s o]) rfl<|by rw[q,a8P nd]) rfl)<|a5R _];rfl
  .rw[if_neg c];rw[decide_eq_true<|by lia]at e;refine iL (Z:=[.val<|dS s,.val<|dS o,.val<|dS<|gZ s o]) rfl ?_;show oA [.val<|dS s,.val<|dS o,.no]=_;rw[p];exact ifT e rfl
 .rw[if_neg b];have v:(!(eJ s o).isEmpty)=true:=by cases h:eJ s o with|nil=>exact absurd h b|cons _ _=>rfl
  rw[v]at f;refine iL (Z:=[.val<|dS s,.val<|dS o,.no]) rfl ?_;exact ifT f rfl
def b6F{u:List Mt}(nd:(u.map (·.1)).Nodup)(h:∀m∈u,jN m.1=Qc/\tmB m.2.1 m.2.2=Qc)(b:u.length<=16):Gs (a4i u):=#[b1a nd,λm a=>(h m<|(a0L nd m).mp a).1,λm a=>(h m<|(a0L nd m).mp a).2,by rwa[(a9o nd).length_eq]]
def c2a{l:Str}(S:Gs s)(b:jN l=Qc)(h:a2u s l t u=.inr s'):Gs s':=by
 unfold a2u at h;split at h;.cases h
 .rename_i d;split at h
  .rename_i c;split at h
   .rename_i e;cases h;refine b6F (a4G S.nr.nd d) (λm a=>?_) (by rw[qY];simp only[qO,jj];assumption);obtain a|a:=qU.mp a;.exact#[S.ok m a,S.tm m a]
    .obtain rfl:m=(l,t,u):=by simpa using a
     exact#[b,c]
   .cases h
  .cases h
def b8p{l:Str}(S:Gs s)(h:sH s l=.inr s'):Gs s':=by
 unfold sH at h;split at h;.cases h;exact#[S.nr.filter _,λm a=>S.ok m (jA.mp a).1,λm a=>S.tm m (jA.mp a).1,qk (jZ _ _) S.few]
 .cases h
def b3U{c:Int}(S:Gs s)(h:lR s c=.inr s'):Gs s':=by
 unfold lR at h;split at h
 .rename_i e;cases h;have d:(s.map<|sh c).map (·.1)=s.map (·.1):=by rw[qZ];rfl
  refine#[#[by rw[d];exact S.nr.nd,by rw[d];exact S.nr.pw],λm b=>?_,λm b=>?_,by rw[qF];exact S.few];.let⟨x,a,rfl⟩:=qR.mp b;exact S.ok x a
  .let⟨x,a,rfl⟩:=qR.mp b;exact qu.mp e x a
 .cases h
def b4B(S:Gs s)(b:Gs o)(h:lW s o=.inr s'):Gs s':=by
 unfold lW at h;split at h
 .rename_i d;split at h
  .rename_i c;cases h;refine b6F (b0C S.nr b.nr d) (λm a=>?_) c;obtain a|a:=b2T.mp a;.exact#[S.ok m a,S.tm m a]
   .exact#[b.ok m a,b.tm m a]
  .cases h
 .cases h
end L2.L3
variable{ou:L2.L3.Ou}
namespace L2.TB
open PySem PySem.SetTable L2.SX
def run(mask:Nat)(h:Int):Nat->Nat×Nat|0=>(bits h%(mask+1),bits h)|k+1=>leap mask (run mask h k).1 (run mask h k).2
section
variable{mask:Nat}{h:Int}
def more(mask:Nat)(h:Int)(k:Nat):Nat:=runEnd mask (run mask h k).1-(run mask h k).1
end
variable{t:j8}
variable{R:Nat}
section
variable{h:Int}{hashAt:Nat->Int}{K:Nat}
end
section
variable{mask:Nat}{h:Int}
def own(owner:Array (Option Nat))(j:Nat):Prop:=∃k,owner.getD j (Qa 0)=Qa k
end
variable{hs:List Int}
section
variable{h:Int}{K:Nat}
end
section
variable{mask:Nat}{owner:Array (Option Nat)}{h:Int}
end
end L2.TB
namespace L2.TB
open PySem PySem.SetTable L2.SX PyProof.Rows
section
variable{K:Type}[DecidableEq K]
variable{knd:HeapKind prog w K}{ks:List K}
end
section
variable{K:Type}[DecidableEq K]{knd:HeapKind prog w K}{ks:List K}
end
section
variable{K:Type}[DecidableEq K]{knd:HeapKind prog w K}{R:Result->Shared->Prop}
variable{wr:T0o}{G:Array uh->Array uh->Prop}{n:Nat}{P:Nat->Value->Prop}{St:Nat->Shared->Prop}
end
section
variable{K:Type}[DecidableEq K]{knd:HeapKind prog w K}
end
end L2.TB
namespace L2.HS
open PySem PyProof.Rows
noncomputable instance pyDec:DecidableEq q8:=λa b=>Classical.propDecidable (a=b)
end L2.HS
namespace L2.TB
open PySem PySem.SetTable L2.SX PyProof.Rows L2.HS
end L2.TB
namespace L2.TB
open PySem PySem.SetTable L2.SX PyProof.Rows L2.HS L2.L3
section
variable{S:Addr->Prop}
end
end L2.TB
namespace L2.L3
open PySem PySem.Spec PyProof.Rows L2.HS L2.TB
end L2.L3
namespace L2.L3
open PySem PySem.Spec PyProof.Rows
open Classical in noncomputable def mask(G H G2:Hp):Hp:=λb=>if G b=none/\((∃Y,H b=some (.lst Y))\/∃kvs,H b=some (.dK kvs))then none else G2 b
section
variable{cap:T0e}
end
section
variable{cap:T0e}
end
def c5p(kvs:List (Key×V))(o:HO):Prop:=o=.dK kvs\/∃ob,o=.frz ob (.dK kvs)
variable{o1:HO}
def a7u(h:Rd G a (.dK kvs))(b:c5p kvs o1){t:Addr}{u:HO}(hu:∀ob x,u≠.frz ob x)(r:Rd G t u):Rd (upd G a o1) t u:=by
 by_cases e:t=a
 .subst e;have q:u=.dK kvs:=by
   obtain h|⟨ob,h⟩:=h<;>obtain r|⟨c,r⟩:=r<;>rw[h]at r;.exact(qA r).symm
   .cases r
   .exact absurd (qA r).symm (hu _ _)
   .cases r;rfl
  subst q;obtain rfl|⟨ob,rfl⟩:=b;.exact .inl aK
  .exact .inr #[ob,aK]
 .unfold Rd;rwa[aF e]
section
variable{K:qB}
mutual theorem Rep.swap(h:Rd G a (.dK kvs))(h1:c5p kvs o1):∀{v:V}{d:q8},Rep K G v d->Rep K (upd G a o1) v d|_,_,.none=>.none|_,_,.bool b=>.bool b|_,_,.int i=>.int i|_,_,.str x=>.str x|_,_,.list q r=>.list (q.imp (λz=>a7u h h1 (λ_ _ y=>by cases y) z) id) (RepAll.swap h h1 r)|_,_,.tuple q r=>.tuple (q.imp (λz=>a7u h h1 (λ_ _ y=>by cases y) z) id) (RepAll.swap h h1 r)|_,_,.dict q e r=>.dict (a7u h h1 (λ_ _ y=>by cases y) q) e (RepAll.swap h h1 r)theorem RepAll.swap(h:Rd G a (.dK kvs))(h1:c5p kvs o1):∀{vs:List V}{O:T0l},RepAll K G vs O->RepAll K (upd G a o1) vs O|_,_,.nil=>.nil|_,_,.cons r t=>.cons (Rep.swap h h1 r) (RepAll.swap h h1 t)end
end
section
variable{cap:T0e}
end
open PySem.AutoSeq1(wpAny_loadPart')
section
variable{a:Expr}
end
end L2.L3
namespace L2.L3
open PySem PySem.Spec PyProof.Rows PySem.SeqAt Builtin
open AutoSeq1(wpAny_loadPart')
section
variable{x1:Nat}
end
end L2.L3
namespace L2.L3
open PySem PySem.Spec PyProof.Rows
abbrev a5Z:TF:=eG ltD (var 5)<|cst<|.int 3
abbrev a5X:TF:=eG eqD (var 5)<|cst<|.int 3
abbrev a5W:TF:=eG ltD (var 5)<|cst<|.int 6
abbrev a5V:TF:=eG eqD (var 5)<|cst<|.int 6
abbrev a5U:TF:=eG eqD (var 5)<|cst<|.int 7
def mU:SF:=(bI (dA 2<|nJ<|aB (cst<|.str "a")<|aB (cst<|.str "tuv")<|aB (cst<|.str "bcde")<|aB (cst<|.str "wxyz") aG)<|bI (dA 3<|nJ<|aB (cst<|.str "a")<|aB (cst<|.str "b")<|aB (cst<|.str "cc")<|aB (cst<|.str "fghi")<|aB (cst<|.str "jklm")<|aB (cst<|.str "nopq") aG)<|bI (a7e (.tp [4,5])<|iR<|aB (op2 ixD (var 2)<|aS bR<|aB (var 0)<|aB (var 1)<|aB (cst<|.int 4) aG)<|aB (aS bR<|aB (var 0)<|aB (op2 aY (var 1)<|cst<|.int 1)<|aB (cst<|.int 9) aG) aG)<|bI (ifS a5Z (retS<|iR<|aB (cst<|.str "lay")<|aB (var 4)<|aB (aS a2y<|aB (var 0)<|aB (op2 aY (var 1)<|cst<|.int 10)<|aB (cst<|.int 4) aG) aG) eM)<|bI (ifS a5X (retS<|iR<|aB (cst<|.str "take")<|aB (var 4) aG) eM)<|bI (a7e (.tp [6,7])<|iR<|aB (op2 ixD (var 3)<|aS bR<|aB (var 0)<|aB (op2 aY (var 1)<|cst<|.int 2)<|aB (cst<|.int 6) aG)<|aB (op2 b3M (aS bR<|aB (var 0)<|aB (op2 aY (var 1)<|cst<|.int 3)<|aB (cst<|.int 30) aG)<|cst<|.int 1) aG)<|bI (ifS a5W (retS<|iR<|aB (cst<|.str "add")<|aB (var 4)<|aB (var 6)<|aB (var 7)<|aB (op2 aY (var 7)<|aS bR<|aB (var 0)<|aB (op2 aY (var 1)<|cst<|.int 4)<|aB (cst<|.int 9) aG) aG) eM)<|bI (ifS a5V (retS<|iR<|aB (cst<|.str "drop")<|aB (var 4)<|aB (var 6) aG) eM)<|bI (ifS a5U (retS<|iR<|aB (cst<|.str "shift")<|aB (var 4)<|aB (op2 b3M (aS bR<|aB (var 0)<|aB (op2 aY (var 1)<|cst<|.int 5)<|aB (cst<|.int 41) aG)<|cst<|.int 12) aG) eM)<|retS<|iR<|aB (cst<|.str "merge")<|aB (var 4)<|aB (op2 ixD (var 2)<|aS bR<|aB (var 0)<|aB (op2 aY (var 1)<|cst<|.int 6)<|aB (cst<|.int 4) aG) aG)
def a1t:List q8->Mm q8:=lV 8 2 mU
abbrev b5O:OTF:=upT<|eG inX (op2 ixD (var 1)<|cst<|.int 0)<|iR<|aB (cst<|.str "lay")<|aB (cst<|.str "take") aG
abbrev a4t:OEF:=b1y (upT<|eG eqD (op2 ixD (var 1)<|cst<|.int 0)<|cst<|.str "lay") (gA a1q 0<|aB (op2 ixD (var 1)<|cst<|.int 1)<|aB (op2 ixD (var 1)<|cst<|.int 2) aG)<|gA sK 0<|aB (op2 ixD (var 1)<|cst<|.int 1) aG
abbrev b5N:OTF:=upT<|eG eqD (op2 ixD (var 1)<|cst<|.int 0)<|cst<|.str "add"
abbrev a9K:OEF:=gA yI 0<|aB (op2 ixD (var 1)<|cst<|.int 1)<|aB (op2 ixD (var 1)<|cst<|.int 2)<|aB (op2 ixD (var 1)<|cst<|.int 3)<|aB (op2 ixD (var 1)<|cst<|.int 4) aG
abbrev b5M:OTF:=upT<|eG eqD (op2 ixD (var 1)<|cst<|.int 0)<|cst<|.str "drop"
abbrev a9J:OEF:=gA sL 0<|aB (op2 ixD (var 1)<|cst<|.int 1)<|aB (op2 ixD (var 1)<|cst<|.int 2) aG
abbrev a4s:OEF:=b1y (upT<|eG eqD (op2 ixD (var 1)<|cst<|.int 0)<|cst<|.str "shift") (gA oC 0<|aB (op2 ixD (var 1)<|cst<|.int 1)<|aB (op2 ixD (var 1)<|cst<|.int 2) aG)<|gA mD 0<|aB (op2 ixD (var 1)<|cst<|.int 1)<|aB (op2 ixD (var 1)<|cst<|.int 2) aG
def a3p:OSF:=(fR (ifO b5O (a0h<|a2z cD cJ [Qa 0,Qa 1] a4t) b6U)<|fR (ifO b5N (a0h<|a2z cD cJ [Qa 0,Qa 1] a9K) b6U)<|fR (ifO b5M (a0h<|a2z cD cJ [Qa 0,Qa 1] a9J) b6U)<|a0h<|a2z cD cJ [Qa 0,Qa 1] a4s)
def a1s:BS->List q8->Option (Re q8×BS):=a0g 2 1 a3p
inductive Deed|lay(n:Str)(s:List Mt)|take(n:Str)|add(n l:Str)(t u:Int)|drop(n l:Str)|shift(n:Str)(c:Int)|merge(n o:Str)
def dD:Deed->q8|.lay n s=>.tuple [.str "lay",.str n,dS s]|.take n=>.tuple [.str "take",.str n]|.add n l t u=>.tuple [.str "add",.str n,.str l,.int t,.int u]|.drop n l=>.tuple [.str "drop",.str n,.str l]|.shift n c=>.tuple [.str "shift",.str n,.int c]|.merge n o=>.tuple [.str "merge",.str n,.str o]
def word(c:Str):Str:=if c="Taken"then"taken"else if c="NoTime"then"no time"else if c="TooMany"then"too many"else if c="NoMeeting"then"no meeting"else"no sheet"
abbrev Kn:=List<|Str×List Mt
abbrev enS(K:Kn):List (Key×q8):=K.map λp=>((.inr p.1:Key),dS p.2)
noncomputable def aZ(K:Kn)(x:Str):Option (List Mt):=(K.find? λp=>decide (p.1=x)).map (·.2)
theorem b1p x:∀K:Kn,dO (.inr x) ((enS K).map λp=>(hZ p.1,p.2))=(aZ K x).map dS
 |[]=>rfl|r::K=>by
  show(if(Qa (zG r.1):Option Key)=Qa (zG x)then Qa (dS r.2)else dO (.inr x) ((enS K).map λp=>(hZ p.1,p.2)))=_;unfold aZ;by_cases c:r.1=x;.rw[if_pos (by rw[c]),List.find?_cons_of_pos<|by simpa using c];rfl
  .rw[if_neg (λz=>c<|zQ<|qA z),b1p x K,List.find?_cons_of_neg<|by simpa using c];rfl
section
variable{s:List Mt}{k:q8}
def a3I{t:TF}{h:SF}(a:t Z=Qa (.ok Qc))(b:f Z=Qa (.rt d)):bI (ifS t f eM) h Z=Qa (.rt d):=by unfold bI;rw[dY,a5e a,if_pos rfl,b]
end
end L2.L3
variable{L:L2.L3.Kn}
namespace L2.L3
open PySem PySem.Spec PyProof.Rows L2.HS
end L2.L3
namespace L2.L3
open PySem PySem.Spec PyProof.Rows
noncomputable def iE(K:Kn)(n:Str):Kn:=K.filter λp=>!decide (p.1=n)
def oM(K:Kn)(n:Str)(s:List Mt):Kn:=iE K n++[(n,s)]
def eI(K:Kn)(n:Str):Ou->Kn×q8|.inl c=>(K,.str<|word c)|.inr s=>(oM K n s,dS s)
def stepK(K:Kn):Deed->Kn×q8
 |.lay n s=>(oM K n s,.bool (aZ K n).isSome)|.take n=>match aZ K n with|none=>(K,.str "no sheet")|some s=>(iE K n,dS s)
 |.add n l t u=>match aZ K n with|none=>(K,.str "no sheet")|some s=>eI K n (a2u s l t u)
 |.drop n l=>match aZ K n with|none=>(K,.str "no sheet")|some s=>eI K n (sH s l)
 |.shift n c=>match aZ K n with|none=>(K,.str "no sheet")|some s=>eI K n (lR s c)
 |.merge n x=>match aZ K n,aZ K x with|some s,Qa o=>eI K n (lW s o)|_,_=>(K,.str "no sheet")
structure KOk(K:Kn):Prop where
 nd:(K.map (·.1)).Nodup
 gs:∀p∈K,Gs p.2
 ok:∀p∈K,jN p.1=Qc
 few:K.length<=30
variable{s:List Mt}
def gH{K:Kn}{n:Str}(h:aZ K n=Qa s):(n,s)∈K:=by let⟨p,a,rfl⟩:=qK.mp h;have b:=List.find?_some a;simp only[decide_eq_true_eq]at b;rw[<-b];exact zy a
def a1Z{K:Kn}(nd:(K.map (·.1)).Nodup){p:Str×List Mt}(h:p∈K):aZ K p.1=Qa p.2:=by unfold aZ;cases q:K.find? λr=>decide (r.1=p.1)with|none=>have:=zI.mp q p h;simp at this|some r=>
  have g:=List.find?_some q;simp only[decide_eq_true_eq]at g;have d:=zy q;have:r=p:=by
   have inj:∀{K:Kn},(K.map (·.1)).Nodup->∀{a b:Str×List Mt},a∈K->b∈K->a.1=b.1->a=b:=by intro K;induction K with|nil=>intro _ a b i;cases i|cons c K k=>
     intro nd a b i j e;rw[qE,kB]at nd;obtain g|g:=qI.mp i
     .obtain d|d:=qI.mp j;.rw[g,d]
      .exact absurd (by rw[<-g,e];exact kA (f:=(·.1)) d) nd.1
     .obtain d|d:=qI.mp j;.exact absurd (by rw[<-d,<-e];exact kA (f:=(·.1)) g) nd.1
      .exact k nd.2 g d e
   exact inj nd d h g
  rw[this];rfl
def b7G{K:Kn}{n:Str}(h:n∉K.map (·.1)):aZ K n=none:=by unfold aZ;rw[zI.mpr λp a=>by simp only[decide_eq_true_eq];exactλe=>h<|qR.mpr #[p,a,e]];rfl
abbrev prS(p:Str×List Mt):q8:=.tuple [.str p.1,dS p.2]
theorem b2N:∀K:Kn,lJ yP (K.map prS)=Qa (enS K)|[]=>rfl|r::K=>by rw[qE];unfold lJ;rw[show yP (prS r)=Qa ((.inr r.1:Key),dS r.2)from rfl,b2N K];rfl
def c4l K:(enS K).map (·.1)=(K.map (·.1)).map zG:=by rw[qZ,qZ];rfl
def c7I{K:Kn}(nd:(K.map (·.1)).Nodup):((enS K).map (·.1)).Nodup:=by rw[c4l,vY,jp];exact List.Pairwise.imp (λ{a b}n z=>n<|zQ z) nd
def a7t{K:Kn}(nd:(K.map (·.1)).Nodup) n:((iE K n).map (·.1)).Nodup:=(vm.map _).nodup nd
def b9D K n:n∉(iE K n).map (·.1):=λh=>by let⟨p,a,e⟩:=qR.mp h;have:=(jA.mp a).2;simp only[jX,decide_eq_false_iff_not]at this;exact this e
noncomputable def dNm:Deed->Str|.lay n _=>n|.take n=>n|.add n _ _ _=>n|.drop n _=>n|.shift n _=>n|.merge n _=>n
section
variable{K:Kn}
end
noncomputable def N4:List Str:=["a","tuv","bcde","wxyz"]
noncomputable def L6:List Str:=["a","b","cc","fghi","jklm","nopq"]
def c2m:∀n∈N4,jN n=true:=by decide+kernel
def c6m:∀n∈L6,jN n=true:=by decide+kernel
def a7G:∀n∈N4,bC [.str n]=Qa (.ok<|.bool Qc):=by intro x a;simp only[N4,qI,jB,or_false]at a;obtain rfl|rfl|rfl|rfl:=a<;>kernel_rfl
def b5u:Deed->Prop|.lay n s=>n∈N4/\SheetOk s|.take n=>n∈N4|.add n l _ _=>n∈N4/\l∈L6|.drop n _=>n∈N4|.shift n _=>n∈N4|.merge n x=>n∈N4/\x∈N4
def KOk.rest{K:Kn}(h:KOk K) n:KOk (iE K n):=#[a7t h.nd n,λp a=>h.gs p (jA.mp a).1,λp a=>h.ok p (jA.mp a).1,qk (jZ _ _) h.few]
def KOk.put{K:Kn}(h:KOk K){n:Str}(d:jN n=Qc)(S:Gs s)(i:K.length<30):KOk (oM K n s):=by
 unfold oM;refine#[?_,λp c=>?_,λp c=>?_,?_];.rw[jD,jc];exact#[a7t h.nd n,by simp,λa g b f e=>by
   subst e;have:a=n:=by simpa using f
   subst this;exact b9D K _ g]
 .obtain c|c:=qU.mp c;.exact h.gs p (jA.mp c).1
  .obtain rfl:p=(n,s):=by simpa using c
   exact S
 .obtain c|c:=qU.mp c;.exact h.ok p (jA.mp c).1
  .obtain rfl:p=(n,s):=by simpa using c
   exact d
 .rw[qY];have:(iE K n).length<=K.length:=jZ _ _;simp only[qO,jj];exact Q6 ‹_› ‹_›
def b2B K n s:(oM K n s).length<=K.length+1:=by unfold oM;rw[qY];have:(iE K n).length<=K.length:=jZ _ _;simp only[qO,jj];lia
structure BR(K:Kn)(b:BS):Prop where ex:∃L:Kn,b.sh=enS L/\L.Perm K
variable{b:BS}{q:Str×List Mt}
section
variable{K:Kn}
def b7F(nd:(K.map (·.1)).Nodup)(h:L.Perm K) x:aZ L x=aZ K x:=by have a:=(h.map _).nodup_iff.mpr nd;cases q:aZ K x with|some s=>exact a1Z a (h.mem_iff.mpr<|gH q)|none=>refine b7G λb=>?_;let⟨p,c,e⟩:=qR.mp ((h.map (·.1)).mem_iff.mp b);have:=a1Z nd c;rw[e,q]at this;cases this
def BR.sheet(R:BR K b)(a:KOk K) x:bSh b x=(aZ K x).map dS:=by let⟨L,e,p⟩:=R.ex;show dO (.inr x) (b.sh.map λp=>(hZ p.1,p.2))=_;rw[e,b1p,b7F a.nd p]
def BR.sz(R:BR K b)(c:KOk K):bN b.sh.length=true:=by let⟨L,e,p⟩:=R.ex;have a:=c.few;rw[e];rw[qF,p.length_eq];exact decide_eq_true (by exact Q2 ‹_› rfl)
def a9n{K:Kn}(nd:(K.map (·.1)).Nodup):K.Nodup:=by rw[vY,jp]at nd;exact nd.imp λ{a b}n z=>n (by rw[z])
def a7K{n:Str}:q∈oM K n s↔(q∈K/\q.1≠n)\/q=(n,s):=by unfold oM iE;rw[qU,jA];simp
def vlO(K:Kn)(x:Str):q8:=((aZ K x).map dS).getD .none
def b2U{K:Kn}(nd:(K.map (·.1)).Nodup):q∈K↔aZ K q.1=Qa q.2:=#[a1Z nd,gH]
def b8Y{x:Str}:((enS L).any λb=>decide (b.1=.inr x))=Qc↔x∈L.map (·.1):=by
 rw[List.any_eq_true,qR];constructor;.rintro⟨b,c,e⟩;let⟨p,a,rfl⟩:=qR.mp c;exact#[p,a,zQ<|of_decide_eq_true e]
 .rintro⟨p,a,rfl⟩;exact#[_,kA a,decide_eq_true rfl]
theorem BR.any(R:BR K b)(u:KOk K)(i:KOk K'){x:Str}(h:∀y,y≠x->aZ K' y=aZ K y){dn un:T0l}:BR K' #[a9e b.sh x<|vlO K' x,dn,un]:=by
 let⟨L,e,p⟩:=R.ex;have g:=(p.map _).nodup_iff.mpr u.nd;have v:∀q,q∈L↔aZ K q.1=Qa q.2:=λq=>p.mem_iff.trans<|b2U u.nd;have f:∀d:Kn,(d.map (·.1)).Nodup->(∀q:Str×List Mt,q∈d↔if q.1=x then aZ K' x=Qa q.2 else q∈L)->d.Perm K':=λd nd C=>(List.perm_ext_iff_of_nodup (a9n nd)<|a9n i.nd).mpr λq=>by
  rw[C,b2U i.nd];by_cases c:q.1=x;.rw[if_pos c,c]
  .rw[if_neg c,v,h _ c]
 refine#[?_];show∃d:Kn,a9e b.sh x (vlO K' x)=enS d/\d.Perm K';rw[e];unfold vlO;cases o:aZ K' x with
 |none=>
  refine#[iE L x,?_,f _ (a7t g x) λq=>?_];.show a0o (enS L) (.inr x)=_;unfold a0o enS iE;rw[List.filter_map];congr 1;refine List.filter_congr λq _=>?_;show decide ((zG q.1:Key)≠.inr x)=!decide (q.1=x);rw[kq,decide_eq_true_eq,jX,decide_eq_false_iff_not];exact#[λh z=>h (by rw[z]),λh z=>h<|zQ z]
  .unfold iE;rw[jA,o];by_cases c:q.1=x<;>simp[c]|some s=>
  show∃d:Kn,a2B (enS L) (.inr x) (dS s)=enS d/\d.Perm K';unfold a2B;by_cases k:((enS L).any λw=>decide (w.1=.inr x))=Qc
  .rw[if_pos k];have E:(L.map λq=>if q.1=x then(q.1,s)else q).map (·.1)=L.map (·.1):=by rw[qZ];refine jO λq _=>?_;show(if q.1=x then(q.1,s)else q).1=q.1;split<;>rfl
   refine#[L.map λq=>if q.1=x then(q.1,s)else q,?_,f _ (by rwa[E]) λq=>?_]
   .unfold enS;rw[qZ,qZ];refine jO λq _=>?_;show(if(zG q.1:Key)=.inr x then((zG q.1:Key),dS s)else(.inr q.1,dS q.2))=((.inr (if q.1=x then(q.1,s)else q).1:Key),dS (if q.1=x then(q.1,s)else q).2);by_cases c:q.1=x;.rw[if_pos (by rw[c]),if_pos c]
    .rw[if_neg (λz=>c<|zQ z),if_neg c]
   .let⟨r,A,t⟩:=qR.mp<|b8Y.mp k;rw[qR,o];constructor
    .rintro⟨z,F,rfl⟩;by_cases c:z.1=x;.rw[if_pos c,if_pos c]
     .rwa[if_neg c,if_neg c]
    .intro j;by_cases c:q.1=x;.rw[if_pos c]at j;exact#[r,A,by rw[if_pos t,t,<-c,qA j]]
     .rw[if_neg c]at j;exact#[q,j,if_neg c]
  .rw[if_neg k];have no:x∉L.map (·.1):=λz=>k<|b8Y.mpr z;refine#[L++[(x,s)],by unfold enS;rw[jD];rfl,f _ ?_ λq=>?_];.rw[jD,jc];exact#[g,by simp,λa G b D e=>no (by
     have:b=x:=by simpa using D
     rwa[<-this,<-e])]
   .rw[qU,qf,o];by_cases c:q.1=x
    .rw[if_pos c];refine#[λz=>?_,λz=>.inr ?_]
     .obtain z|z:=z;.exact absurd (qR.mpr #[q,z,c]) no
      .rw[z]
     .rw[<-c,qA z]
    .rw[if_neg c];exact#[λz=>z.elim id λz=>absurd (by rw[z]) c,.inl]
end
def mF:Deed->BS->Option (Re q8×BS)|.lay n s=>λb=>a1q b [.str n,dS s]|.take n=>λb=>sK b [.str n]|.add n l t u=>λb=>yI b [.str n,.str l,.int t,.int u]|.drop n l=>λb=>sL b [.str n,.str l]|.shift n c=>λb=>oC b [.str n,.int c]|.merge n x=>λb=>mD b [.str n,.str x]
variable{ft:OTF}{fb:OEF}
def b7v{fa:OEF}(h:ft Z β=Qa (.ok Qc,β')):b1y ft fa fb Z β=fa Z β':=by unfold b1y;rw[h];rfl
def b7w{fa:OEF}(h:ft Z β=Qa (.ok Qd,β')):b1y ft fa fb Z β=fb Z β':=by unfold b1y;rw[h];rfl
variable{f:OSF}
def a0D{g h:OSF}{d:q8}(a:ft Z β=Qa (.ok Qc,β))(b:f Z β=Qa (.rt d,β')):fR (ifO ft f g) h Z β=Qa (.rt d,β'):=b9z (by rwa[c2q a])
def iY{h:OSF}(a:ft Z β=Qa (.ok Qd,β)):fR (ifO ft f b6U) h Z β=h Z β:=dQ (by rw[c2r a];rfl)
variable{d:Deed}{v:q8}
def c2w(g:mF d b=Qa (r,b'))(f:pH cD cJ r=Qa v):a1s b [dD d]=Qa (.ok v,b'):=by
 refine fU rfl λa=>?_;show sF a (a3p [.adr a,.val<|dD d] [(a,b)])=_;have e:∀d:q8,vw [(a,b)] [.adr a,.val d]=[.ro (Qa a) b,.val d]:=λd=>vwS rfl;have i:a3p [.adr a,.val<|dD d] [(a,b)]=Qa (.rt v,[(a,b')]):=by cases d with|lay n s=>refine a0D (fP (e _) rfl)<|tE<|rY (r:=r) (β':=[(a,b')]) ?_ f;exact(b7v<|fP (e _) rfl).trans ((gK (a:=a) (O:=[.str n,dS s]) rfl cU (by rw[e];rfl) g).trans<|by rw[dL])|take n=>refine a0D (fP (e _) rfl)<|tE<|rY (r:=r) (β':=[(a,b')]) ?_ f;exact(b7w<|fP (e _) rfl).trans ((gK (a:=a) (O:=[.str n]) rfl cU (by rw[e];rfl) g).trans<|by rw[dL])|add n l t u=>refine(iY<|fP (e _) rfl).trans<|a0D (fP (e _) rfl)<|tE<|rY (r:=r) (β':=[(a,b')]) ?_ f;show a9K [.adr a,.val<|dD<|.add n l t u] [(a,b)]=_;exact(gK (a:=a) (O:=[.str n,.str l,.int t,.int u]) rfl cU (by rw[e];rfl) g).trans (by rw[dL])|drop n l=>refine(iY<|fP (e _) rfl).trans<|(iY<|fP (e _) rfl).trans<|a0D (fP (e _) rfl)<|tE<|rY (r:=r) (β':=[(a,b')]) ?_ f;show a9J [.adr a,.val<|dD<|.drop n l] [(a,b)]=_;exact(gK (a:=a) (O:=[.str n,.str l]) rfl cU (by rw[e];rfl) g).trans (by rw[dL])|shift n c=>refine(iY<|fP (e _) rfl).trans<|(iY<|fP (e _) rfl).trans<|(iY<|fP (e _) rfl).trans<|tE<|rY (r:=r) (β':=[(a,b')]) ?_ f;exact(b7v<|fP (e _) rfl).trans ((gK (a:=a) (O:=[.str n,.int c]) rfl cU (by rw[e];rfl) g).trans<|by rw[dL])|merge n x=>refine(iY<|fP (e _) rfl).trans<|(iY<|fP (e _) rfl).trans<|(iY<|fP (e _) rfl).trans<|tE<|rY (r:=r) (β':=[(a,b')]) ?_ f;exact(b7w<|fP (e _) rfl).trans ((gK (a:=a) (O:=[.str n,.str x]) rfl cU (by rw[e];rfl) g).trans<|by rw[dL])
 rw[i];exact a4g
noncomputable def Cls:List Str:=["Taken","NoTime","TooMany","NoMeeting","NoSheet"]
def b3F:∀c∈Cls,pH cD cJ (.ex c)=Qa (.str<|word c):=by intro c a;simp only[Cls,qI,jB,or_false]at a;obtain rfl|rfl|rfl|rfl|rfl:=a<;>kernel_rfl
variable{c:Str}
def b9d{l:Str}{t u:Int}(h:a2u s l t u=.inl c):c∈Cls:=by
 unfold a2u at h;split at h;.cases h;simp[Cls]
 .split at h
  .split at h;.cases h
   .cases h;simp[Cls]
  .cases h;simp[Cls]
def b4X{l:Str}(h:sH s l=.inl c):c∈Cls:=by
 unfold sH at h;split at h;.cases h
 .cases h;simp[Cls]
def b0L{k:Int}(h:lR s k=.inl c):c∈Cls:=by
 unfold lR at h;split at h;.cases h
 .cases h;simp[Cls]
def b1k{o:List Mt}(h:lW s o=.inl c):c∈Cls:=by
 unfold lW at h;split at h
 .split at h;.cases h
  .cases h;simp[Cls]
 .cases h;simp[Cls]
section
variable{K:Kn}
def a7Y K n s y:aZ (oM K n s) y=if y=n then Qa s else aZ K y:=by
 unfold oM iE aZ;rw[List.find?_append,List.find?_filter];by_cases c:y=n;.subst c;rw[if_pos rfl,zI.mpr<|by intro p _;simp];simp
 .rw[if_neg c];have e:(K.find? λa=>decide ((!decide (a.1=n))=Qc/\decide (a.1=y)=Qc))=K.find? λa=>decide (a.1=y):=by
   congr 1;funext p;by_cases q:p.1=y;.simp[q,c]
   .simp[q]
  rw[e];cases K.find? λa=>decide (a.1=y)with|some p=>rfl|none=>simp[show¬n=y fromλz=>c z.symm]
def a9Q K n y:aZ (iE K n) y=if y=n then Qb else aZ K y:=by
 unfold iE aZ;rw[List.find?_filter];by_cases c:y=n;.subst c;rw[if_pos rfl,zI.mpr<|by intro p _;simp];rfl
 .rw[if_neg c];congr 2;funext p;by_cases q:p.1=y;.simp[q,c]
  .simp[q]
noncomputable def dWd:Deed->Str|.lay _ _=>"lay"|.take _=>"take"|.add _ _ _ _=>"add"|.drop _ _=>"drop"|.shift _ _=>"shift"|.merge _ _=>"merge"
def c6M(K:Kn)(b b':BS)(d:Deed):Prop:=(isD "str" (stepK K d).2=Qa (.bool Qc)/\b'=b/\(stepK K d).1=K)\/(isD "str" (stepK K d).2=Qa (.bool Qd)/\b'=behind b (dWd d) (dNm d) (vlO (stepK K d).1<|dNm d)/\(∀y,y≠dNm d->aZ (stepK K d).1 y=aZ K y)/\((aZ K<|dNm d).isSome=Qc\/(aZ (stepK K d).1<|dNm d).isSome=Qc))
def Beh(K:Kn)(b:BS)(d:Deed):Prop:=∃r b',mF d b=Qa (r,b')/\pH cD cJ r=Qa (stepK K d).2/\c6M K b b' d
def a8o(R:BR K b)(f:KOk K)(g:b.dn.length<=1000){n:Str} a:a2V b n (reO a)=true:=by have e:bN b.dn.length=true:=decide_eq_true (by exact Q2 ‹_› rfl);have d:=R.sz f;unfold a2V;rw[e,Bool.true_and];cases a with|inl c=>rfl|inr s=>show(bN b.sh.length&&Qc)=Qc;rw[d];rfl
def sG(R:BR K b)(c:KOk K){n:Str}(a:n∈N4)(h:aZ K n=Qb):aJ b [.str n]=Qa (.ex "NoSheet"):=a9v<|.inr #[n,rfl,a7G n a,by rw[R.sheet c,h];rfl]
def lX(R:BR K b)(c:KOk K){n:Str}(a:n∈N4)(h:aZ K n=Qa s):aJ b [.str n]=Qa (.ok<|dS s):=a4R (a7G n a) (by rw[R.sheet c,h];rfl)
def b3G:pH cD cJ (.ex "NoSheet")=Qa (.str "no sheet"):=by kernel_rfl
def a2s(h:mF d b=Qa (.ex "NoSheet",b))(e:stepK K d=(K,.str "no sheet")):Beh K b d:=#[_,b,h,by rw[e];exact b3G,.inl #[by rw[e];rfl,rfl,by rw[e]]]
def a9d(e:stepK K d=(oM K (dNm d) s,v))(c:isD "str" v=Qa (.bool Qd)):c6M K b (behind b (dWd d) (dNm d)<|dS s) d:=.inr (by
 rw[e];refine#[c,?_,λy a=>?_,.inr ?_];.unfold vlO;rw[a7Y,if_pos rfl];rfl
 .rw[a7Y,if_neg a]
 .rw[a7Y,if_pos rfl];rfl)
def a3s(a:∀c,ou=.inl c->c∈Cls)(h:mF d b=Qa (did b (dWd d) (dNm d)<|reO ou))(e:stepK K d=eI K (dNm d) ou):Beh K b d:=by cases ou with|inl c=>exact#[_,b,h,by rw[e];exact b3F c<|a c rfl,.inl #[by rw[e];rfl,rfl,by rw[e];rfl]]|inr s=>exact#[_,_,h,by rw[e];rfl,a9d e rfl]
def c6E(R:BR K b)(f:KOk K)(k:b.dn.length<=1000) d(g:b5u d):Beh K b d:=by have i:bN b.dn.length=true:=decide_eq_true (by exact Q2 ‹_› rfl);cases d with
 |lay n s=>
  have p:xH b n (dS s)=true:=by show(bN b.sh.length&&Qc)=Qc;rw[R.sz f];rfl
  refine#[_,_,c6D (a7G n g.1) g.2.yes p i,?_,a9d rfl rfl];show Qa (vb (bSh b n).isSome)=Qa (.bool (aZ K n).isSome);rw[R.sheet f,vC]|take n=>cases a:aZ K n with|none=>exact a2s (c0q<|sG R f g a) (by show(match aZ K n with|none=>_|some s=>_)=_;rw[a])|some s=>
   have e:stepK K (.take n)=(iE K n,dS s):=by show(match aZ K n with|none=>_|some s=>_)=_;rw[a]
   have p:xH b n .none=true:=by show(bN b.sh.length&&(bSh b n).isSome)=Qc;rw[R.sz f,R.sheet f,a];rfl
   refine#[_,_,c4G (lX R f g a) p i,by rw[e];rfl,.inr ?_];rw[e];refine#[rfl,?_,λy q=>?_,.inl<|by show(aZ K n).isSome=Qc;rw[a];rfl];.show _=behind b _ _ (vlO (iE K n) n);unfold vlO;rw[a9Q,if_pos rfl];rfl
   .rw[a9Q];exact if_neg q|add n l t u=>cases a:aZ K n with|none=>exact a2s (c3W<|sG R f g.1 a) (by show(match aZ K n with|none=>_|some s=>_)=_;rw[a])|some s=>exact a3s (λc=>b9d) (c6F (lX R f g.1 a) (c4M (f.gs _<|gH a) l t u)<|a8o R f k _) (by show(match aZ K n with|none=>_|some s=>_)=_;rw[a];rfl)
 |drop n l=>cases a:aZ K n with|none=>exact a2s (c0r<|sG R f g a) (by show(match aZ K n with|none=>_|some s=>_)=_;rw[a])|some s=>exact a3s (λc=>b4X) (c4K (lX R f g a) (c1k (f.gs _<|gH a) l)<|a8o R f k _) (by show(match aZ K n with|none=>_|some s=>_)=_;rw[a];rfl)
 |shift n c=>cases a:aZ K n with|none=>exact a2s (b6P<|sG R f g a) (by show(match aZ K n with|none=>_|some s=>_)=_;rw[a])|some s=>exact a3s (λc=>b0L) (c1f (lX R f g a) (b8a (f.gs _<|gH a) c)<|a8o R f k _) (by show(match aZ K n with|none=>_|some s=>_)=_;rw[a];rfl)
 |merge n x=>cases a:aZ K n with|none=>exact a2s (b6Q<|sG R f g.1 a) (by show(match aZ K n,aZ K x with|some s,Qa o=>_|_,_=>_)=_;rw[a])|some s=>cases j:aZ K x with|none=>exact a2s (b4n (lX R f g.1 a)<|sG R f g.2 j) (by show(match aZ K n,aZ K x with|some s,Qa o=>_|_,_=>_)=_;rw[a,j])|some o=>exact a3s (λc=>b1k) (c1i (lX R f g.1 a) (lX R f g.2 j) (b8g (f.gs _<|gH a).rw (f.gs _<|gH j).rw)<|a8o R f k _) (by show(match aZ K n,aZ K x with|some s,Qa o=>_|_,_=>_)=_;rw[a,j];rfl)
def a1m(b:KOk K)(a:K.length<30){n:Str}(d:n∈N4)(e:∀s,ou=.inr s->Gs s):KOk (eI K n ou).1/\(eI K n ou).1.length<=K.length+1:=by cases ou with|inl c=>exact#[b,by show K.length<=_;lia]|inr s=>exact#[b.put (c2m n d) (e s rfl) a,b2B K n s]
def b9q(a:KOk K)(b:K.length<30) d(f:b5u d):KOk (stepK K d).1/\(stepK K d).1.length<=K.length+1:=by have same:KOk K/\K.length<=K.length+1:=#[a,by omega];cases d with
 |lay n s=>exact#[a.put (c2m n f.1) f.2.gs b,b2B K n s]|take n=>show KOk (match aZ K n with|none=>(K,qb "no sheet")|some s=>(iE K n,dS s)).1/\(match aZ K n with|none=>(K,qb "no sheet")|some s=>(iE K n,dS s)).1.length<=_;cases e:aZ K n with|none=>exact same|some s=>exact#[a.rest n,qk (jZ _ _)<|by omega]
 |add n l t u=>show KOk (match aZ K n with|none=>(K,qb "no sheet")|some s=>eI K n<|a2u s l t u).1/\(match aZ K n with|none=>(K,qb "no sheet")|some s=>eI K n<|a2u s l t u).1.length<=_;cases e:aZ K n with|none=>exact same|some s=>exact a1m a b f.1 λg=>c2a (a.gs _<|gH e) (c6m l f.2)
 |drop n l=>show KOk (match aZ K n with|none=>(K,qb "no sheet")|some s=>eI K n<|sH s l).1/\(match aZ K n with|none=>(K,qb "no sheet")|some s=>eI K n<|sH s l).1.length<=_;cases e:aZ K n with|none=>exact same|some s=>exact a1m a b f λg=>b8p (a.gs _<|gH e)
 |shift n c=>show KOk (match aZ K n with|none=>(K,qb "no sheet")|some s=>eI K n<|lR s c).1/\(match aZ K n with|none=>(K,qb "no sheet")|some s=>eI K n<|lR s c).1.length<=_;cases e:aZ K n with|none=>exact same|some s=>exact a1m a b f λg=>b3U (a.gs _<|gH e)
 |merge n x=>show KOk (match aZ K n,aZ K x with|some s,Qa o=>eI K n (lW s o)|_,_=>(K,qb "no sheet")).1/\(match aZ K n,aZ K x with|some s,Qa o=>eI K n (lW s o)|_,_=>(K,qb "no sheet")).1.length<=_;cases e:aZ K n with|none=>exact same|some s=>cases i:aZ K x with|none=>exact same|some o=>exact a1m a b f.1 λg=>b4B (a.gs _<|gH e)<|a.gs _<|gH i
end
theorem b7n(L:T0q){p:Int}(c:0<=p)(b:p<L.length):∃n∈L,ixD (.list<|L.map .str) (.int p)=Qa (.str n):=by
 have a:p.toNat<L.length:=by lia
 refine#[L.getD p.toNat "",?_,a1j qb c b ""];rw[jM,qN a];exact jm a
def b2k{t:Tg}{d:q8}(h:fa Z=Qa (.ok d))(a:tgD t Z d=Qa ρ'):a7e t fa Z=Qa (.nx ρ'):=by unfold a7e;rw[h];show(tgD t Z d).map So.nx=_;rw[a];rfl
abbrev q8d(ns:T0s)(at':Int)(n:Str)(p:Int)(e6 e7:Ent):List Ent:=[.val<|dN ns,.val<|.int at',.val<|.list<|N4.map .str,.val<|.list<|L6.map .str,.val<|.str n,.val<|.int p,e6,e7]
def c4L ns at'(P:0<=at'):∃d,b5u d/\a1t [dN ns,.int at']=Qa (.ok<|dD d):=by
 have I:=lG ns at' 4 P (by decide);have H:=lG ns (at'+1) 9 (by lia) (by decide);have G:=lG ns (at'+2) 6 (by lia) (by decide);have F:=lG ns (at'+3) 30 (by lia) (by decide);have E:=lG ns (at'+4) 9 (by lia) (by decide);have D:=lG ns (at'+5) 41 (by lia) (by decide);have C:=lG ns (at'+6) 4 (by lia) (by decide);have A:=c1g ns (at'+10) 4 (by lia) (by decide) (by decide);have z:=b5U ns (at'+10) (most:=4) (by decide) (by decide);let⟨n,e,J⟩:=b7n N4 (iM ns at' (many:=4)<|by decide) (show pickOf ns at' 4<4 from lA ns at' (by decide));let⟨l,N,K⟩:=b7n L6 (iM ns (at'+2) (many:=6)<|by decide) (show pickOf ns (at'+2) 6<6 from lA ns (at'+2) (by decide));let⟨x,M,ex⟩:=b7n N4 (iM ns (at'+6) (many:=4)<|by decide) (show pickOf ns (at'+6) 4<4 from lA ns (at'+6) (by decide));generalize pickOf ns at' 4=p0 at I J;generalize pickOf ns (at'+1) 9=p1 at H;generalize pickOf ns (at'+2) 6=p2 at G K;generalize pickOf ns (at'+3) 30=p3 at F;generalize pickOf ns (at'+4) 9=p4 at E;generalize pickOf ns (at'+5) 41=p5 at D;generalize pickOf ns (at'+6) 4=p6 at C ex;generalize pK ns (at'+10) 4=s at A z;have k:dA 2 (nJ<|aB (cst<|.str "a")<|aB (cst<|.str "tuv")<|aB (cst<|.str "bcde")<|aB (cst<|.str "wxyz") aG) [.val<|dN ns,.val<|.int at',.no,.no,.no,.no,.no,.no]=Qa (.nx [.val<|dN ns,.val<|.int at',.val<|.list<|N4.map .str,.no,.no,.no,.no,.no]):=rfl;have j:dA 3 (nJ<|aB (cst<|.str "a")<|aB (cst<|.str "b")<|aB (cst<|.str "cc")<|aB (cst<|.str "fghi")<|aB (cst<|.str "jklm")<|aB (cst<|.str "nopq") aG) [.val<|dN ns,.val<|.int at',.val<|.list<|N4.map .str,.no,.no,.no,.no,.no]=Qa (.nx [.val<|dN ns,.val<|.int at',.val<|.list<|N4.map .str,.val<|.list<|L6.map .str,.no,.no,.no,.no]):=rfl;have i:a7e (.tp [4,5]) (iR<|aB (op2 ixD (var 2)<|aS bR<|aB (var 0)<|aB (var 1)<|aB (cst<|.int 4) aG)<|aB (aS bR<|aB (var 0)<|aB (op2 aY (var 1)<|cst<|.int 1)<|aB (cst<|.int 9) aG) aG) [.val<|dN ns,.val<|.int at',.val<|.list<|N4.map .str,.val<|.list<|L6.map .str,.no,.no,.no,.no]=Qa (.nx<|q8d ns at' n p1 .no .no):=by refine b2k (d:=.tuple [.str n,.int p1]) ?_ rfl;rw[oE,aM (nG (x:=.list<|N4.map .str) (y:=.int p0) rfl (bB (O:=[dN ns,.int at',.int 4]) rfl I) J)<|aM (bB (O:=[dN ns,.int<|at'+1,.int 9]) rfl H) rfl];rfl
 have t:a7e (.tp [6,7]) (iR<|aB (op2 ixD (var 3)<|aS bR<|aB (var 0)<|aB (op2 aY (var 1)<|cst<|.int 2)<|aB (cst<|.int 6) aG)<|aB (op2 b3M (aS bR<|aB (var 0)<|aB (op2 aY (var 1)<|cst<|.int 3)<|aB (cst<|.int 30) aG)<|cst<|.int 1) aG) (q8d ns at' n p1 .no .no)=Qa (.nx<|q8d ns at' n p1 (.val<|.str l)<|.val<|.int<|p3-1):=by refine b2k (d:=.tuple [.str l,.int<|p3-1]) ?_ rfl;rw[oE,aM (nG (x:=.list<|L6.map .str) (y:=.int p2) rfl (bB (O:=[dN ns,.int<|at'+2,.int 6]) rfl G) K)<|aM (nG (x:=.int p3) (y:=.int 1) (bB (O:=[dN ns,.int<|at'+3,.int 30]) rfl F) rfl rfl) rfl];rfl
 have f:∀d:Deed,mU [.val<|dN ns,.val<|.int at',.no,.no,.no,.no,.no,.no]=Qa (.rt<|dD d)->a1t [dN ns,.int at']=Qa (.ok<|dD d):=λd h=>cN rfl h;have c:∀b a,a5Z (q8d ns at' n p1 b a)=Qa (.ok<|decide (p1<3)):=λ_ _=>rfl;have o:∀b a,a5X (q8d ns at' n p1 b a)=Qa (.ok<|decide (p1=3)):=λ_ _=>rfl;have q:∀b a,a5W (q8d ns at' n p1 b a)=Qa (.ok<|decide (p1<6)):=λ_ _=>rfl;have u:∀b a,a5V (q8d ns at' n p1 b a)=Qa (.ok<|decide (p1=6)):=λ_ _=>rfl;have w:∀b a,a5U (q8d ns at' n p1 b a)=Qa (.ok<|decide (p1=7)):=λ_ _=>rfl;by_cases g:p1<3;.refine#[.lay n s,#[e,z],f _ ?_];unfold mU;rw[aI k,aI j,aI i];refine a3I (by rw[c,decide_eq_true g]) ?_;rw[cE,oE,aM (x:=.str "lay") rfl<|aM (x:=.str n) rfl<|aM (bB (O:=[dN ns,.int<|at'+10,.int 4]) rfl A) rfl];rfl
 by_cases p:p1=3;.refine#[.take n,e,f _ ?_];unfold mU;rw[aI k,aI j,aI i,ifF<|by rw[c,decide_eq_false g]];exact a3I (by rw[o,decide_eq_true p]) rfl
 by_cases r:p1<6;.refine#[.add n l (p3-1)<|p3-1+p4,#[e,N],f _ ?_];unfold mU;rw[aI k,aI j,aI i,ifF (by rw[c,decide_eq_false g]),ifF (by rw[o,decide_eq_false p]),aI t];refine a3I (by rw[q,decide_eq_true r]) ?_;rw[cE,oE,aM (x:=.str "add") rfl<|aM (x:=.str n) rfl<|aM (x:=.str l) rfl<|aM (x:=.int<|p3-1) rfl<|aM (nG (x:=.int<|p3-1) (y:=.int p4) rfl (bB (O:=[dN ns,.int<|at'+4,.int 9]) rfl E) rfl) rfl];rfl
 by_cases v:p1=6;.refine#[.drop n l,e,f _ ?_];unfold mU;rw[aI k,aI j,aI i,ifF (by rw[c,decide_eq_false g]),ifF (by rw[o,decide_eq_false p]),aI t,ifF<|by rw[q,decide_eq_false r]];exact a3I (by rw[u,decide_eq_true v]) rfl
 by_cases L:p1=7;.refine#[.shift n<|p5-12,e,f _ ?_];unfold mU;rw[aI k,aI j,aI i,ifF (by rw[c,decide_eq_false g]),ifF (by rw[o,decide_eq_false p]),aI t,ifF (by rw[q,decide_eq_false r]),ifF<|by rw[u,decide_eq_false v]];refine a3I (by rw[w,decide_eq_true L]) ?_;rw[cE,oE,aM (x:=.str "shift") rfl<|aM (x:=.str n) rfl<|aM (nG (x:=.int p5) (y:=.int 12) (bB (O:=[dN ns,.int<|at'+5,.int 41]) rfl D) rfl rfl) rfl];rfl
 .refine#[.merge n x,#[e,M],f _ ?_];unfold mU;rw[aI k,aI j,aI i,ifF (by rw[c,decide_eq_false g]),ifF (by rw[o,decide_eq_false p]),aI t,ifF (by rw[q,decide_eq_false r]),ifF (by rw[u,decide_eq_false v]),ifF<|by rw[w,decide_eq_false L]];rw[cE,oE,aM (x:=.str "merge") rfl<|aM (x:=.str n) rfl<|aM (nG (x:=.list<|N4.map .str) (y:=.int p6) rfl (bB (O:=[dN ns,.int<|at'+6,.int 4]) rfl C) ex) rfl];rfl
def a0K{F:BS->List q8->Mm q8}{fa:AF}(hi:Z[i]?=Qa (.ro oa b))(a:fa Z=Qa (.ok O))(c:F b O=Qa r):iF F i fa Z=Qa r:=by unfold iF;rw[hi];rwa[a]
def snm(K:Kn):List Str:=fG (K.map (·.1))
def a5p(K:Kn):Kn:=(snm K).map λx=>(x,(aZ K x).getD [])
theorem b2f:∀K:Kn,a8A ((enS K).map λp=>(hZ p.1,p.2))=Qa (K.map (·.1))|[]=>rfl|r::K=>by show(match c4q (qb r.1,dS r.2),a8A ((enS K).map λp=>(hZ p.1,p.2))with|some x,Qa Y=>Qa (x::Y)|_,_=>Qb)=_;rw[b2f K];rfl
section
variable{K:Kn}
def b8e(R:BR K b)(c:KOk K):mC b []=Qa (.ok<|.list<|(snm K).map .str):=by
 let⟨L,e,p⟩:=R.ex;have a:=c.few;have h:a8A (bD b)=Qa (L.map (·.1)):=by unfold bD;rw[e];exact b2f L
 rw[a4S h<|by rw[qF,p.length_eq];exact Q0 ‹_› rfl];unfold snm;rw[lU (((bP _).trans<|p.map _).trans (bP _).symm) (dP _)<|dP _]
def b2t{x:Str}:x∈snm K↔x∈K.map (·.1):=(bP _).mem_iff
def c2X(a:KOk K):(snm K).Nodup:=(bP _).nodup_iff.mpr a.nd
def a0b K:(a5p K).map (·.1)=snm K:=by unfold a5p;rw[qZ];exact List.map_id' _
end
def a1n{K:Kn}(b:∀p∈K,p.1∈N4){n:Str}(e:n∈N4) a:∀p∈(eI K n a).1,p.1∈N4:=by cases a with|inl c=>exact b|inr s=>exactλp d=>(a7K.mp d).elim (λz=>b p z.1) λz=>by rwa[z]
def b9r{K:Kn}(a:∀p∈K,p.1∈N4) d(b:b5u d):∀p∈(stepK K d).1,p.1∈N4:=by cases d with
 |lay n s=>exactλp f=>(a7K.mp f).elim (λz=>a p z.1) λz=>by rw[z];exact b.1|take n=>show∀p∈(match aZ K n with|none=>(K,qb "no sheet")|some s=>(iE K n,dS s)).1,p.1∈N4;cases e:aZ K n with|none=>exact a|some s=>exactλp f=>a p (jA.mp f).1
 |add n l t u=>show∀p∈(match aZ K n with|none=>(K,qb "no sheet")|some s=>eI K n<|a2u s l t u).1,p.1∈N4;cases e:aZ K n with|none=>exact a|some s=>exact a1n a b.1 _
 |drop n l=>show∀p∈(match aZ K n with|none=>(K,qb "no sheet")|some s=>eI K n<|sH s l).1,p.1∈N4;cases e:aZ K n with|none=>exact a|some s=>exact a1n a b _
 |shift n c=>show∀p∈(match aZ K n with|none=>(K,qb "no sheet")|some s=>eI K n<|lR s c).1,p.1∈N4;cases e:aZ K n with|none=>exact a|some s=>exact a1n a b _
 |merge n x=>show∀p∈(match aZ K n,aZ K x with|some s,Qa o=>eI K n (lW s o)|_,_=>(K,qb "no sheet")).1,p.1∈N4;cases e:aZ K n with|none=>exact a|some s=>cases g:aZ K x with|none=>exact a|some o=>exact a1n a b.1 _
theorem a3v:∀{ns:T0q}{us:T0m},bJ (ns.map V.str) us->∃l:List (Str×Tok),us=strValues l/\l.map (·.1)=ns|[],_,.nil=>#[[],rfl,rfl]|n::ns,_,.cons ⟨t,e⟩ r=>by subst e;let⟨l,rfl,a⟩:=a3v r;exact#[(n,t)::l,rfl,by rw[qE,a]]
theorem a3z:∀l:List (Str×Tok),bJ ((l.map (·.1)).map V.str) (strValues l)|[]=>.nil|p::l=>.cons #[p.2,rfl] (a3z l)
def b7d:MtM X "str.split" (λx vs H Q=>∃z y,x=.str z/\vs=[.str y]/\(y.length==0)=Qd/\z.length<=j5/\(qJ z y).length<=j5/\∀l,H l=Qb->Q (.ref l) (upd H l<|.lst<|(qJ z y).map V.str)):=by
 rintro B s U H x vs v A Q I j k⟨z,y,w,r,i,p,C,q⟩;subst w r;let⟨t,rfl⟩:=j;let⟨u,rfl,t',rfl⟩:=k.one;have a:∀(l:List (Str×Tok))(g:Nat),l.map (·.1)=qJ z y->EP X B U Q (.ref s.heap.objs.size) {s with heap:=s.heap.push {cls:=.type "list",data:=.seq (strValues l).toArray},toks:=g}:=λl g e=>by refine#[.ref s.heap.objs.size,_,I.laid (t':=g) (λb o e=>qC _ e) (qM _) (show eB X.prog X.w _ _ _ (.lst<|(qJ z y).map V.str)from#[by rwa[qF],strValues l,0,?_,qP _ rfl]),rfl,q _<|I.hok.fresh<|qM _];rw[<-e];exact a3z l
 cases c:(decide (z.length<y.length)||decide (Builtin.Str.strKind z<Builtin.Str.strKind y))
 .cases f:(zY z y 0 z.length<|z.length+1).isEmpty
  .have d:qJ z y=Builtin.Str.partsBetween z (zY z y 0 z.length<|z.length+1) y.length:=by unfold qJ;rw[if_neg (by rw[c];decide),if_neg<|by rw[f];decide]
   refine wv vg (yq _ _ _) F.entry_str_split (F.args_str_split_2 _ _) (meets_str_split_sep z y t t' c i f p<|by rwa[<-d]) ?_;rw[strsFrom_eq];exact a (numbered s.toks _) _ ((numbered_texts _ _).trans d.symm)
  .have d:qJ z y=[z]:=by unfold qJ;rw[if_neg (by rw[c];decide),if_pos f]
   exact wv vg (yq _ _ _) F.entry_str_split (F.args_str_split_2 _ _) (meets_str_split_not_found z y t t' c i f) (a [(z,t)] s.toks d.symm)
 .have d:qJ z y=[z]:=by unfold qJ;rw[if_pos c]
  exact wv vg (yq _ _ _) F.entry_str_split (F.args_str_split_2 _ _) (meets_str_split_cannot_occur z y t t' c)<|a [(z,t)] s.toks d.symm
def c0B:MtM X "str.join" (λx vs H Q=>∃(z:Str)(p:Addr)(ns:T0q),x=.str z/\vs=[.ref p]/\SqL X.K H p (ns.map V.str)/\QD z ns=Qc/\Q (.str<|Txt.join z ns) H):=by rintro B s U H x vs v y Q I c d⟨z,p,ns,w,r,j,a,q⟩;subst w r;let⟨t,rfl⟩:=c;let⟨u,rfl,e⟩:=d.one;cases e;let⟨i,f,g,_⟩:=I.list j;let⟨l,rfl,o⟩:=a3v f;subst o;unfold QD at a;rw[jX]at a;exact wv F.slot_str_join (yq _ _ _) F.entry_str_join (F.args_str_join_2 _ _) (meets_str_join_list z t p l a) #[g.isList,post_join (Q:=λv b=>wants (EP X B U Q) X.xe (.ok<|.ret v) b) l #[joinFit_length a,λA k=>#[.str _,H,I.tok _,#[_,rfl],q]]]
def a0C(x y:q8):Option q8:=match x,y with|.str z,.str y=>if(y.length !=0)&&bN z.length&&bN (qJ z y).length then Qa (.list<|(qJ z y).map .str)else Qb|_,_=>Qb
def yJ(x y:q8):Option q8:=match x,y with|.str z,.list Y=>(match lJ a7j Y with|some ns=>if QD z ns then Qa (.str<|Txt.join z ns)else Qb|none=>Qb)|_,_=>Qb
def a1a(t:DE X o fo)(v:DE X e fa)(c:U8 X o "split":=by rfl)(i:U4 X cpos (e::[]):=by rfl)(b:(apos.endLine==cpos.line)=true:=by rfl)(g:U5 X e []:=by rfl)(a:U6 X cpos []:=by rfl):DE X (.Call (.Attribute o "split" apos) [e] [] cpos) (dfE a0C fo fa):=tY λZ r h=>by
 unfold dfE at h;split at h
 .rename_i x y A w;let⟨d,f,rfl⟩:=bS h;refine#[d,rfl,?_];unfold a0C at f;split at f
  .rename_i z y;split at f;.rename_i j;cases(qA f);rw[qD,qD]at j;exact a6o F.plainAttrs_str vg F.type_str_split b7d (t.pd A) (oO (v.pd w) tG g) (λx G H s r=>by cases r;rfl) (λx C G H Q s r k q=>by cases r;cases k with|cons p r2=>cases p;cases r2;exact#[z,y,rfl,rfl,by simpa using j.1.1,fZ j.1.2,fZ j.2,λl u=>q _ _ _ (.put s u)<|.list (.of aK)<|nV _]) c i b g a
   .cases f
  .cases f
 .cases h
def a1b(D:DE X o fo)(E:DE X e fa)(i:U8 X o "join":=by rfl)(k:U4 X cpos (e::[]):=by rfl)(f:(apos.endLine==cpos.line)=true:=by rfl)(j:U5 X e []:=by rfl)(b:U6 X cpos []:=by rfl):DE X (.Call (.Attribute o "join" apos) [e] [] cpos) (dfE yJ fo fa):=tY λZ r h=>by
 unfold dfE at h;split at h
 .rename_i x y K J;let⟨d,c,rfl⟩:=bS h;refine#[d,rfl,?_];unfold yJ at c;split at c
  .rename_i z Y;split at c
   .rename_i v I;split at c;.rename_i w;have A:=iO (g:=qb) (λd a q=>a0A q) I;subst A;cases(qA c);exact a6o F.plainAttrs_str F.slot_str_join F.type_str_join c0B (D.pd K) (oO (E.pd J) tG j) (λx G H s r=>by cases r;rfl) (λx L G H Q s r p q=>by cases r;cases p with|cons u r2=>cases r2;cases u with|list C t=>have e:=t.strs;subst e;exact#[z,_,v,rfl,rfl,s.seq C,w,q _ G H (.refl s)<|.str _]) i k f j b
    .cases c
   .cases c
  .cases c
 .cases h
def nX(x:q8):Option q8:=match x with|.str z=>if bN z.length then Qa (.str z)else Qb|.int i=>if fQ i then Qa (.str (toString i:String))else Qb|_=>Qb
def b3R{i:Int}(h:fQ i=Qc):i.natAbs.log2<1920:=by
 unfold fQ at h;rw[qD,decide_eq_true_eq,decide_eq_true_eq]at h;have:i.natAbs<2^64:=by omega
 by_cases z:i.natAbs=0;.rw[z];decide
 .exact zr ((Nat.log2_lt z).mpr this) (by decide)
def a0q(w:DE X e fa):DE X (.FormattedValue e (-1) Qb pos) (op1 nX fa):=#[by
 rintro B s U H Q I⟨Z,r,E,F,G,y,R,q⟩;refine wpAny_FormattedValue_plain (v0 (w.run B s U H (λv b=>∃c d,Grow G H c b/\Rep X.K c v d/\lft (nX d)=Qa r) I ?_) (λu A⟨v,b,k,o,c,d,f,rd,j⟩=>?_) λ_ _ x=>x);.exact bE R y q.x λd v c b f D rd j=>#[c,d,f,rd,j]
 .let⟨C,a,rfl⟩:=bS j;unfold nX at a;split at a
  .rename_i z;split at a;.rename_i g;cases(qA a);cases rd;let⟨t,rfl⟩:=o;have p:=q (.str z) c b f (.str z);exact wpAny_formatField_str #[.str z,b,k,#[_,rfl],p] #[.str z,b,k.tok _,#[_,rfl],p] (fZ g)
   .cases a
  .rename_i i;split at a;.rename_i g;cases(qA a);cases rd;let⟨t,rfl⟩:=o;exact wpAny_formatField_int (b3R g) #[.str _,b,k.tok _,#[_,rfl],q (.str _) c b f<|.str _]
   .cases a
  .cases a]
noncomputable def mY(acc:Str)(ns:T0q):Str:=ns.foldl (·++·) acc
theorem b3v:∀ ns a,a.length<=(mY a ns).length|[],_=>qM _|n::ns,a=>by refine qk ?_ (b3v ns<|a++n);rw[j7];lia
structure DJ(X:Cx)(es:T0n)(f:AF):Prop where run:∀ B s(U:St) H acc(Q:Str->Hp->Prop) Z(O:T0l)(ns:T0q) H0 Gz G,Inv X B U H s->f Z=Qa (.ok O)->lJ a7j O=Qa ns->RepS X.K H0 Gz G H U Z->(mY acc ns).length<=j5->(∀G' H',Grow G H G' H'->Q (mY acc ns) H')->Joins (model X.prog X.w) X.A X.xe (evalEach es X.env) acc (λout s1=>∃H',Inv X B U H' s1/\Q out H') s
def b1K:DJ X [] aG:=#[λB s U H c Q Z O d f g G I a b R e q=>by cases(qA a);cases(qA b);exact#[H,I,q G H<|.refl R.sub]]
def gX(h:DE X e fe)(K:DJ X es fs):DJ X (e::es) (aB fe fs):=#[λB s U H k Q Z O j A C G I b N R z q=>by rw[bW]at b;cases i:fe Z with|none=>rw[i]at b;cases b|some r=>cases r with|ex c=>rw[i]at b;cases b|ok d=>rw[i,bG]at b;cases f:fs Z with|none=>rw[f]at b;cases b|some r2=>cases r2 with|ex c=>rw[f]at b;cases b|ok P=>rw[f,bG]at b;cases(qA b);have y:=iO (g:=qb) (λd a q=>a0A q) N;cases j with|nil=>cases y|cons n j=>rw[qE,kl]at y;let⟨L,J⟩:=y;subst L J;refine v0 ((h.pd i).run A C G B s U H (λv w=>∃o,Grow G H o w/\v=.str n) I R<|λv o w p E=>#[o,p,by cases E;rfl]) (?_) λ_ _ x=>x;rintro u D⟨v,w,S,F,o,p,M⟩;subst M;let⟨t,rfl⟩:=F;exact#[n,t,rfl,qk (b3v j<|k++n) z,K.run B D U w (k++n) Q Z _ j A C o S f (lI (g:=.str) (λ_=>rfl) j) (R.more p) z λG' T g=>q G' T<|p.trans g]]
def jnE(fa:AF):EF:=λZ=>match fa Z with|some (.ok O)=>(match lJ a7j O with|some ns=>if bN (mY qV ns).length then Qa (.ok<|.str<|mY qV ns)else Qb|none=>Qb)|_=>Qb
def a2g{a b:Expr}{f:AF}(h:DJ X (a::b::es) f):DE X (.JoinedStr (a::b::es) pos) (jnE f):=tY λZ r e=>by
 unfold jnE at e;split at e
 .rename_i O z;split at e
  .rename_i A w;split at e
   .rename_i C;cases(qA e);refine#[_,rfl,#[λT Gz G B s U H Q I R k=>?_]];refine wpAny_JoinedStr ?_;have J:=h.run B s U H qV (λi p=>i=mY qV A/\Q (.str i) p) Z O A T Gz G I z w R (fZ C) λG' p g=>#[rfl,k _ G' p g<|.str _];have mono:∀(c:List (Sem Value))(d:Str)(s:Shared)(P q:Str->Shared->Prop),(∀o s,P o s->q o s)->Joins (model X.prog X.w) X.A X.xe c d P s->Joins (model X.prog X.w) X.A X.xe c d q s:=by intro c;induction c with|nil=>intro d s P q u j;exact u _ _ j|cons x rest F=>intro d s P q u j;exact v0 j (by rintro v D⟨y,t,N,M,L⟩;exact#[y,t,N,M,F _ _ _ _ u L]) λ_ _ x=>x
    refine mono _ _ _ _ _ (?_) J;rintro i D⟨p,S,K,E⟩;subst K;exact#[fZ C,.str _,p,S.tok _,#[_,rfl],E]
   .cases e
  .cases e
 .cases e
noncomputable def a2j(x:Str)(lo hi:Option Int):Str:=if((jR lo hi 1 x.length).length==x.length)=Qc then x else#[((jR lo hi 1 x.length).filterMap (x.cps[·]?)).toArray]
def b2L{v:Value}{o:Option Int}(p:QC v o):∃l:Option (Int×Tok),v=partValue l/\l.map (·.1)=o:=by cases p with|none=>exact#[Qb,rfl,rfl]|int i t=>exact#[Qa (i,t),rfl,rfl]
section
variable{a:Expr}{fl:OF}
def c2Y:SlR X (λx lo hi H Q=>∃z:Str,x=.str z/\(a2j z lo hi).length<=j5/\Q (.str<|a2j z lo hi) H):=by
 rintro B s U H x v vl j lo hi k Q I b f e d⟨z,rfl,a,q⟩;let⟨t,rfl⟩:=b;let⟨l,rfl,i⟩:=b2L e;let⟨u,rfl,g⟩:=b2L d;refine#["str",_,F.slot_str_getitem.lookup,yq _ _ _,?_];refine wpAny_getItem_str_slice (l:=l) (u:=u) (st:=Qb) f (by decide) ?_;unfold sliceMade slicePicked;show Made.post (if((1:Int)==1&&(jR (l.map (·.1)) (u.map (·.1)) 1 z.length).length==z.length)=Qc then _ else _) _ s;rw[i,g];unfold a2j at a q;by_cases c:((jR lo hi 1 z.length).length==z.length)=Qc;.rw[if_pos c]at a q;rw[if_pos<|by rw[c];rfl];exact#[.str z,H,I,#[t,rfl],q]
 .rw[if_neg c]at a q;rw[if_neg<|by exact c];exact#[a,.str _,H,I.tok _,#[_,rfl],q]
def slY(x:q8)(lo hi:Option Int):Option q8:=match x with|.str z=>if bN (a2j z lo hi).length then Qa (.str<|a2j z lo hi)else Qb|x=>slD x lo hi
def lQ(fa:EF)(lo hi:OF):EF:=λZ=>bnd (fa Z) λx=>bnd (lo Z) λl=>bnd (hi Z) λh=>lft<|slY x l h
def nK(u:DE X a fa)(f:DO X lo fl)(t:DO X hi fh):DE X (.Subscript a (.Slice lo hi Qb p2) pos) (lQ fa fl fh):=#[λB s U H Q I⟨Z,r,K,L,G,e,R,q⟩=>a9i (c2Y.or<|b2u.or b5T) u.run f.run t.run B s U H Q I (bE R e q.x λx v P J g C i A=>bO C A (q.more g).x λl N F k R2 z=>bO R2 z ((q.more g).more k).x λh M E w D y=>by
  let⟨d,c,rfl⟩:=bS y;have b:=k.trans w;unfold slY at c;split at c
  .split at c;.rename_i o;cases(qA c);cases i;exact .inl #[_,rfl,fZ o,q _ _ _ (g.trans b)<|.str _]
   .cases c
  .unfold slD at c;split at c;.cases(qA c);cases i with|list j r=>exact .inr (.inl #[_,_,rfl,(b.gg.trans b.sub).seq j,λl f=>q _ _ _ ((g.trans b).trans<|.put b.sub f)<|.list (.of aK)<|a1c (r.mono<|b.gg.trans<|cW<|b.sub.free f) _ _])
   .split at c;.cases c
    .rename_i p;cases(qA c);cases i with|tuple j r=>exact .inr (.inr #[_,_,rfl,uD (b.gg.trans b.sub) j,by rw[r.length];exact p,λl f=>q _ _ _ ((g.trans b).trans<|.put b.sub f)<|.tuple (.of aK)<|a1c (r.mono<|b.gg.trans<|cW<|b.sub.free f) _ _])
   .cases c)]
def boot_str:wn "str"=Qa (.type "str"):=by kernel_rfl
end
abbrev a1V:EF:=fK (.nm 0) [Qb,Qa 1] (nD<|slE (var 2) (bK<|cst<|.int 1) bX) ttT<|c2u (var 1)<|var 0
def a4K:SF:=(bI (dA 2<|dfE a0C (var 0)<|cst<|.str " ")<|retS<|eS uK<|aB (op2 aY (slE (var 2) bX<|bK<|cst<|.int 1) a1V) aG)
def a5i:List q8->Mm q8:=lV 3 2 a4K
def rK:SF:=(bI (dA 1<|aS a5j<|aB (var 0) aG)<|bI (dA 2<|op2 pG (var 0)<|cst<|.int 48)<|retS<|jnE<|aB (op1 nX<|var 1)<|aB (cst<|.str ":")<|aB (op1 nX<|var 2) aG)
def iI:List q8->Mm q8:=lV 3 1 rK
abbrev a8J:TF:=gS<|gI<|op1 (isD "str")<|var 0
abbrev a0S:EF:=fK (.nm 0) [Qb] (a3Y<|op2 aY (cst<|.int 480)<|cst<|.int 1) ttT<|iR<|aB (aS iI<|aB (var 0) aG)<|aB (var 0) aG
abbrev a4v:EF:=fK (.nm 0) [Qb,Qa 1] (nD<|slE (var 2) bX<|bK<|op1 b4q<|cst<|.int 1) ttT<|aS a5i<|aB (var 0)<|aB (var 1) aG
abbrev a3A:TF:=orT (eG neD (op2 ixD (var 2)<|op1 b4q<|cst<|.int 1)<|cst<|.str "")<|gS<|gI<|aS cR<|aB (var 3) aG
def yC:SF:=(bI (ifS a8J (eW "NoText") eM)<|bI (dA 1<|eS a6M<|aB a0S aG)<|bI (dA 2<|dfE a0C (var 0)<|cst<|.str "\n")<|bI (dA 3<|eS uK<|aB a4v aG)<|bI (ifS a3A (eW "NoText") eM)<|retS<|var 3)
def iQ:List q8->Mm q8:=oJ 4 1 yC
def a2d:SF:=(bI (dA 1<|op2 ixD (var 0)<|cst<|.int 0)<|bI (dA 2<|aS iI<|aB (op2 ixD (var 0)<|cst<|.int 1) aG)<|bI (dA 3<|aS iI<|aB (op2 ixD (var 0)<|cst<|.int 2) aG)<|retS<|jnE<|aB (op1 nX<|var 1)<|aB (cst<|.str " ")<|aB (op1 nX<|var 2)<|aB (cst<|.str " ")<|aB (op1 nX<|var 3)<|aB (cst<|.str "\n") aG)
def a2x:List q8->Mm q8:=lV 4 1 a2d
abbrev a4w:EF:=fK (.nm 0) [Qb] (nD<|var 0) ttT<|aS a2x<|aB (var 0) aG
def a2b:SF:=(retS<|dfE yJ (cst<|.str "") a4w)
def yG:List q8->Mm q8:=lV 1 1 a2b
def mtx(m:Int):Str:=mY qV [qH<|toString<|m/48,":",qH<|toString<|m%48]
noncomputable def b9i:List Nat->Nat->Nat->Bool->Nat|[],a,b,_=>a*48+b|c::l,a,b,k=>if c=58 then b9i l a b Qc else if k then b9i l a (b*10+(c-48)) Qc else b9i l (a*10+(c-48)) b Qd
def a1z(t:Str):Nat:=b9i t.cps.toList 0 0 Qd
def c0y:(qj 481).all (λm=>decide ((mtx (m:Int)).length<=5)&&decide (a1z (mtx (m:Int))=m)&&(mtx (m:Int)).cps.toList.all (λc=>decide (c≠32)&&decide (c≠10)&&decide (c<128)))=true:=by decide+kernel
def a7I{m:Nat}(h:m<481):(mtx (m:Int)).length<=5/\a1z (mtx (m:Int))=m/\∀c∈(mtx (m:Int)).cps.toList,c≠32/\c≠10/\c<128:=by have:=qu.mp c0y m<|kH.mpr h;rw[qD,qD,decide_eq_true_eq,decide_eq_true_eq]at this;refine#[this.1.1,this.1.2,λc a=>?_];have:=qu.mp this.2 c a;simp only[qD,decide_eq_true_eq]at this;exact#[this.1.1,this.1.2,this.2]
theorem a2F{m:Int}(b:0<=m)(a:m<=480):(mtx m).length<=5/\((a1z (mtx m):Nat):Int)=m/\∀c∈(mtx m).cps.toList,c≠32/\c≠10/\c<128:=by have h:=a7I (m:=m.toNat) (by lia);rw[show((m.toNat:Nat):Int)=m by lia]at h;exact#[h.1,by have:=h.2.1;lia,h.2.2]
def b8f{m:Int}(d:0<=m)(c:m<=480):iI [.int m]=Qa (.ok<|.str<|mtx m):=by
 have g:=(a2F d c).1;have b:fQ (m/48)=true:=by unfold fQ;simp only[qD,decide_eq_true_eq];omega
 have a:fQ (m%48)=true:=by unfold fQ;simp only[qD,decide_eq_true_eq];omega
 refine cN rfl ?_;unfold rK;rw[aI (ρ':=[.val<|.int m,.val<|.int<|m/48,.no])<|by rw[dW,bB (O:=[.int m]) rfl<|b8h m];rfl];rw[aI (ρ':=[.val<|.int m,.val<|.int<|m/48,.val<|.int<|m%48])<|by rfl];have f:op1 nX (var 1) [.val<|.int m,.val<|.int<|m/48,.val<|.int<|m%48]=Qa (.ok<|.str<|qH<|toString<|m/48):=by show lft (if fQ (m/48)=Qc then _ else Qb)=_;rw[if_pos b];rfl
 have e:op1 nX (var 2) [.val<|.int m,.val<|.int<|m/48,.val<|.int<|m%48]=Qa (.ok<|.str<|qH<|toString<|m%48):=by show lft (if fQ (m%48)=Qc then _ else Qb)=_;rw[if_pos a];rfl
 rw[cE];unfold jnE;rw[aM f<|aM rfl<|aM e rfl];show bns (if bN (mtx m).length=Qc then Qa (Re.ok<|qb<|mtx m)else Qb) _ _=_;rw[if_pos<|by exact decide_eq_true (by exact Q2 ‹_› rfl)];rfl
def mQ:List (q8×q8):=(qj 481).map λ(m:Nat)=>(.str<|mtx (m:Int),.int (m:Int))
def mom(t:Str):Option Int:=if a1z t<481/\mtx (a1z t:Nat)=t then Qa (a1z t:Nat)else Qb
theorem a9H k:∀ a b,dO k (a++b)=(dO k a).or (dO k b)
 |[],b=>by simp[dO]|p::a,b=>by
  show(if uG p.1=Qa k then Qa p.2 else dO k (a++b))=Option.or (if uG p.1=Qa k then Qa p.2 else dO k a) (dO k b);split;.rfl
  .exact a9H k a b
theorem a9E t:∀n,n<=481->dO (.inr t) ((qj n).map λ(m:Nat)=>((.str<|mtx (m:Int),.int (m:Int)):q8×q8))=if a1z t<n/\mtx (a1z t:Nat)=t then Qa (.int (a1z t:Nat))else Qb
 |0,_=>by simp[dO]|n+1,h=>by
  rw[vT,jD,a9H,a9E t n<|by exact Nat.le_of_lt ‹_›];show Option.or _ (if Qa (zG (mtx (n:Int)):Key)=Qa (.inr t)then Qa (jb (n:Int))else Qb)=_;by_cases c:mtx (n:Int)=t
  .have v:a1z t=n:=by rw[<-c];exact(a7I<|by assumption).2.1
   rw[if_neg (λz=>by have:=z.1;lia),if_pos (by rw[c]),v,if_pos #[by lia,c]];rfl
  .rw[if_neg<|λz=>c<|zQ<|qA z];by_cases d:a1z t<n/\mtx (a1z t:Nat)=t;.rw[if_pos d,if_pos #[by lia,d.2]];rfl
   .rw[if_neg d,if_neg];.rfl
    .rintro⟨b,a⟩;by_cases z:a1z t=n;.rw[z]at a;exact c a
     .exact d #[by lia,a]
def b7k t:dO (.inr t) mQ=(mom t).map .int:=by unfold mQ mom;rw[a9E t 481<|qM _];split<;>rfl
variable{t:Str}
def b7e{m:Int}(h:mom t=Qa m):0<=m/\m<=480/\mtx m=t:=by
 unfold mom at h;split at h;.rename_i c;cases h;exact#[by lia,by lia,c.2]
 .cases h
def a3l{m:Int}(b:0<=m)(a:m<=480):mom (mtx m)=Qa m:=by have h:=a2F b a;unfold mom;rw[if_pos #[by have:=h.2.1;omega,by rw[h.2.1]],h.2.1]
def c4I{x1 x2 x3 x0:Ent}:eS a6M (aB a0S aG) [x0,x1,x2,x3]=Qa (.ok<|.dict mQ):=by
 have k1:a0S [x0,x1,x2,x3]=Qa (.ok<|.list<|(qj 481).map λ(m:Nat)=>.tuple [.str<|mtx (m:Int),.int (m:Int)]):=eY (λ(k:Nat)=>jb<|0+(k:Int)) (λk=>[.val<|.int (k:Int)]) (λm=>.tuple [.str<|mtx (m:Int),.int (m:Int)]) (qj 481) (b2z (n:=481) rfl (by decide)<|by decide) (by decide) (λk _=>by simp[cF]) (λk hk=>by have hk:=kH.mp hk;unfold iR;rw[aM (bB (O:=[.int (k:Int)]) rfl<|b8f (by lia)<|by lia)<|aM rfl rfl];rfl);have al:lJ yP ((qj 481).map λ(m:Nat)=>.tuple [.str<|mtx (m:Int),.int (m:Int)])=Qa ((qj 481).map λ(m:Nat)=>((.inr (mtx (m:Int)):Key),jb (m:Int))):=by have:=lI (f:=yP) (g:=λp:Key×q8=>.tuple [hZ p.1,p.2]) (λp=>by show(uG<|hZ p.1).map (λk=>(k,p.2))=_;rw[a2h];rfl) ((qj 481).map λ(m:Nat)=>((.inr (mtx (m:Int)):Key),jb (m:Int)));rwa[qZ]at this
 have nd:(((qj 481).map λ(m:Nat)=>((.inr (mtx (m:Int)):Key),jb (m:Int))).map (·.1)).Nodup:=by rw[qZ,List.nodup_iff_pairwise_ne,jp];refine(List.nodup_iff_pairwise_ne.mp List.nodup_range).imp_of_mem λ{a b}ha hb h z=>h ?_;have e:=zQ z;have h1:=(a7I<|kH.mp ha).2.1;have h2:=(a7I<|kH.mp hb).2.1;rw[<-h1,<-h2,e]
 refine mB (O:=[.list<|(qj 481).map λ(m:Nat)=>.tuple [.str<|mtx (m:Int),.int (m:Int)]]) (by rw[bW,k1];rfl) ?_;unfold a6M;dsimp only;rw[al];dsimp only;rw[if_pos<|by rw[qD,decide_eq_true_eq,decide_eq_true_eq];exact#[nd,by rw[qF,kJ];lia]];unfold b7h mQ;rw[qZ];rfl
def join_one c x:ju c [x]=x:=rfl
def dJ c x y(r:T0q):ju c (x::y::r)=x++c++ju c (y::r):=rfl
def bY(a b:Str):(a++b).cps.toList=a.cps.toList++b.cps.toList:=by rw[show(a++b).cps=a.cps++b.cps from rfl,vo]
variable{a:Str}
def mE{b:Str}(h:a.cps.toList=b.cps.toList):a=b:=by cases a;cases b;congr;exact wT.mp h
theorem a9R{c:Nat}:∀{p q a b:T0t},c∉p->c∉q->p++c::a=q++c::b->p=q/\a=b|[],[],_,_,_,_,h=>#[rfl,(wC h).2]|[],y::q,_,_,_,hq,h=>absurd (by rw[(wC h).1];simp) hq|x::p,[],_,_,hp,_,h=>absurd (by rw[<-(wC h).1];simp) hp|x::p,y::q,a,b,hp,hq,h=>by let⟨g,f⟩:=wC h;let⟨e,d⟩:=a9R (λz=>hp<|qG _ z) (λz=>hq<|qG _ z) f;exact#[by rw[g,e],d]
def a7Q c x y(r:T0q):(ju #[(List.toArray [c])] (x::y::r)).cps.toList=x.cps.toList++c::(ju #[(List.toArray [c])] (y::r)).cps.toList:=by rw[dJ,bY,bY,jd];rfl
theorem a9L c:∀(ps qs:T0q),ps≠[]->qs≠[]->(∀p∈ps,c∉p.cps.toList)->(∀p∈qs,c∉p.cps.toList)->ju #[(List.toArray [c])] ps=ju #[(List.toArray [c])] qs->ps=qs|[],_,h,_,_,_,_=>absurd rfl h|_,[],_,h,_,_,_=>absurd rfl h|[p],[q],_,_,_,_,h=>by rw[join_one,join_one]at h;rw[h]|[p],q::q2::r,_,_,hp,_,h=>by rw[join_one]at h;exact absurd (by rw[h,a7Q];simp) (hp p<|by simp)|p::p2::r,[q],_,_,_,hq,h=>by rw[join_one]at h;exact absurd (by rw[<-h,a7Q];simp) (hq q<|by simp)|p::p2::r,q::q2::r',_,_,hp,hq,h=>by have e:=congrArg (λz:Str=>z.cps.toList) h;rw[a7Q,a7Q]at e;let⟨e1,e2⟩:=a9R (hp p<|by simp) (hq q<|by simp) e;rw[mE e1,a9L c (p2::r) (q2::r') (by simp) (by simp) (λx hx=>hp x<|qG _ hx) (λx hx=>hq x<|qG _ hx)<|mE e2]
def iX x y:qJ x y≠[]:=by
 unfold qJ;split;.simp
 .split;.simp
  .rw[StrLaws.partsBetween_eq];let⟨p,r,e⟩:=StrLaws.partsFrom_ne x y.length 0<|zY x y 0 x.length<|x.length+1;rw[e];simp
def a0B{c:Nat}{x:Str}(h:ju #[(List.toArray [c])] ps=x)(ne:ps≠[])(a:∀p∈ps,c∉p.cps.toList):qJ x #[(List.toArray [c])]=ps:=a9L c _ _ (iX _ _) ne (StrLaws.split_free x c) a (by rw[kF,h])
theorem a6D c:∀(ps:T0q),∀p∈ps,p.length<=(ju c ps).length
 |[],_,h=>nomatch h|[x],p,h=>by rw[qf.mp h];exact qM _|x::y::r,p,h=>by
  rw[dJ,j7,j7];obtain rfl|h:=qI.mp h;.lia
  .have:=a6D c (y::r) p h;lia
theorem a6E c:∀(ps:T0q),ps.length<=(ju #[(List.toArray [c])] ps).length+1|[]=>jJ _|[x]=>by simp|x::y::r=>by have:=a6E c (y::r);have e:(#[(List.toArray [c])]:Str).length=1:=rfl;rw[dJ,j7,j7,e,qO];lia
def split_len x c:(qJ x #[(List.toArray [c])]).length<=x.length+1:=by have:=a6E c<|qJ x #[(List.toArray [c])];rwa[kF]at this
def oF{x p:Str}(h:p∈qJ x y):p.length<=x.length:=by have:=a6D y _ p h;rwa[kF]at this
def c2e:qH " "=#[(List.toArray [32])]:=by decide+kernel
def b2R:qH "\n"=#[(List.toArray [10])]:=by decide+kernel
def a7k{x:Str}{c:Nat}(h:x.length<=10000):a0C (.str x) (.str #[(List.toArray [c])])=Qa (.list<|(qJ x #[(List.toArray [c])]).map .str):=by have l:=split_len x c;show(if((#[(List.toArray [c])]:Str).length !=0&&bN x.length&&bN (qJ x #[(List.toArray [c])]).length)=Qc then _ else Qb)=_;rw[if_pos];rw[qD,qD];exact#[#[rfl,by exact decide_eq_true (by exact Q2 ‹_› rfl)],by exact decide_eq_true (by lia)]
noncomputable abbrev sp:Str:=#[(List.toArray [32])]
noncomputable abbrev nl:Str:=#[(List.toArray [10])]
def uE(t:Str):q8:=((mom t).map jb).getD .none
def fH(ps:T0q):q8:=.tuple<|(ps.take 1).map .str++(ps.drop 1).map uE
theorem c4H{l:Str}(c:l.length<=10000):a5i [.str l,.dict mQ]=Qa (.ok<|fH<|qJ l sp):=by
 have a:=split_len l 32;refine cN rfl ?_;unfold a4K;rw[aI (ρ':=[.val<|.str l,.val<|.dict mQ,.val<|.list<|(qJ l sp).map .str])<|by rw[dW];show bns (lft<|a0C (.str l)<|.str<|qH " ") _ _=_;rw[c2e,a7k c];rfl];generalize qJ l sp=ps at a;have e:slE (var 2) (bK<|cst<|.int 1) bX [.val<|.str l,.val<|.dict mQ,.val<|.list<|ps.map .str]=Qa (.ok<|.list<|(ps.drop 1).map .str):=by show lft (Qa<|vA<|cutD (ps.map .str) (Qa 1) Qb)=_;rw[a6O _ (by decide),List.map_drop];rfl
 have d:slE (var 2) bX (bK<|cst<|.int 1) [.val<|.str l,.val<|.dict mQ,.val<|.list<|ps.map .str]=Qa (.ok<|.list<|(ps.take 1).map .str):=by show lft (Qa<|vA<|cutD (ps.map .str) Qb<|Qa 1)=_;rw[b5d _ (by decide),List.map_take];rfl
 have b:a1V [.val<|.str l,.val<|.dict mQ,.val<|.list<|ps.map .str]=Qa (.ok<|.list<|(ps.drop 1).map uE):=eY qb (λt=>[.val<|.str t,.val<|.dict mQ]) uE (ps.drop 1) (nT e rfl) (by rw[kQ];lia) (λt _=>by rfl) (λt _=>by show lft (Qa<|(dO (.inr t) mQ).getD .none)=_;rw[b7k];rfl);have f:op2 aY (slE (var 2) bX<|bK<|cst<|.int 1) a1V [.val<|.str l,.val<|.dict mQ,.val<|.list<|ps.map .str]=Qa (.ok<|.list<|(ps.take 1).map .str++(ps.drop 1).map uE):=by rw[uZ,d,bG,b,bG,b9b,if_pos<|by rw[qF,qF,jw,kQ];lia];rfl
 rw[cE,mB (O:=[.list<|(ps.take 1).map .str++(ps.drop 1).map uE]) (by rw[bW,f];rfl)<|a5R _];rfl
def oK(t:Str):List q8:=(qJ t nl).dropLast.map λl=>fH<|qJ l sp
theorem b8D O:cutD O Qb (Qa<|-1)=O.dropLast:=by rw[List.dropLast_eq_take];show((O.drop 0).take<|(-1+(O.length:Int)).toNat-0)=_;rw[List.drop_zero,Nat.sub_zero,show(-1+(O.length:Int)).toNat=O.length-1 by lia]
def c0J h:atI O (-1)=Qa (O.getLast h):=by
 conv=>lhs;rw[<-List.dropLast_concat_getLast h]
 exact b8V _ _
theorem b8d(k:t.length<=10000){b:Bool}(p:cR [.tuple<|oK t]=Qa (.ok<|.bool b)):iQ [.str t]=if(qJ t nl).getLast (iX _ _)=qV/\b=Qc then Qa (.ok<|.tuple<|oK t)else Qa (.ex "NoText"):=by
 have u:(qJ t nl).length<=t.length+1:=split_len t 10;have ne:=iX t nl;have g:ifS a8J (eW "NoText") eM [.val<|.str t,.no,.no,.no]=Qa (.nx [.val<|.str t,.no,.no,.no]):=rfl;have f:dA 1 (eS a6M<|aB a0S aG) [.val<|.str t,.no,.no,.no]=Qa (.nx [.val<|.str t,.val<|.dict mQ,.no,.no]):=by rw[dW,c4I];rfl
 have e:dA 2 (dfE a0C (var 0)<|cst<|.str "\n") [.val<|.str t,.val<|.dict mQ,.no,.no]=Qa (.nx [.val<|.str t,.val<|.dict mQ,.val<|.list<|(qJ t nl).map .str,.no]):=by rw[dW];show bns (lft<|a0C (.str t)<|.str<|qH "\n") _ _=_;rw[b2R,a7k k];rfl
 have r:slE (var 2) bX (bK<|op1 b4q<|cst<|.int 1) [.val<|.str t,.val<|.dict mQ,.val<|.list<|(qJ t nl).map .str,.no]=Qa (.ok<|.list<|(qJ t nl).dropLast.map .str):=by show lft (Qa<|vA<|cutD ((qJ t nl).map .str) Qb<|Qa<|-1)=_;rw[b8D,<-List.map_dropLast];rfl
 have j:a4v [.val<|.str t,.val<|.dict mQ,.val<|.list<|(qJ t nl).map .str,.no]=Qa (.ok<|.list<|oK t):=eY qb (λl=>[.val<|.str l,.val<|.dict mQ]) (λl=>fH<|qJ l sp) (qJ t nl).dropLast (nT r rfl) (by rw[List.length_dropLast];lia) (λl _=>by rfl) (λl o=>by have:=oF<|List.dropLast_subset _ o;exact bB (O:=[.str l,.dict mQ]) rfl<|c4H<|by lia);have d:dA 3 (eS uK<|aB a4v aG) [.val<|.str t,.val<|.dict mQ,.val<|.list<|(qJ t nl).map .str,.no]=Qa (.nx [.val<|.str t,.val<|.dict mQ,.val<|.list<|(qJ t nl).map .str,.val<|.tuple<|oK t]):=by rw[dW,mB (O:=[.list<|oK t]) (by rw[bW,j];rfl)<|a5R _];rfl
 have i:op2 ixD (var 2) (op1 b4q<|cst<|.int 1) [.val<|.str t,.val<|.dict mQ,.val<|.list<|(qJ t nl).map .str,.val<|.tuple<|oK t]=Qa (.ok<|.str<|(qJ t nl).getLast ne):=by show lft (atI ((qJ t nl).map qb)<|-1)=_;rw[c0J (by simpa using ne),List.getLast_map];rfl
 have a:a3A [.val<|.str t,.val<|.dict mQ,.val<|.list<|(qJ t nl).map .str,.val<|.tuple<|oK t]=Qa (.ok<|!(decide ((qJ t nl).getLast ne=qV)&&b)):=by
  rw[show a3A=orT _ _ from rfl,a9p,fF (x:=.str<|(qJ t nl).getLast ne) (y:=.str "") i rfl<|a9x _ _,bG];have z:gS (gI<|aS cR<|aB (var 3) aG) [.val<|.str t,.val<|.dict mQ,.val<|.list<|(qJ t nl).map .str,.val<|.tuple<|oK t]=Qa (.ok<|!b):=by show bnd (bnd (aS cR (aB (var 3) aG) _) _) _=_;rw[bB (O:=[.tuple<|oK t]) rfl p];rfl
  rw[z];rw[show(qH "")=qV from by decide+kernel];by_cases c:(qJ t nl).getLast ne=qV;.rw[decide_eq_true c];rfl
  .rw[decide_eq_false c];rfl
 have q:iQ [.str t]=oJ 4 1 yC [.str t]:=rfl;by_cases c:(qJ t nl).getLast ne=qV/\b=Qc;.rw[if_pos c];refine nU rfl ?_;show yC [.val<|.str t,.no,.no,.no]=_;unfold yC;rw[aI g,aI f,aI e,aI d,aI<|by rw[dY,a,decide_eq_true c.1,c.2];rfl];rfl
 .rw[if_neg c];refine iL (Z:=[.val<|.str t,.val<|.dict mQ,.val<|.list<|(qJ t nl).map .str,.val<|.tuple<|oK t]) rfl ?_;show yC [.val<|.str t,.no,.no,.no]=_;unfold yC;rw[aI g,aI f,aI e,aI d];have s:(!(decide ((qJ t nl).getLast ne=qV)&&b))=true:=by cases b with|false=>simp|true=>simpa usingλz=>c #[z,rfl]
  exact xR (by rw[dY,a,s];rfl)
def nmB(z:Str):Bool:=decide (1<=z.length)&&decide (z.length<=4)&&(lettersOf z).all λl=>bQ "a" l&&bQ l "z"
theorem yD(j:z.length<=100000):bC [.str z]=Qa (.ok<|.bool<|nmB z):=by
 have a:a0a [.val<|.str z]=Qa (.ok<|!(decide (1<=z.length)&&decide (z.length<=4))):=by
  have e:a0a [.val<|.str z]=bnd (bnd (Qa<|.ok<|decide ((1:Int)<=(z.length:Nat))) λt=>if t then Qa (.ok<|decide (((z.length:Nat):Int)<=4))else Qa (.ok Qd)) λt=>Qa<|.ok<|!t:=by
   have q:eS mS (aB (var 0) aG) [.val<|.str z]=Qa (.ok<|.int (z.length:Nat)):=by show lft (if bN z.length=Qc then Qa (jb (z.length:Nat))else Qb)=_;rw[if_pos<|by exact decide_eq_true j];rfl
   show bnd (bnd (eS mS (aB (var 0) aG) [.val<|.str z]) _) _=_;rw[q];rfl
  rw[e];have g:decide ((1:Int)<=(z.length:Nat))=decide (1<=z.length):=by by_cases c:1<=z.length<;>simp<;>lia
  have f:decide (((z.length:Nat):Int)<=4)=decide (z.length<=4):=by by_cases c:z.length<=4<;>simp<;>lia
  rw[g,f];by_cases c:1<=z.length<;>simp[c]
 refine cN rfl ?_;show a2f [.val<|.str z]=_;unfold a2f nmB;cases b:(decide (1<=z.length)&&decide (z.length<=4))with|false=>rw[b]at a;refine(iJ (d:=.bool Qd)<|by rw[dY,a];rfl).trans ?_;rfl|true=>
  rw[b]at a;rw[aI (ρ':=[.val<|.str z])<|by rw[dY,a];rfl];have k:z.length<=4:=by rw[qD,decide_eq_true_eq,decide_eq_true_eq]at b;exact b.2
  have i:a4y [.val<|.str z]=Qa (.ok<|.list<|((lettersOf z).map λl=>bQ "a" l&&bQ l "z").map .bool):=by rw[qZ];refine eY qb (λl=>[.val<|.str l]) _ (lettersOf z) rfl (by unfold lettersOf;rw[qF,qa];exact qk k<|by decide) (λl _=>by rfl) (λl _=>?_);have e:c1I leD leD (cst<|.str "a") (var 0) (cst<|.str "z") [.val<|.str l]=bnd (Qa<|.ok<|bQ "a" l) λt=>if t then Qa (.ok<|.bool<|bQ l "z")else Qa (.ok<|.bool Qd):=rfl;rw[e,bG];show _=Qa (Re.ok<|vb<|bQ "a" l&&bQ l "z");cases bQ "a" l<;>rfl
  rw[cE,mB (O:=[.list<|((lettersOf z).map λl=>bQ "a" l&&bQ l "z").map .bool]) (by rw[bW,i];rfl)<|all_bools _,oY,List.all_map];rfl
def eF(h:nmB z=Qc):z.length<=4/\∀c∈z.cps.toList,97<=c/\c<=122:=by
 unfold nmB at h;rw[qD,qD,decide_eq_true_eq,decide_eq_true_eq]at h;refine#[h.1.2,λc d=>?_];have:=qu.mp h.2 #[(List.toArray [c])] (qR.mpr #[c,d,rfl]);rw[qD]at this;let⟨b,a⟩:=this;have f:(qH "a").cps.toList=[97]:=by decide+kernel
 have e:(qH "z").cps.toList=[122]:=by decide+kernel
 unfold bQ at b a;rw[f]at b;rw[e]at a;have b:¬([c]<[97]):=by simpa using b
 have a:¬([122]<[c]):=by simpa using a
 constructor;.exact wQ λz=>b (List.Lex.rel z)
 .exact wQ λz=>a<|List.Lex.rel z
def b6S(h:nmB z=Qc):jN z=true:=by have b:=(eF h).2;unfold jN;rw[<-Array.all_toList];rw[qu];intro c a;have:=b c a;exact decide_eq_true (by lia)
def mtP(ps:T0q):Option Mt:=match ps with|[a,b,c]=>if nmB a then(match mom b,mom c with|some x,Qa y=>if tmB x y then Qa (a,x,y)else Qb|_,_=>Qb)else Qb|_=>Qb
def b7Z b c:eO [uE b,uE c]=Qa (.ok<|.bool (match mom b,mom c with|some x,Qa y=>tmB x y|_,_=>Qd)):=by unfold uE;cases mom b with
 |none=>cases mom c with|none=>kernel_rfl|some y=>exact cN rfl rfl
 |some x=>cases mom c with|none=>exact cN rfl rfl|some y=>exact a4Q x y
theorem b1H(ne:ps≠[])(i:∀p∈ps,p.length<=10000):nZ [fH ps]=Qa (.ok<|.bool (mtP ps).isSome):=by
 have g:((ps.take 1).map qb++(ps.drop 1).map uE).length=ps.length:=by rw[qY,qF,qF,jw,kQ];lia
 have f:pX [.val<|fH ps]=Qa (.ok<|decide (ps.length≠3)):=by have e:pX [.val<|fH ps]=Qa (.ok<|!decide (((((ps.take 1).map qb++(ps.drop 1).map uE).length:Nat):Int)=3)):=rfl;rw[e,g];by_cases c:ps.length=3<;>simp<;>lia
 refine cN rfl ?_;show lF [.val<|fH ps]=_;unfold lF;by_cases c:ps.length=3;.rw[aI (ρ':=[.val<|fH ps])<|by rw[dY,f,decide_eq_false<|by simpa using c];rfl];match ps,c with
  |[a,b,c],_=>
   have n:=bB (F:=bC) (aa:=aB (op2 ixD (var 0)<|cst<|.int 0) aG) (Z:=[.val<|fH [a,b,c]]) (O:=[.str a]) rfl<|yD<|qk (i a<|by simp) (by decide);have w:=bB (F:=eO) (aa:=aB (op2 ixD (var 0)<|cst<|.int 1)<|aB (op2 ixD (var 0)<|cst<|.int 2) aG) (Z:=[.val<|fH [a,b,c]]) (O:=[uE b,uE c]) rfl<|b7Z b c;rw[cE];have k:b2e (aS bC<|aB (op2 ixD (var 0)<|cst<|.int 0) aG) (aS eO<|aB (op2 ixD (var 0)<|cst<|.int 1)<|aB (op2 ixD (var 0)<|cst<|.int 2) aG) [.val<|fH [a,b,c]]=Qa (.ok<|.bool (mtP [a,b,c]).isSome):=by have j:mtP [a,b,c]=if nmB a then(match mom b,mom c with|some x,Qa y=>if tmB x y then Qa (a,x,y)else Qb|_,_=>Qb)else none:=rfl;rw[c5l,n,bG,j];cases nmB a with|false=>rfl|true=>rw[show lft (xI<|.bool Qc)=Qa (.ok Qc)from rfl,bG,if_pos rfl,w];cases mom b with|none=>rfl|some x=>cases mom c with|none=>rfl|some y=>dsimp only;cases tmB x y<;>rfl
   rw[k];rfl
 .refine(iJ (d:=.bool Qd)<|by rw[dY,f,decide_eq_true c];rfl).trans ?_;have:mtP ps=none:=by
   unfold mtP;split;.exact absurd rfl c
   .rfl
  rw[this];rfl
def lineOf(m:Mt):Str:=ju sp [m.1,mtx m.2.1,mtx m.2.2]
def c4c{m:Mt}(h:mtP ps=Qa m):fH ps=dM m/\MtOk m/\nmB m.1=Qc/\ju sp ps=lineOf m:=by
 unfold mtP at h;split at h
 .rename_i a b c;split at h
  .rename_i d;split at h
   .rename_i x y f e;split at h
    .rename_i k;cases h;let⟨r,q,i⟩:=b7e f;let⟨p,o,g⟩:=b7e e;have j:=a0z.mp k;refine#[?_,#[by rw[yD<|qk (eF d).1 (by decide),d],b6S d,j],d,?_];.show vy [.str a,uE b,uE c]=.tuple [.str a,.int x,.int y];unfold uE;rw[f,e];rfl
     .unfold lineOf;rw[i,g]
    .cases h
   .cases h
  .cases h
 .cases h
theorem a9b:∀(L:List (List Str)),(∀ps∈L,(mtP ps).isSome=Qc)->∃s:List Mt,L.map mtP=s.map Qa|[],_=>#[[],rfl]|ps::L,h=>by let⟨s,e⟩:=a9b L λx a=>h x<|qG _ a;let⟨m,b⟩:=vD.mp<|h ps (by simp);exact#[m::s,by rw[qE,qE,e,b]]
theorem a4l:∀{L:List (List Str)}{s:List Mt},L.map mtP=s.map Qa->L.map fH=s.map dM/\(∀m∈s,MtOk m/\nmB m.1=Qc)/\L.map (ju sp)=s.map lineOf
 |[],[],_=>#[rfl,(λ_ h=>nomatch h),rfl]|[],_::_,h=>by simp at h|_::_,[],h=>by simp at h|ps::L,m::s,h=>by
  rw[qE,qE,kl]at h;let⟨a,b,c⟩:=a4l h.2;let⟨d,e,f,g⟩:=c4c h.1;refine#[by rw[qE,qE,a,d],λx i=>?_,by rw[qE,qE,c,g]];obtain rfl|i:=qI.mp i;.exact#[e,f]
  .exact b x i
theorem a8e(L:List (List Str))(t:L.length<=10001)(f:∀ps∈L,ps≠[])(d:∀ps∈L,∀p∈ps,p.length<=10000):∃b,cR [.tuple<|L.map fH]=Qa (.ok<|.bool b)/\(b=Qc->∃s:List Mt,s.length<=16/\L.map mtP=s.map Qa):=by
 have g:uR [.val<|.tuple<|L.map fH]=Qa (.ok<|decide (16<L.length)):=by have e:uR [.val<|.tuple<|L.map fH]=Qa (.ok<|decide ((16:Int)<((L.map fH).length:Nat))):=rfl;rw[e,qF];by_cases c:16<L.length<;>simp<;>lia
 by_cases c:16<L.length;.refine#[Qd,cN rfl ?_,λz=>by cases z];show iT [.val<|.tuple<|L.map fH]=_;exact iJ (by rw[dY,g,decide_eq_true c];rfl)
 .by_cases a:∀ps∈L,(mtP ps).isSome=Qc
  .let⟨s,e⟩:=a9b L a;let⟨k,r2,r3⟩:=a4l e;have u:L.length=s.length:=by have:=congrArg zm e;simpa using this
   refine#[_,by rw[k];exact tP s (by omega) λm q=>(r2 m q).1,λ_=>#[s,by omega,e]]
  .refine#[Qd,cN rfl ?_,λz=>by cases z];show iT [.val<|.tuple<|L.map fH]=_;unfold iT;rw[aI (ρ':=[.val<|.tuple<|L.map fH])<|by rw[dY,g,decide_eq_false c];rfl];have o:mT [.val<|.tuple<|L.map fH]=Qa (.ok<|.list<|(L.map λps=>(mtP ps).isSome).map .bool):=by rw[qZ];exact eY fH (λps=>[.val<|fH ps]) _ L rfl (by exact Q2 ‹_› rfl) (λps _=>by rfl) (λps i=>bB (O:=[fH ps]) rfl<|b1H (f ps i)<|d ps i)
   have r:(L.map λps=>(mtP ps).isSome).all id=false:=by rw[Bool.eq_false_iff];intro z;rw[List.all_map,qu]at z;exact a λps d=>z ps d
   have j:uP [.val<|.tuple<|L.map fH]=Qa (.ok Qc):=by show gS (gI<|eS allB<|aB mT aG) _=_;rw[b6N,b0A,a2r,bW,o];simp only[bG,a2v,a4q,all_bools,r,b5G,Bool.not_false]
   exact iJ (by rw[dY,j];rfl)
theorem a8m:∀ Y a,(mY a Y).cps.toList=a.cps.toList++(Y.map λx=>x.cps.toList).flatten|[],a=>by simp[mY]|x::Y,a=>by show(mY (a++x) Y).cps.toList=_;rw[a8m Y<|a++x,bY,qE,qe,jd]
def mR(m:Mt):Str:=lineOf m++nl
def txO(s:List Mt):Str:=mY qV<|s.map mR
theorem a7g:∀s:List Mt,txO s=ju nl (s.map lineOf++[qV])|[]=>rfl|m::s=>by refine mE ?_;have ih:=congrArg (λz:Str=>z.cps.toList)<|a7g s;unfold txO at ih⊢;rw[a8m]at ih⊢;rw[qE,qE,qe,qE,List.cons_append];cases s with|nil=>show qV.cps.toList++((mR m).cps.toList++[])=(ju nl (lineOf m::qV::[])).cps.toList;rw[dJ,bY,bY,join_one];unfold mR;rw[bY];simp[qV]|cons m2 s=>have e:(m2::s).map lineOf++[qV]=lineOf m2::(s.map lineOf++[qV]):=rfl;rw[e]at ih⊢;rw[dJ,bY,bY,<-ih];show qV.cps.toList++((lineOf m++nl).cps.toList++_)=_;rw[bY];rfl
structure WOk(m:Mt):Prop where
 nm:m.1.length<=4
 t1:0<=m.2.1/\m.2.1<=480
 t2:0<=m.2.2/\m.2.2<=480
def a4p{m:Mt}(h:WOk m):(mR m).length<=17:=by have a:=(a2F h.t1.1 h.t1.2).1;have b:=(a2F h.t2.1 h.t2.2).1;have c:=h.nm;have e:(sp:Str).length=1:=rfl;have d:(nl:Str).length=1:=rfl;unfold mR lineOf;rw[j7,dJ,dJ,join_one,j7,j7,j7,j7,e,d];lia
theorem a4Z B0:∀ Y a,(∀x∈Y,x.length<=B0)->(mY a Y).length<=a.length+B0*Y.length|[],a,_=>by simp[mY]|x::Y,a,h=>by have:=a4Z B0 Y (a++x) λy b=>h y<|qG _ b;rw[j7]at this;have c:=h x (by simp);show(mY (a++x) Y).length<=_;rw[qO,Nat.mul_succ];lia
def a7f(h:∀m∈s,WOk m):(txO s).length<=17*s.length:=by
 have:=a4Z 17 (s.map mR) qV λx a=>by let⟨m,b,rfl⟩:=qR.mp a;exact a4p (h m b)
 have e:qV.length=0:=rfl;rw[e,qF]at this;unfold txO;lia
def c4J{m:Mt}(h:WOk m):a2x [dM m]=Qa (.ok<|.str<|mR m):=by
 have a:=(a2F h.t1.1 h.t1.2).1;have b:=(a2F h.t2.1 h.t2.2).1;have c:=h.nm;have j:=a4p h;have d:∀(z:Str),z.length<=100->nX (.str z)=Qa (.str z):=λz k=>by show(if bN z.length=Qc then Qa (qb z)else Qb)=_;rw[if_pos<|by exact decide_eq_true (by exact Q2 ‹_› rfl)]
 refine cN rfl ?_;unfold a2d;rw[aI (ρ':=[.val<|dM m,.val<|.str m.1,.no,.no]) rfl];rw[aI (ρ':=[.val<|dM m,.val<|.str m.1,.val<|.str<|mtx m.2.1,.no])<|by rw[dW,bB (O:=[.int m.2.1]) rfl<|b8f h.t1.1 h.t1.2];rfl];rw[aI (ρ':=[.val<|dM m,.val<|.str m.1,.val<|.str<|mtx m.2.1,.val<|.str<|mtx m.2.2])<|by rw[dW,bB (O:=[.int m.2.2]) rfl<|b8f h.t2.1 h.t2.2];rfl];have i:op1 nX (var 1) [.val<|dM m,.val<|.str m.1,.val<|.str<|mtx m.2.1,.val<|.str<|mtx m.2.2]=Qa (.ok<|.str m.1):=by show lft (nX<|.str m.1)=_;rw[d _<|by exact Q2 ‹_› rfl];rfl
 have g:op1 nX (var 2) [.val<|dM m,.val<|.str m.1,.val<|.str<|mtx m.2.1,.val<|.str<|mtx m.2.2]=Qa (.ok<|.str<|mtx m.2.1):=by show lft (nX<|.str<|mtx m.2.1)=_;rw[d _<|by exact Q2 ‹_› rfl];rfl
 have f:op1 nX (var 3) [.val<|dM m,.val<|.str m.1,.val<|.str<|mtx m.2.1,.val<|.str<|mtx m.2.2]=Qa (.ok<|.str<|mtx m.2.2):=by show lft (nX<|.str<|mtx m.2.2)=_;rw[d _<|by exact Q2 ‹_› rfl];rfl
 have e:mY qV [m.1,qH " ",mtx m.2.1,qH " ",mtx m.2.2,qH "\n"]=mR m:=by refine mE ?_;unfold mR lineOf;rw[a8m,c2e,b2R,bY,dJ,dJ,join_one];simp only[bY,jd];rfl
 rw[cE];unfold jnE;rw[aM i<|aM rfl<|aM g<|aM rfl<|aM f<|aM rfl rfl];show bns (if bN (mY qV [m.1,qH " ",mtx m.2.1,qH " ",mtx m.2.2,qH "\n"]).length=Qc then Qa (Re.ok<|qb<|mY qV [m.1,qH " ",mtx m.2.1,qH " ",mtx m.2.2,qH "\n"])else Qb) _ _=_;rw[e,if_pos<|by exact decide_eq_true (by exact Q2 ‹_› rfl)];rfl
theorem a4z:∀(Y:T0q),ju qV Y=mY qV Y|[]=>rfl|[x]=>by refine mE ?_;rw[a8m,join_one];simp;rfl|x::y::r=>by have ih:=congrArg (λz:Str=>z.cps.toList)<|a4z (y::r);refine mE ?_;rw[a8m]at ih;rw[dJ,bY,bY,ih,a8m];simp;rfl
def b4R(h:∀m∈s,WOk m)(hz:s.length<=100):yG [dS s]=Qa (.ok<|.str<|txO s):=by
 refine cN rfl ?_;show a2b [.val<|dS s]=_;have k1:a4w [.val<|dS s]=Qa (.ok<|.list<|(s.map mR).map .str):=by rw[qZ];exact eY dM (λm=>[.val<|dM m]) _ s (by simp) (by omega) (λm _=>by simp[cF]) (λm hm=>bB (O:=[dM m]) rfl<|c4J<|h m hm)
 have jo:QD qV (s.map mR)=true:=by unfold QD;rw[StrLaws.joinFits (B:=17) (λy hy=>by let⟨m,hm,rfl⟩:=qR.mp hy;exact a4p<|h m hm) (by have e:qV.length=0:=rfl;rw[qF,e];omega)];rfl
 unfold a2b;rw[cE];unfold dfE;rw[k1];show bns (lft<|yJ (.str<|qH "")<|.list<|(s.map mR).map .str) _ _=_;have ej:yJ (.str<|qH "") (.list<|(s.map mR).map .str)=Qa (.str<|txO s):=by unfold yJ;dsimp only;rw[lI (g:=.str) (λ_=>rfl)<|s.map mR];dsimp only;rw[show qH ""=qV from by decide+kernel,if_pos jo];unfold Txt.join;rw[vq,a4z];rfl
 rw[ej];rfl
def a1Q{m:Mt}(d:nmB m.1=Qc)(h:WOk m):(∀p∈[m.1,mtx m.2.1,mtx m.2.2],32∉p.cps.toList)/\10∉(lineOf m).cps.toList:=by
 have n:=(eF d).2;have a:=(a2F h.t1.1 h.t1.2).2.2;have b:=(a2F h.t2.1 h.t2.2).2.2;refine#[λp c z=>?_,λz=>?_]
 .have:p=m.1\/p=mtx m.2.1\/p=mtx m.2.2:=by simpa using c
  obtain rfl|rfl|rfl:=this;.have:=n _ z;lia
  .exact(a _ z).1 rfl
  .exact(b _ z).1 rfl
 .unfold lineOf at z;rw[dJ,dJ,join_one,bY,bY,bY,bY]at z;simp only[qU]at z;obtain(z|z)|(z|z)|z:=z;.have:=n _ z;lia
  .have:(10:Nat)∈[32]:=z;simp at this
  .exact(a _ z).2.1 rfl
  .have:(10:Nat)∈[32]:=z;simp at this
  .exact(b _ z).2.1 rfl
def a0c(c:∀m∈s,nmB m.1=Qc)(h:∀m∈s,WOk m):qJ (txO s) nl=s.map lineOf++[qV]:=by
 refine a0B (a7g s).symm (by simp) λp a=>?_;obtain a|a:=qU.mp a;.let⟨m,b,rfl⟩:=qR.mp a;exact(a1Q (c m b)<|h m b).2
 .rw[qf.mp a];simp[qV]
def a6k(b:∀m∈s,nmB m.1=Qc)(h:∀m∈s,WOk m):oK (txO s)=s.map dM:=by unfold oK;rw[a0c b h,List.dropLast_concat,qZ];refine jO λm a=>?_;show fH (qJ (lineOf m) sp)=dM m;rw[show qJ (lineOf m) sp=[m.1,mtx m.2.1,mtx m.2.2]from a0B (c:=32) rfl (by simp) (a1Q (b m a)<|h m a).1];show vy [.str m.1,uE<|mtx m.2.1,uE<|mtx m.2.2]=_;unfold uE;rw[a3l (h m a).t1.1 (h m a).t1.2,a3l (h m a).t2.1 (h m a).t2.2];rfl
def a9W(a:∀m∈s,nmB m.1=Qc)(h:∀m∈s,WOk m)(d:s.length<=100)(f:cR [dS s]=Qa (.ok<|.bool Qc)):iQ [.str<|txO s]=Qa (.ok<|dS s):=by
 have l:=a7f h;have e:=b8d (t:=txO s) (by lia) (b:=Qc) (by rwa[a6k a h]);rw[e,if_pos,a6k a h];refine#[?_,rfl];have g:∀(L:T0q)(c:L≠[]),L=s.map lineOf++[qV]->L.getLast c=qV:=λL c e=>by subst e;simp
 exact g _ _<|a0c a h
def b4g(a:(qJ t nl).getLast (iX _ _)=qV)(e:((qJ t nl).dropLast.map λl=>qJ l sp).map (ju sp)=s.map lineOf):txO s=t:=by
 have b:(qJ t nl).dropLast=s.map lineOf:=by
  rw[<-e,qZ];conv=>lhs;rw[<-List.map_id (qJ t nl).dropLast]
  exact jO λl _=>(kF l sp).symm
 rw[a7g,<-b,<-a,List.dropLast_concat_getLast,kF]
theorem b8E x lo hi:(a2j x lo hi).length<=x.length:=by
 unfold a2j;split;.exact qM _
 .show((jR lo hi 1 x.length).filterMap (x.cps[·]?)).toArray.size<=_;rw[qT];refine qk (List.length_filterMap_le _ _) ?_;unfold jR QB;rw[qF,kJ];cases lo with
  |none=>cases hi with|none=>simp;split<;>lia|some j=>simp;split<;>split<;>lia
  |some i=>cases hi with|none=>simp;split<;>split<;>omega|some j=>simp;split<;>split<;>split<;>lia
abbrev uQ:TF:=eG ltD (var 6)<|cst<|.int 2
abbrev uO:TF:=eG eqD (var 6)<|cst<|.int 2
abbrev uN:TF:=eG ltD (var 6)<|cst<|.int 5
abbrev uM:TF:=eG eqD (var 6)<|cst<|.int 5
abbrev uL:TF:=eG eqD (var 6)<|cst<|.int 6
def tO:SF:=(bI (dA 3<|op2 pG (var 1)<|op2 aY (eS mS<|aB (var 0) aG)<|cst<|.int 1)<|bI (dA 4<|op2 ixD (var 2)<|op2 pG (op2 a2a (var 1)<|cst<|.int 1000)<|eS mS<|aB (var 2) aG)<|bI (dA 5<|op2 aY (op2 aY (var 3)<|cst<|.int 1)<|op2 pG (op2 a2a (var 1)<|cst<|.int 7)<|cst<|.int 9)<|bI (dA 6<|op2 pG (op2 a2a (var 1)<|cst<|.int 100000)<|cst<|.int 8)<|bI (ifS uQ (retS<|op2 aY (op2 aY (lQ (var 0) bX<|bK<|var 3)<|var 4)<|lQ (var 0) (bK<|var 3) bX) eM)<|bI (ifS uO (retS<|op2 aY (lQ (var 0) bX<|bK<|var 3)<|lQ (var 0) (bK<|op2 aY (var 3)<|cst<|.int 1) bX) eM)<|bI (ifS uN (retS<|op2 aY (op2 aY (lQ (var 0) bX<|bK<|var 3)<|var 4)<|lQ (var 0) (bK<|op2 aY (var 3)<|cst<|.int 1) bX) eM)<|bI (ifS uM (retS<|op2 aY (lQ (var 0) bX<|bK<|var 3)<|lQ (var 0) (bK<|var 5) bX) eM)<|bI (ifS uL (retS<|op2 aY (lQ (var 0) bX<|bK<|var 5)<|lQ (var 0) (bK<|var 3) bX) eM)<|retS<|op2 ixD (nJ<|aB (op2 aY (var 0)<|cst<|.str " ")<|aB (op2 aY (cst<|.str " ")<|var 0)<|aB (op2 aY (lQ (var 0) (bK<|var 3) bX)<|lQ (var 0) bX<|bK<|var 3)<|aB (cst<|.str "")<|aB (op2 aY (var 0)<|var 0) aG)<|op2 pG (var 1)<|cst<|.int 5)
def pB:List q8->Mm q8:=lV 7 3 tO
abbrev a8y:SF:=bI (dA 6<|op2 aY (op2 pF (aS xK<|aB (var 0)<|aB (op2 aY (cst<|.int 1700)<|var 2) aG)<|cst<|.int 7919)<|aS bR<|aB (var 0)<|aB (op2 aY (cst<|.int 1720)<|var 2)<|aB (cst<|.int 999983) aG)<|bI (a1k 5<|aS pB<|aB (var 3)<|aB (var 6)<|aB (cst<|.str "012:[]ab \n") aG)<|bI (dA 7<|aS bR<|aB (var 0)<|aB (op2 aY (cst<|.int 1740)<|var 2)<|aB (eS mS<|aB (var 4) aG) aG)<|bI (dA 8<|slE (var 4) (bK<|var 7)<|bK<|op2 aY (var 7)<|cst<|.int 2)<|bI (a1k 5<|dfE yJ (cst<|.str "\n")<|op2 aY (slE (var 4) bX<|bK<|var 7)<|slE (var 4) (bK<|op2 aY (var 7)<|cst<|.int 1) bX)<|bI (a1k 5<|dfE yJ (cst<|.str "\n")<|op2 aY (slE (var 4) bX<|bK<|op2 aY (var 7)<|cst<|.int 1)<|slE (var 4) (bK<|var 7) bX)<|a1k 5<|dfE yJ (cst<|.str "\n")<|op2 aY (op2 aY (slE (var 4) bX<|bK<|var 7)<|op1 b6c<|var 8)<|slE (var 4) (bK<|op2 aY (var 7)<|cst<|.int 2) bX
def add_str{b:Str}(h:a.length+b.length<=100000):aY (.str a) (.str b)=Qa (.str<|a++b):=by show(if bN (a.length+b.length)=Qc then Qa (qb<|a++b)else Qb)=_;rw[if_pos<|by exact decide_eq_true h]
def gM{fb:EF}{b:Str}(d:fa Z=Qa (.ok<|.str a))(c:fb Z=Qa (.ok<|.str b))(h:a.length+b.length<=100000):op2 aY fa fb Z=Qa (.ok<|.str<|a++b):=by rw[uZ,d,bG,c,bG,add_str h];rfl
end L2.L3
namespace L2.L3
open PySem PySem.Spec PySem.Calls PyProof.Rows
def c8k(K:qB)(G H:Hp)(Q:VK)(E:XK):Re BS->Prop|.ok b=>∀a fp G' H',Grow G H G' H'->BOk K G' H' a b fp->Q (.ref a) H'|.ex c=>∀C G' H',fJ K c=Qa C->Grow G H G' H'->E (.ref C) Qb H'
noncomputable def spN(K:qB)(F:List q8->Option (Re BS)):Sp:=λvs H Q E=>∃G O r,(aW G H/\oZ K G H)/\RepAll K G vs O/\F O=Qa r/\c8k K G H Q E r
noncomputable abbrev NF:=List Ent->Option (Re BS)
def b3B(X:Cx)(H0 Gz G:Hp)(D:Ends):Re BS->Prop|.ok b=>∀a fp G' H',aW G G'->Grow Gz H0 G' H'->BOk X.K G' H' a b fp->D.rt (.ref a) H'|.ex c=>∀Z,nA X H0 Gz G Z c
theorem b3B.mono{X:Cx}{d e G f:Hp}{D:Ends}{r:Re BS}(h:b3B X d e G D r)(s:aW G f):b3B X d e f D r:=by cases r with|ok b=>exactλa j o k i g b=>h a j o k (s.trans i) g b|ex c=>exactλZ=>(h Z).mono s
noncomputable def rN(X:Cx)(h:NF):TS:=λD U H=>∃Z r H0 Gz G,h Z=Qa r/\RepS X.K H0 Gz G H U Z/\b3B X H0 Gz G D r
structure NB(X:Cx)(sts:List Stmt)(h:NF):Prop where run:PSs X sts (rN X h)
noncomputable def a5s(f:SF)(h:NF):NF:=λZ=>match f Z with|some (.nx ρ')=>h ρ'|some (.xc c _)=>Qa (.ex c)|_=>Qb
def a5T(i r:Nat):NF:=λZ=>match Z[i]?,Z[r]? with|some .no,Qa (.val<|.list Y)=>(match lJ yP Y with|some kvs=>if decide (kvs.map (·.1)).Nodup&&decide (kvs.length<=1000)&&decide (i≠r)then Qa (.ok #[kvs,[],[]])else Qb|none=>Qb)|_,_=>Qb
section
variable{rest:List Stmt}{h:NF}
def a3j(j:DS X st f)(i:NB X rest h):NB X (st::rest) (a5s f h):=#[by
 rintro B s U H D I⟨Z,r,d,g,G,e,R,q⟩;unfold a5s at e;split at e;.rename_i a b;exact sC j.run i.run B s U H D I #[Z,_,d,g,G,b,R,λt u k o p=>#[a,r,d,g,t,e,p,q.mono o]]
 .rename_i c a b;cases(qA e);exact sC j.run i.run B s U H D I #[Z,_,d,g,G,b,R,q a]
 .cases e]
def RepS.setNV{K:qB}{o:Option V}(R:RepS K H0 Gz G H U Z)(h:Z[i]?=Qa .no):RepS K H0 Gz G H (U.set i o) Z:=by
 refine#[R.grow,by simp[R.len],λj c e a b=>?_,R.inj.sub λj e a b=>?_,R.tab]
 .obtain⟨rfl,rfl,_⟩|⟨n,a⟩:=bF a;.rw[h]at b;cases b;trivial
  .exact R.ent j c e a b
 .refine#[a,jK λz=>?_];subst z;rw[h]at a;cases a;cases b
def c0t i r{x:Str}{p4 q3 q4 q5 q6 r1 r2:Pos}(hc:X.calm=Qc)(hN:X.N.Nodup)(B0:BCls X.K)(M:BMk X.prog X.w X.K X.mg X.base k)(hr:Room (k+1) X.A)(hm:X.mg "dict"=Qb)(hgB:Gl X "Binder":=by rfl)(hgd:Gl X "dict":=by rfl)(hi:X.N[i]?=Qa x:=by rfl)(hri:X.N[r]?=Qa y:=by rfl)(hx:Loc X.env.scope x:=by first|exact jU rfl|exact qz rfl)(hf:U7 X x:=by first|exact .inl rfl|exact .inr rfl)(hv:Vis X.env.scope x:=by first|exact jU rfl|exact qz (jU rfl)|exact qz (qz rfl))(hvy:Vis X.env.scope y:=by first|exact jU rfl|exact qz (jU rfl)|exact qz (qz rfl))(hd:U2 x:=by decide)(Q:U3 x:=by decide)(hdy:U2 y:=by decide)(P:U3 y:=by decide)(hs:wa (.Call (.Name "Binder" p2) [] [] p3) (Qa<|.Name x p1) p4.line X.env=pure false:=by rfl)(hs2:wa (.Call (.Name "dict" q3) [.Name y q4] [] q5) (Qa<|.Attribute (.Name x q1) "sheets" q2) q6.line X.env=pure false:=by rfl)(he:j4 [.Name y q4] X.env=(Qd,eval (.Name y q4) X.env)::j4 [] X.env:=by rfl)(hpl:U6 X q5 []:=by rfl):NB X [.Assign [.Name x p1] (.Call (.Name "Binder" p2) [] [] p3) p4,.Assign [.Attribute (.Name x q1) "sheets" q2] (.Call (.Name "dict" q3) [.Name y q4] [] q5) q6,.Return (Qa<|.Name x r1) r2] (a5T i r):=#[by
 rintro B s U H D I⟨Z,o,H0,Gz,G,g,R,q⟩;let⟨f,fd,hmB,mk,bd,F⟩:=M.ex;unfold a5T at g;split at g
 .rename_i Y K E;split at g
  .rename_i kvs hk;split at g
   .rename_i hz;rw[qD,qD,decide_eq_true_eq,decide_eq_true_eq,decide_eq_true_eq]at hz;cases(qA g);refine sC (a4b hN hi hx (a9j mk F hr hgB hmB bd .nil b6C) hs hf) (sC (a4c (dF hi hv hd Q) (a6n (a6Q hc) hgd hm boot_dict (dR (dF hri hvy hdy P) gE he) (by decide) (by decide) he hpl) hs2)<|a3g<|b0U<|dF hi hv hd Q) B s U H D I ?_;intro a w hx hdx j;refine#[a,w,rfl,aK,λd u p S hd h1 h2 n12 e1 e2 e3 e4 kp=>#[rfl,?_]];have keep:∀y o,H y=Qa o->S y=Qa o:=λy o e=>kp y o (aP e hx) (by rwa[aF<|aP e hx,aF<|aP e hdx]);have edx:=kp w _ j (by rw[aF j,aK]);have g6:Grow G H G S:=#[.refl _,.of keep,λy o e=>keep y o<|R.sub y o e,λ_ z _=>z,id];have R6:=(R.more g6).setNV (o:=Qa<|.ref a) K;have L:i<U.length:=by rw[R.len];exact(qW.mp K).1
    have J:(U.set i<|Qa<|V.ref a)[i]?=Qa (Qa<|.ref a):=by rw[kN L]
    let⟨o,eo,v,rfl,rv⟩:=R6.at E;refine#[v,eo,?_];cases rv with|list hq r=>
     let⟨T,w1,w2,w3⟩:=a1M r hk;have hl:T.length=kvs.length:=by have:=congrArg zm w2;simpa using this
     refine#[_,_,T,rfl,g6.sub.seq hq,Paired.mapP w1 (by rintro a b⟨t,e1,e2⟩;exact#[t,e1,uD g6.sub e2]),by rw[w2];exact hz.1.1,by lia,λl N=>?_];have A:=aP e1 N;have nl:∀{y o},S y=Qa o->y≠l:=λe=>aP e N;have na:∀{y o},S y=Qa o->(∀C x fs,o≠.ins C x fs)->y≠a:=λe n z=>by subst z;rw[e1]at e;cases e;exact n _ _ _ rfl
     refine#[.ref a,J,a,_,w,bFs d u p,rfl,by rwa[aF A],B0.cl,B0.n1,by show 3<1000;decide,?_];refine#[.ref a,J,?_];have ep:nF "sheets" (.ref l) (bFs d u p)=bFs l u p:=by unfold bFs;simp only[nF];rfl
     rw[ep];have c:∀y o,H y=Qa o->upd (upd S l<|.dK T) a (.ins (iW X.K) w<|bFs l u p) y=Qa o:=λy o e=>by rw[aF<|aP e hx,aF<|nl<|keep y o e];exact keep y o e
     refine q a [a,w,l,u,p] G _ (.refl _) (R.grow.trans #[.refl _,.of c,λy o e=>c y o<|R.sub y o e,λ_ z _=>z,id]) #[w,l,u,p,T,[],[],rfl,n12,aK,?_,?_,?_,?_,#[w2,w3],.nil,.nil];.rwa[aF j,aF<|nl edx]
     .rw[aF<|jL A,aK]
     .rwa[aF<|na e3 (by nofun),aF<|nl e3]
     .rwa[aF<|na e4 (by nofun),aF<|nl e4]
   .cases g
  .cases g
 .cases g]
end
def runN(m n:Nat)(h:NF)(O:T0l):Option (Re BS):=if O.length=n then h (pY m O)else Qb
section
variable{K:qB}{x:Str}
def c1a{h:NF}{fa:Addr} m n(Fu:Fun K x x st fa fd)(S:FnScope N ps (aD st))(J:N.length=m)(F:ps.length=n)(f:∀ cdv A d s H E,Room k (A.deeper<|wx x (aD st) s.heap.objs.size fa cdv)->NB (fcX P w K mg base N x (aD st) fa cdv A d s H E) (bU st) h):FnOk P w K mg base (CX1 P w) (k+1) fa fd ps (spN K<|runN m n h):=by
 let⟨oc,od,kV,doc,pm,an,cdv,ct,y,rfl,z,j⟩:=Fu.ex;refine a4I z j S (λu H Q E⟨G,O,r,s,i,e,_⟩=>?_) λA d s H u Q E D⟨G,O,r,v,i,e,q⟩=>?_
 .unfold runN at e;split at e;.rename_i L;rw[i.length,L,F]
  .cases e
 .unfold runN at e;split at e;.rw[<-J,<-xP]at e;refine#[_,(f cdv A d s H E D).run,nB N O,r,H,G,G,e,lO v i,?_];cases r with|ok b=>exactλa fp p o _ g M=>q a fp p o g M|ex c=>exactλZ B s' U o p e' I R _ t=>a0Q (X:=fcX P w K mg base N x (aD st) fa cdv A d s H E) I t λC T=>q C p o T R.grow
  .cases e
def b7K{h:NF} m n(D:Def K mg x st)(S:FnScope N ps (aD st))(g:N.length=m)(f:ps.length=n)(i:∀ kV doc pm(an:T0k) cdv ct(us:T0m),us.length=ps.length->ye (jY x x (fV st) (bU st) (aD st) .none kV doc pm an cdv ct) #[us,[]]=pure (ps.zip us))(b:∀ fa cdv A a s H E,Room k (A.deeper<|wx x (aD st) s.heap.objs.size fa cdv)->NB (fcX P w K mg base N x (aD st) fa cdv A a s H E) (bU st) h):FunX P w K mg base x (k+1) ps (spN K<|runN m n h):=by let⟨fa,j,d,c⟩:=D.ex;exact#[fa,j,c,d.kp,d.binds i,c1a m n d S g f λcdv A a s H E e=>b fa cdv A a s H E e]
end
def c6P(X:Cx)(H0 Gz G:Hp)(Z:List Ent)(H:Hp)(Q:VK):Re BS->Prop|.ok b=>∀a fp G' H',Grow G H G' H'->BOk X.K G' H' a b fp->Q (.ref a) H'|.ex c=>nA X H0 Gz G Z c
def tN(X:Cx)(F:List q8->Option (Re BS))(fa:AF):TE:=λU H Q=>∃Z r H0 Gz G,bnd (fa Z) F=Qa r/\RepS X.K H0 Gz G H U Z/\c6P X H0 Gz G Z H Q r
variable{k2:Nat}
section
variable{zpos zp:Pos}{ps2:T0q}{F:List q8->Option (Re BS)}{FR:BS->List q8->Mm q8}{fa:AF}
def a9l(C:FunX X.prog X.w X.K X.mg X.base z k ps (spN X.K F))(M:Room k X.A)(T:DA X (e::es) fa)(N:Gl X z:=by rfl)(A:U2 z:=by decide)(P:U5 X e es:=by rfl)(y:U6 X pos es:=by rfl):PE X (.Call (.Name z p) (e::es) [] pos) (tN X F fa):=by
 rintro B s U H Q I⟨Z,r,H0,Gz,G,e',R,q⟩;let⟨f,fd,a,b,c,Fk⟩:=C.ex;refine v1<|gT I N a ?_ A;refine jf (h₀:=X.base) I.ok.mod.kin b (thn (T.run pos B s U H (λt i=>∃d O,Grow G H d i/\RepS X.K H0 Gz d i U Z/\RepAll X.K d t O/\F O=Qa r) I<|bA R e' (λc z=>by subst z;exact q) λO t d i j u w e1=>#[d,O,j,u,w,e1])
  λus s1⟨t,i,J,w,d,O,j,u,rd,hF⟩=>#[J.kIn,?_]) P y;have sp:spN X.K F t i Q (λcv _ v=>∃o C c,cv=.ref C/\r=.ex c/\fJ X.K c=Qa C/\Grow d i o v):=by refine#[d,O,r,#[j.sub,u.tab],rd,hF,?_];cases r with|ok b=>exactλa fp o v g S=>q a fp o v (j.trans g) S|ex c=>exactλC o v D g=>#[o,C,c,rfl,rfl,D,g]
 refine xV Fk M c J w sp ?_;rintro a2 C2 H2 L⟨G2,C3,c3,e3,e4,D,E⟩I2 K;cases e3;subst e4;exact q B L U H2 G2 _ I2 (u.more E) (j.gg.trans E.gg) #[a2,C2,rfl,D,.inl K]
def rdE(F:List q8->Option (Re BS))(FR:BS->List q8->Mm q8)(fa:AF):EF:=λZ=>match bnd (fa Z) F with|some (.ok b)=>FR b []|some (.ex c)=>Qa (.ex c)|none=>Qb
def c2y(C1:FunX X.prog X.w X.K X.mg X.base y k ps (spR X.K FR))(C2:FunX X.prog X.w X.K X.mg X.base z k2 ps2 (spN X.K F))(hr:Room k X.A)(L:Room k2 X.A)(ha:DA X (e::es) fa)(hg:Gl X y:=by rfl)(P:U2 y:=by decide)(N:Gl X z:=by rfl)(D:U2 z:=by decide)(he:U5 X e es:=by rfl)(M:U6 X zpos es:=by rfl)(A:j4 [.Call (.Name z zp) (e::es) [] zpos] X.env=(Qd,eval (.Call (.Name z zp) (e::es) [] zpos) X.env)::j4 [] X.env:=by rfl)(w:U6 X pos []:=by rfl):DE X (.Call (.Name y p) [.Call (.Name z zp) (e::es) [] zpos] [] pos) (rdE F FR fa):=#[by
 rintro B s U H Q I⟨Z,r,H0,Gz,G,i,R,q⟩;let⟨f,fd,a,b,c,Fk⟩:=C1.ex;have hA:rdE F FR fa Z=Qa r->b2m (tN X F fa) b5K U H λvs t=>∃x u o E,vs=[.ref x]/\Grow G H u t/\RepS X.K H0 Gz u t U Z/\BOk X.K u t x o E/\FR o []=Qa r:=λi=>by
  unfold rdE at i;split at i;.rename_i o e1;exact#[Z,_,H0,Gz,G,e1,R,λx E j J g S=>#[x,j,o,E,rfl,g,R.more g,S,i]]
  .rename_i c e1;cases(qA i);exact#[Z,_,H0,Gz,G,e1,R,q]
  .cases i
 refine v1 (gT I hg a ?_ P);refine jf (h₀:=X.base) I.ok.mod.kin b (thn (dR (a9l C2 L ha N D he M) gE A pos B s U H _ I<|hA i) ?_) A w;rintro us s1⟨vs,t,I1,K,x,u,o,E,ev,g1,R1,S,hF⟩;refine#[I1.kIn,?_];subst ev;have sp:spR X.K FR [.ref x] t Q (λcv _ J=>∃j C c,cv=.ref C/\r=.ex c/\fJ X.K c=Qa C/\Grow u t j J):=by refine#[u,x,o,E,[],[],r,rfl,#[g1.sub,R1.tab],S,.nil,hF,?_];cases r with|ok d=>exactλv j J g K=>q v j J (g1.trans g) K|ex c=>exactλC j J T g=>#[j,C,c,rfl,rfl,T,g]
 refine xV Fk hr c I1 K sp ?_;rintro a2 C2 H2 s'⟨G2,C3,c3,e3,e4,T,g2⟩I2 xa;cases e3;subst e4;exact q B s' U H2 G2 _ I2 (R1.more g2) (g1.gg.trans g2.gg) #[a2,C2,rfl,T,.inl xa]]
def rdX(F:List q8->Option (Re BS))(fa:AF):EF:=λZ=>match bnd (fa Z) F with|some (.ex c)=>Qa (.ex c)|_=>Qb
def c4R(t:FunX X.prog X.w X.K X.mg X.base z k2 ps2 (spN X.K F))(d:Room k2 X.A)(j:DA X (e::es) fa)(g:Gl X z:=by rfl)(a:U2 z:=by decide)(i:U5 X e es:=by rfl)(f:U6 X zpos es:=by rfl):DE X (.Call (.Name z zp) (e::es) [] zpos) (rdX F fa):=#[by
 rintro B s U H Q I⟨Z,r,o,p,G,b,R,q⟩;refine a9l t d j g a i f B s U H Q I ?_;unfold rdX at b;split at b;.rename_i c k;cases(qA b);exact#[Z,_,o,p,G,k,R,q]
 .cases b]
end
def ToldOkR.plain{K:qB}{x:Str}{L:T0q}{F:Str->Mm q8}(T:ToldOkR P w K mg base x L F):ToldOk P w K mg base x L F:=by let⟨f,p,o,j⟩:=T.ex;refine#[f,p,o,λk A a s H G r d t i u c b e=>j k A a s H (λy v=>Grow G H y v) r d t i u #[λg=>#[g.sub,c.2.more g],λg q=>g.trans q] #[b.fn,b.run] e]
section
variable{a:Expr}{rest:List Stmt}{pt pt2:Pos}{x:Str}{g:OSF}{fl:AF}
def c3U i(hN:X.N.Nodup)(M:BMk X.prog X.w X.K X.mg X.base k)(Q:Room (k+1) X.A)(b:OB X rest g)(c:Gl X "Binder":=by rfl)(hi:X.N[i]?=Qa x:=by rfl)(hx:Loc X.env.scope x:=by first|exact jU rfl|exact qz rfl)(hf:U7 X x:=by first|exact .inl rfl|exact .inr rfl)(P:wa (.Call (.Name "Binder" p1) [] [] p2) (Qa<|.Name x p) pos.line X.env=pure false:=by rfl):OB X (.Assign [.Name x p] (.Call (.Name "Binder" p1) [] [] p2) pos::rest) (mkO i [] aG g):=#[by
 rintro B s U H D I⟨Z,β,o,u,H0,Gz,G,ef,R,q⟩;let⟨f,fd,S,K,bd,F⟩:=M.ex;refine b3I (a4b hN hi hx (a9j K F Q c S bd .nil b6C) P hf) b I ?_;have:=c0D (T:=λr j=>∃v,r=[v]/\rOS X g D (U.set i<|Qa v) j) R ef q λa r O G7 j s7 R7 C hl k=>by cases C with|nil=>exact#[_,rfl,k G7 j _ (.refl _) R7.setA]|cons _ _=>simp at hl
 intro x dx h1 h2 h3;let⟨A,e,z,e1,h⟩:=this x dx h1 h2 h3;refine#[A,e,z,e1,λd N L H6 a1 a2 a3 a4 a5 a6 a7 a8 a9=>?_];let⟨y,w⟩:=h d N L H6 a1 a2 a3 a4 a5 a6 a7 a8 a9;refine#[y,?_];let⟨t,E,H01,G01,G1,en,R1,J⟩:=w;cases(qA<|show Qa (.ok [])=Qa E from en);let⟨v,ev,k⟩:=J [] G1 _ (.refl R1.sub) .nil;cases ev;exact k]
def c0a(i j:Nat)(fa:EF)(fl:AF):SF:=λZ=>bns (fa Z) Z λd=>bns (fl Z) Z λO=>if bN O.length then Qa (.nx<|(Z.set i<|.val d).set j<|.lst O)else Qb
def c1m i j{c:Nat}(J:X.calm=Qc)(L:X.N.Nodup)(p:i≠j)(K:DE X a fa)(k:DA X es fl)(hi:X.N[i]?=Qa x:=by rfl)(F:X.N[j]?=Qa y:=by rfl)(hx:X.env.scope.names.lookup x=Qa .local:=by rfl)(A:X.env.scope.names.lookup y=Qa .local:=by rfl)(g:j4 [a,.List es p2] X.env=(Qd,eval a X.env)::j4 [.List es p2] X.env:=by rfl)(f:j4 [.List es p2] X.env=(Qd,eval (.List es p2) X.env)::j4 [] X.env:=by rfl)(C:swappedStores [.Tuple [.Name x px,.Name y py] c pt] (.Tuple [a,.List es p2] k2 pt2) X.env=pure (Qa [x,y]):=by rfl)(E:swapsWithSole [.Tuple [.Name x px,.Name y py] c pt] (.Tuple [a,.List es p2] k2 pt2) pos.line X.env=pure false:=by rfl):DS X (.Assign [.Tuple [.Name x px,.Name y py] c pt] (.Tuple [a,.List es p2] k2 pt2) pos) (c0a i j fa fl):=#[by
 rintro B s U H D I⟨Z,o,H0,Gz,G,e,R,q⟩;refine b6n J L hi F p hx A (dR K.run (dR (a0k k.run) gE f) g) C E B s U H D I ?_;refine sE R e q λd v G1 H1 T P t N w=>?_;refine sA P N w λO S Q H2 M R2 b r u=>?_;split at r;.rename_i z;cases(qA r);exact#[by rw[b.length];exact fZ z,λl k=>#[_,_,rfl,u Q _ _ (.refl _)<|(R2.set<|t.mono M.gg).fresh k b]]
 .cases r]
end
end L2.L3
namespace L2.L3
open PySem PySem.Spec PyProof.Rows
def c0A:MtM X "str.partition" (λx vs H Q=>∃z y,x=.str z/\vs=[.str y]/\(y.length==0)=Qd/\z.length<=j5/\∀l,H l=Qb->Q (.ref l) (upd H l<|.tup [.str (qh z y).1,.str (qh z y).2.1,.str (qh z y).2.2])):=by
 rintro B s U H x vs v D Q I j k⟨z,y,C,A,w,p,q⟩;subst C A;let⟨t,rfl⟩:=j;let⟨u,rfl,t',rfl⟩:=k.one;have g:∀(a b c:Tok)(f:Nat),EP X B U Q (.ref s.heap.objs.size) {s with heap:=s.heap.push {cls:=.type "tuple",data:=.seq [vN (qh z y).1 a,.str (qh z y).2.1 b,.str (qh z y).2.2 c].toArray},toks:=f}:=λa b c f=>by refine#[.ref s.heap.objs.size,_,I.laid (t':=f) (λb o e=>qC _ e) (qM _) (show eB X.prog X.w _ _ _ (.tup [.str (qh z y).1,.str (qh z y).2.1,.str (qh z y).2.2])from#[by show 3<=j5;decide,_,.cons #[a,rfl] (.cons #[b,rfl] (.cons #[c,rfl] .nil)),_,qP _ rfl,rfl,_,rfl]),rfl,q _<|I.hok.fresh<|qM _]
 refine wv F.slot_str_partition (yq _ _ _) F.entry_str_partition (F.args_str_partition_2 _ _) (meets_str_partition z y t t' w p) ?_;have d:=g;unfold qh at d;revert d;cases zY z y 0 z.length 1 with|nil=>intro d;exact d _ _ _ _|cons i r=>intro d;exact d _ _ _ _
def a7y(x y:q8):Option q8:=match x,y with|.str z,.str y=>if(y.length !=0)&&bN z.length then Qa (.tuple [.str (qh z y).1,.str (qh z y).2.1,.str (qh z y).2.2])else Qb|_,_=>Qb
def c1p(t:DE X o fo)(v:DE X e fa)(c:U8 X o "partition":=by rfl)(i:U4 X cpos (e::[]):=by rfl)(b:(apos.endLine==cpos.line)=true:=by rfl)(g:U5 X e []:=by rfl)(a:U6 X cpos []:=by rfl):DE X (.Call (.Attribute o "partition" apos) [e] [] cpos) (dfE a7y fo fa):=tY λZ r h=>by
 unfold dfE at h;split at h
 .rename_i x y A w;let⟨d,f,rfl⟩:=bS h;refine#[d,rfl,?_];unfold a7y at f;split at f
  .rename_i z y;split at f;.rename_i j;cases(qA f);rw[qD]at j;exact a6o F.plainAttrs_str F.slot_str_partition F.type_str_partition c0A (t.pd A) (oO (v.pd w) tG g) (λx G H s r=>by cases r;rfl) (λx C G H Q s r k q=>by cases r;cases k with|cons p r2=>cases p;cases r2;exact#[z,y,rfl,rfl,by simpa using j.1,fZ j.2,λl u=>q _ _ _ (.put s u)<|.tuple (.of aK)<|.cons (.str _)<|.cons (.str _)<|.cons (.str _) .nil]) c i b g a
   .cases f
  .cases f
 .cases h
theorem a9T{b c:Type}{f g:b->Option c}:∀{l:List b},(∀x∈l,f x=g x)->l.filterMap f=l.filterMap g|[],_=>rfl|a::l,h=>by rw[zD,zD,h a (by simp),a9T λx d=>h x<|qG _ d]
def a5q(its:T0m):slicePick its.toArray Qb Qb (Qa<|-1)=its.reverse.toArray:=by
 unfold slicePick yg QB;simp only[Option.getD_some,qT,show¬((-1:Int)>0)by decide,if_false];congr 1;have cnt:(if((its.length:Int)-1>-1)then((its.length:Int)-1- -1- -1-1)/ - -1 else 0).toNat=its.length:=by rw[show-(-1:Int)=1 by decide,Int.ediv_one];split<;>lia
 rw[cnt,wB];have:List.filterMap ((λx=>its.toArray[x]?)∘λk:Nat=>((its.length:Int)-1+-1*(k:Int)).toNat) (qj its.length)=List.filterMap (λk=>Qa<|its.reverse.getD k .none) (qj its.length):=by
  refine a9T λk hk=>?_;have hk:=kH.mp hk;have e:((its.length:Int)-1+-1*(k:Int)).toNat=its.length-1-k:=by lia
  show its.toArray[((its.length:Int)-1+-1*(k:Int)).toNat]?=_;rw[e,zX,jM,List.getElem?_reverse hk,qN<|by omega];rfl
 rw[this,show(λk=>Qa<|its.reverse.getD k kE)=Qa∘λk=>its.reverse.getD k kE from rfl,<-wB,List.filterMap_some];refine jW λi=>?_;rw[qS];by_cases h:i<its.length;.rw[zC h,vS,jM,qN<|by simpa using h];rfl
 .rw[jE (by simpa using h),jE<|by simpa using h];rfl
section
variable{st:Expr}{ts:TO}
def c7B(K:qB):V->Hp->VK->Prop:=λx H Q=>∃a Y,x=.ref a/\SqL K H a Y/\∀p,H p=Qb->Q (.ref p) (upd H p<|.lst Y.reverse)
def c3w(E:PE X e te)(C:PO X (Qa st) ts):PE X (.Subscript e (.Slice Qb Qb (Qa st) p2) pos) (λU H Q=>te U H λx H1=>ts U H1 λo H2=>o=Qa (-1)/\c7B X.K x H2 Q):=by intro B s U H Q I h;refine Subscript_<|thn (E B s U H _ I h) ?_;rintro v j⟨x,H1,G,k,p⟩;refine wpAny_Slice ?_;rw[evalPart_none];refine j3 ?_;refine j3 ?_;refine thn (C B j U H1 _ G p) ?_;rintro f c⟨u,J,F,t,A,a,Y,z,D,q⟩;subst A z;cases k;have d:Inv X B U J {c with heap:=c.heap.push {cls:=.type "slice",data:=.fields<|List.toArray [.none,.none,f]}}:=F.kept (t':=c.toks) λb ob q=>qC _ q;let⟨w,r,g,y⟩:=d.list D;have i:=r.length;refine tail_any (ops:=[.ref a,.ref c.heap.objs.size]) (T:="list") g.isList.typeIs slot_list_getitem.lookup ?_ (by with_unfolding_all rfl);refine wpAny_getItem_list_slice g.isList (Heap.IsSliceOf.new ..) .none .none t (by decide) ?_ (by rw[qT]<;>lia);rw[a5q];exact#[.ref (c.heap.push {cls:=.type "slice",data:=.fields<|List.toArray [.none,.none,f]}).objs.size,_,d.laid (t':=c.toks) (o:=.lst Y.reverse) (λb ob q=>qC _ q) (qM _) #[by rw[zB];exact y,_,0,r.reverse,qP _ rfl],rfl,q _<|d.hok.fresh<|qM _]
theorem a4a{K:qB}{G:Hp}:∀{Y ys:List V}{a bs:T0l},RepAll K G Y a->RepAll K G ys bs->RepAll K G (Y++ys) (a++bs)|_,_,_,_,.nil,h=>h|_,_,_,_,.cons r t,h=>.cons r<|a4a t h
theorem a3Z{K:qB}{G:Hp}:∀{Y:List V}{O:T0l},RepAll K G Y O->RepAll K G Y.reverse O.reverse|_,_,.nil=>.nil|_,_,.cons r t=>by rw[vF,vF];exact a4a (a3Z t)<|.cons r .nil
def c4P{a:Expr}(o:DE X a fa):DE X (.Subscript a (.Slice Qb Qb (Qa<|.UnaryOp .USub (.Constant (.int 1) j q1) q2) p2) pos) (op1 b6c fa):=#[λB s U H Q I⟨Z,r,w,y,G,e,R,q⟩=>c3w o.run (cQ<|b1N<|aH (i:=1)).run B s U H Q I (bE R e q.x λx v z C p u g t=>by
  let⟨d,c,rfl⟩:=bS t;unfold b6c at c;split at c;.cases(qA c);refine#[Z,.ok<|Qa<|-1,w,y,z,rfl,u,?_];intro D A b;cases g with|list k r=>exact#[rfl,_,_,rfl,(b.gg.trans b.sub).seq k,λl f=>q _ _ _ ((p.trans b).trans<|.put b.sub f)<|.list (.of aK)<|a3Z<|r.mono<|b.gg.trans<|cW<|b.sub.free f]
  .cases c)]
end
def tM:SF:=(bI (dA 2<|aS yG<|aB (iF aJ 0<|aB (var 1) aG) aG)<|retS<|jnE<|aB (cst<|.str "[")<|aB (op1 nX<|var 1)<|aB (cst<|.str "]\n")<|aB (op1 nX<|var 2) aG)
def nY:BS->List q8->Mm q8:=a3X 3 1 tM
abbrev wZ:EF:=fK (.nm 0) [Qb,Qa 0] (nD<|iF mC 0 aG) ttT<|iF nY 1<|aB (var 0) aG
def rP:SF:=(retS<|dfE yJ (cst<|.str "") wZ)
def bZ:BS->List q8->Mm q8:=a3X 1 0 rP
abbrev fY:TF:=orT (gS<|gI<|aS bC<|aB (op2 ixD (var 1)<|cst<|.int 0) aG)<|eG eqD (op2 ixD (var 1)<|cst<|.int 1)<|cst<|.str ""
def eQ:SF:=(bI (dA 1<|dfE a7y (var 0)<|cst<|.str "]\n")<|bI (ifS fY (eW "NoText") eM)<|retS<|iR<|aB (op2 ixD (var 1)<|cst<|.int 0)<|aB (fC iQ<|aB (op2 ixD (var 1)<|cst<|.int 2) aG) aG)
def fM:List q8->Mm q8:=oJ 2 1 eQ
abbrev iN:EF:=fK (.tp [0,1]) [Qb,Qb] (nD<|var 2) ttT<|var 0
abbrev fX:TF:=orT (eG neD (op2 ixD (var 1)<|cst<|.int 0)<|cst<|.str "")<|gS<|gI<|aS gP<|aB iN aG
abbrev tV:EF:=a2l (.nm 0) [Qb] (nD<|slE (var 1) (bK<|cst<|.int 1) bX) ttT<|fC fM<|aB (var 0) aG
abbrev tQ:TF:=gS<|gI<|op1 (isD "str")<|var 0
def lD:NF:=(a5s (ifS tQ (eW "NoText") eM)<|a5s (dA 1<|dfE a0C (var 0)<|cst<|.str "[")<|a5s (dA 2 tV)<|a5s (ifS fX (eW "NoText") eM)<|a5T 3 2)
def aQ:List q8->Option (Re BS):=runN 4 1 lD
abbrev b1Z:OSF:=a2P<|gA a1s 1<|aB (aS a1t<|aB (var 0)<|aB (op2 aY (cst<|.int 1000)<|op2 pF (cst<|.int 60)<|var 2) aG) aG
abbrev b1s:EF:=rdE aQ bZ<|aB (var 0) aG
abbrev a7i:TF:=b2d (eG neD (var 10)<|var 9)<|orT (eG neD (var 10)<|cst<|.str "no text")<|eG eqD (var 9)<|var 3
abbrev a8x:SF:=bI (dA 10<|a3x cD cJ [Qa 9] b1s)<|ifS a7i (retS<|cst<|.bool Qd) eM
abbrev b7m:EF:=fK (.nm 0) [Qb] (nD<|var 11) ttT<|rdE aQ bZ<|aB (var 0) aG
abbrev b0F:TF:=eG neD b7m<|var 11
abbrev c4j:EF:=rdX aQ<|aB (var 0) aG
abbrev b7l:EF:=fK (.nm 0) [Qb] (nD<|var 12) ttT<|a3x cD cJ [Qa 0] c4j
def a9U:OSF:=(mkO 1 [] aG<|fR (b7M (.nm 2) (a3Y<|cst<|.int 7) b1Z)<|fR (upS<|dA 3<|iF bZ 1 aG)<|fR (upS<|c0a 4 5 (dfE a0C (var 3)<|cst<|.str "\n")<|aB (var 3) aG)<|fR (upS<|a9S (.nm 2) (a3Y<|cst<|.int 4) a8y)<|c0X 5<|fR (upS<|a9S (.nm 9) (nD<|var 5) a8x)<|fR (upS<|dA 11<|nJ<|aB (cst<|.str "")<|aB (cst<|.str "[a]\n")<|aB (cst<|.str "[bcde]\nfg 0:0 0:47\nhi 9:47 10:0\n[jklm]\n")<|aB (cst<|.str "[nopq]\na 1:5 2:3\n[rstu]\n[vwxy]\n[z]\n") aG)<|fR (upS<|ifS b0F (retS<|cst<|.bool Qd) eM)<|fR (upS<|b4p 12<|aB (cst<|.str "\n")<|aB (cst<|.str "[a]")<|aB (cst<|.str "a 0:0 0:1\n")<|aB (cst<|.str "a 0:0 0:1\n[a]\n")<|aB (cst<|.str "[b]\n[a]\n")<|aB (cst<|.str "[a]\n[a]\n")<|aB (cst<|.str "[A]\n") aG)<|fR (upS<|b1E 12<|nJ<|aB (cst<|.str "[abcde]\n")<|aB (cst<|.str "[]\n")<|aB (cst<|.str "[a\n")<|aB (cst<|.str "a]\n") aG)<|fR (upS<|b1E 12<|nJ<|aB (cst<|.str "[a] \n")<|aB (cst<|.str "[a]\n\n")<|aB (cst<|.str "[a]\na 0:0\n")<|aB (cst<|.str "[a]\na 0:0 0:48\n")<|aB (cst<|.str "[a]\na 0:1 0:1\n") aG)<|fR (upS<|b1E 12<|nJ<|aB (cst<|.str "[a]\nb 0:0 0:1\na 0:0 0:1\n")<|aB (cst .none)<|aB (cst<|.int 5) aG)<|fR (upS<|b1E 12<|nJ<|aB (iR<|aB (cst<|.str "[a]\n") aG)<|aB (cst<|.str "[a]\na 00:0 0:1\n")<|aB (cst<|.str "[a]\na 0:0 10:1\n")<|aB (cst<|.str " [a]\n")<|aB (cst<|.str "[a]\na 0:0 0:1")<|aB (cst<|.str "[a]a 0:0 0:1\n") aG)<|c0X 12<|upS<|retS<|c1F eqD b7l<|c3j (aB (cst<|.str "no text") aG)<|cst<|.int 25)
def F_law:List q8->Mm q8:=a9a 13 1 a9U
end L2.L3
namespace L2.L3
open PySem PySem.Spec PyProof.Rows PySem.StrLaws PySem.Builtin.Str
theorem a9q s sub hi:∀(l:T0t) a free,(forIn l (((List.toArray [a]):Array Nat),free)<|occBody s sub hi 1).run.fst=(List.toArray [a])|[],a,free=>rfl|i::l,a,free=>by rw[List.forIn_cons];unfold occBody;rw[if_neg<|λh=>absurd h.1.1.1<|by simp];exact a9q s sub hi l a free
theorem a9r s sub hi:∀(l:T0t) free,(∀i∈l,free<=i)->(forIn l (((List.toArray []):Array Nat),free)<|occBody s sub hi 1).run.fst.toList=(l.find? λi=>decide (i+sub.length<=hi)&&subAt s sub i).toList
 |[],free,_=>rfl|i::l,free,hf=>by
  rw[List.forIn_cons];by_cases a:i+sub.length<=hi/\subAt s sub i=Qc;.unfold occBody;rw[if_pos #[#[#[by simp,hf i qr],a.1],a.2],List.find?_cons_of_pos<|by simp[a]];show(forIn l (((List.toArray []).push i:Array Nat),i+sub.length)<|occBody s sub hi 1).run.fst.toList=_;rw[show((List.toArray []).push i:Array Nat)=(List.toArray [i])from rfl,a9q];rfl
  .rw[List.find?_cons_of_neg<|by simpa using a];have c:=a9r s sub hi l free λj b=>hf j<|qG _ b;conv=>lhs;unfold occBody
   rwa[if_neg λh=>a #[h.1.2,h.2]]
def c0m x y:occurrences x y 0 x.length 1=((List.range' 0<|x.length+1).find? λi=>decide (i+y.length<=x.length)&&subAt x y i).toList:=by rw[occ_eq];exact a9r x y x.length _ 0 λ_ _=>jJ _
def occ_first{x:Str}{n:Nat}(d:n+y.length<=x.length)(c:subAt x y n=Qc)(b:∀i<n,subAt x y i=Qd):occurrences x y 0 x.length 1=[n]:=by
 rw[c0m];have:(List.range' 0<|x.length+1).find? (λi=>decide (i+y.length<=x.length)&&subAt x y i)=Qa n:=by rw[List.find?_eq_some_iff_getElem];refine#[by simp[d,c],n,by simp;lia,by simp,λj a=>?_];simp only[List.getElem_range',Nat.zero_add,Nat.one_mul];rw[b j a];simp
 rw[this];rfl
noncomputable abbrev clS:Str:=#[(List.toArray [93,10])]
def b1Q:qH "]\n"=clS:=by decide+kernel
def a9m{n r:Str}(f:93∉n.cps.toList):qh (n++clS++r) clS=(n,clS,r):=by
 have c:(n++clS++r).cps.toList=n.cps.toList++([93,10]++r.cps.toList):=by rw[bY,bY,jd]
 have a:(n++clS++r).length=n.length+2+r.length:=by rw[j7,j7];rfl
 have b:n.cps.toList.length=n.length:=by simp[vO]
 have d:occurrences (n++clS++r) clS 0 (n++clS++r).length 1=[n.length]:=by
  refine occ_first (by rw[a];show n.length+2<=_;lia) ?_ λi o=>?_;.rw[subAt_eq,c];simp[b];rfl
  .rw[subAt_eq,c,beq_eq_false_iff_ne];intro z;have e:=congrArg List.head? z;rw[List.head?_take,if_neg (by decide),List.head?_drop,qt<|by assumption]at e;exact f (zd e)
 unfold qh;rw[d];have j:strSub (n++clS++r) 0 n.length=n:=mE (by rw[strSub_toList,c,List.drop_zero,Nat.sub_zero,<-b,List.take_left]);have g:strSub (n++clS++r) (n.length+clS.length) (n++clS++r).length=r:=mE (by
  have k:r.cps.toList.length=r.length:=by simp[vO]
  rw[strSub_toList,c,a];rw[<-List.drop_drop,<-b,List.drop_left];show(r.cps.toList).take _=_;rw[kM];show _<=n.cps.toList.length+2+r.length-(n.cps.toList.length+2);lia);show(strSub (n++clS++r) 0 n.length,clS,strSub (n++clS++r) (n.length+clS.length) (n++clS++r).length)=_;rw[j,g]
def b9Z x:((qh x clS).2.1=qV)\/((qh x clS).2.1=clS/\(qh x clS).1++clS++(qh x clS).2.2=x):=by
 have h:=vp x clS;unfold qh at h⊢;split;.rename_i i r e;rw[e]at h;exact .inr #[rfl,h]
 .exact .inl rfl
end L2.L3
namespace L2.L3
open PySem PySem.Spec PyProof.Rows
noncomputable abbrev opS:Str:=#[(List.toArray [91])]
def b6I:qH "["=opS:=by decide+kernel
def lnB(p:Str×List Mt):Str:=mY qV [opS,p.1,clS,txO p.2]
def txB(L:Kn):Str:=mY qV<|L.map lnB
structure LOk(L:Kn):Prop where
 nd:(L.map (·.1)).Nodup
 nm:∀p∈L,nmB p.1=Qc
 lb:∀p∈L,∀m∈p.2,nmB m.1=Qc
 gs:∀p∈L,Gs p.2
variable{s:List Mt}
def a7X(S:Gs s)(b:∀m∈s,nmB m.1=Qc):∀m∈s,WOk m:=λm a=>by have:=a0z.mp<|S.tm m a;exact#[(eF<|b m a).1,by lia,by lia]
variable{p:Str×List Mt}
def LOk.wok(h:LOk L)(a:p∈L):∀m∈p.2,WOk m:=a7X (h.gs p a)<|h.lb p a
def lnL p:(lnB p).cps.toList=91::(p.1.cps.toList++([93,10]++(txO p.2).cps.toList)):=by unfold lnB;rw[a8m];simp only[qE,vU,qe,kC,ja];rfl
def b1q(d:nmB p.1=Qc)(c:∀m∈p.2,WOk m)(f:p.2.length<=16):(lnB p).length<=279:=by
 have e:(lnB p).length=(lnB p).cps.toList.length:=by simp[vO]
 have i:p.1.cps.toList.length=p.1.length:=by simp[vO]
 have g:(txO p.2).cps.toList.length=(txO p.2).length:=by simp[vO]
 have a:=(eF d).1;have b:=a7f c;rw[e,lnL];simp only[qO,qY,jj,g];lia
def b7P(a:z.length<=10000):nX (.str z)=Qa (.str z):=by show(if bN z.length=Qc then Qa (qb z)else Qb)=_;rw[if_pos<|by exact decide_eq_true (by exact Q2 ‹_› rfl)]
variable{b:BS}
def b8b{n:Str}(a:nmB n=Qc)(g:bSh b n=Qa (dS s))(W:∀m∈s,WOk m)(c:s.length<=16):nY b [.str n]=Qa (.ok<|.str<|lnB (n,s)):=by
 have nl:=(eF a).1;have d:bC [.str n]=Qa (.ok<|.bool Qc):=by rw[yD (by exact Q2 ‹_› rfl),a]
 have o:=a7f W;have f:=b1q (p:=(n,s)) a W c;refine a3d rfl ?_;show tM [.ro Qb b,.val<|.str n,.no]=_;unfold tM;have i:aS yG (aB (iF aJ 0<|aB (var 1) aG) aG) [.ro Qb b,.val<|.str n,.no]=Qa (.ok<|.str<|txO s):=bB (O:=[dS s]) (aM (a0K (b:=b) rfl rfl<|a4R d g) rfl)<|b4R W (by exact Q2 ‹_› rfl);rw[aI (ρ':=[.ro Qb b,.val<|.str n,.val<|.str<|txO s]) (by rw[dW,i];rfl),cE];have k:op1 nX (var 1) [.ro Qb b,.val<|.str n,.val<|.str<|txO s]=Qa (.ok<|.str n):=by show lft (nX<|.str n)=_;rw[b7P<|by exact Q2 ‹_› rfl];rfl
 have j:op1 nX (var 2) [.ro Qb b,.val<|.str n,.val<|.str<|txO s]=Qa (.ok<|.str<|txO s):=by show lft (nX<|.str<|txO s)=_;rw[b7P<|by lia];rfl
 unfold jnE;rw[aM rfl<|aM k<|aM rfl<|aM j rfl];show bns (if bN (mY qV [qH "[",n,qH "]\n",txO s]).length=Qc then Qa (Re.ok<|qb<|mY qV [qH "[",n,qH "]\n",txO s])else Qb) _ _=_;rw[b6I,b1Q];have e:(mY qV [opS,n,clS,txO s]).length<=279:=f;rw[if_pos<|by exact decide_eq_true (by exact Q2 ‹_› rfl)];rfl
def b0a(O0:LOk L)(hn:mC b []=Qa (.ok (.list ((L.map (·.1)).map .str))))(hs:∀p∈L,bSh b p.1=Qa (dS p.2))(few:L.length<=60):bZ b []=Qa (.ok<|.str<|txB L):=by
 refine a3d rfl ?_;show rP [.ro Qb b]=_;unfold rP;have k:wZ [.ro Qb b]=Qa (.ok<|.list<|(L.map lnB).map .str):=by
  rw[qZ];refine eY (λp:Str×List Mt=>qb p.1) (λp=>[.val<|.str p.1,.ro Qb b]) _ L ?_ (by omega) (λp _=>by simp[cF]) (λp hp=>?_);.show bnd (iF mC 0 aG [.ro Qb b]) _=_;rw[a0K (b:=b) rfl rfl hn];simp
  .exact a0K (b:=b) rfl rfl (b8b (O0.nm p hp) (hs p hp) (O0.wok hp) (O0.gs p hp).few)
 have jo:QD qV (L.map lnB)=true:=by unfold QD;rw[StrLaws.joinFits (B:=279) (λy hy=>by let⟨p,hp,rfl⟩:=qR.mp hy;exact b1q (O0.nm p hp) (O0.wok hp) (O0.gs p hp).few) (by have e:qV.length=0:=rfl;rw[qF,e];omega)];rfl
 rw[cE];unfold dfE;rw[k];show bns (lft<|yJ (.str<|qH "")<|.list<|(L.map lnB).map .str) _ _=_;have ej:yJ (.str<|qH "") (.list<|(L.map lnB).map .str)=Qa (.str<|txB L):=by unfold yJ;dsimp only;rw[lI (g:=.str) (λ_=>rfl)<|L.map lnB];dsimp only;rw[show qH ""=qV from by decide+kernel,if_pos jo];unfold Txt.join;rw[vq,a4z];rfl
 rw[ej];rfl
def b2l(b:LOk L):(txB L).length<=279*L.length:=by
 have:=a4Z 279 (L.map lnB) qV λx c=>by let⟨p,a,rfl⟩:=qR.mp c;exact b1q (b.nm p a) (b.wok a) (b.gs p a).few
 have e:qV.length=0:=rfl;rw[e,qF]at this;unfold txB;lia
def a2q{F:List q8->Mm q8}{fa:AF}(h:fa Z=Qa (.ok O))(a:F O=Qa r):fC F fa Z=Qa r:=by unfold fC;rwa[h,bG]
variable{t:Str}
theorem b6d(r:t.length<=10000):iQ [.str t]=Qa (.ex "NoText")\/∃s:List Mt,iQ [.str t]=Qa (.ok<|dS s)/\txO s=t/\(∀m∈s,nmB m.1=Qc)/\Gs s:=by
 have A:(qJ t nl).length<=t.length+1:=split_len t 10;have k:oK t=((qJ t nl).dropLast.map λl=>qJ l sp).map fH:=by rw[qZ];rfl
 let⟨b,e,u⟩:=a8e ((qJ t nl).dropLast.map λl=>qJ l sp) (by rw[qF,List.length_dropLast];lia) (λq j=>by let⟨l,_,rfl⟩:=qR.mp j;exact iX _ _) (λq j p v=>by let⟨l,w,rfl⟩:=qR.mp j;have D:=oF<|List.dropLast_subset _ w;have C:=oF v;lia);rw[<-k]at e;have f:=b8d r e;by_cases c:(qJ t nl).getLast (iX _ _)=qV/\b=Qc
 .rw[if_pos c]at f;let⟨s,i,y⟩:=u c.2;let⟨o,r2,r3⟩:=a4l y;have z:vy (oK t)=dS s:=by rw[k,o]
  rw[z]at f e;have g:∀m∈s,MtOk m:=λm d=>(r2 m d).1;refine .inr #[s,f,b4g c.1 r3,λm d=>(r2 m d).2,#[#[?_,?_],λm d=>b6S (r2 m d).2,λm d=>?_,i]]
  .by_cases n:(s.map (·.1)).Nodup;.exact n
   .rw[a5F s i g n,c.2]at e;cases e
  .by_cases n:(s.map (·.1)).Pairwise (λa b=>bQ a b=Qc);.exact n
   .rw[a5G s i g n,c.2]at e;cases e
  .exact a0z.mpr (by have:=(g m d).times;omega)
 .rw[if_neg c]at f;exact .inl f
def c1h(ht:t.length<=10000):fM [.str t]=Qa (.ex "NoText")\/∃p:Str×List Mt,fM [.str t]=Qa (.ok<|prS p)/\p.1++clS++txO p.2=t/\nmB p.1=Qc/\(∀m∈p.2,nmB m.1=Qc)/\Gs p.2:=by
 have hp:=b9Z t;have l1:(qh t clS).1.length<=10000:=by have h:=congrArg (λx:Str=>x.length)<|vp t clS;simp only[j7]at h;lia
 have l2:(qh t clS).2.2.length<=10000:=by have h:=congrArg (λx:Str=>x.length)<|vp t clS;simp only[j7]at h;lia
 generalize hP:qh t clS=P at hp l1 l2;let⟨a,c,r⟩:=P;dsimp only at hp l1 l2;have s1:dA 1 (dfE a7y (var 0)<|cst<|.str "]\n") [.val<|.str t,.no]=Qa (.nx [.val<|.str t,.val<|.tuple [.str a,.str c,.str r]]):=by
  have e:a7y (.str t) (.str<|qH "]\n")=Qa (.tuple [.str a,.str c,.str r]):=by rw[b1Q];show(if((clS.length !=0)&&bN t.length)=Qc then Qa (vy [.str (qh t clS).1,.str (qh t clS).2.1,.str (qh t clS).2.2])else Qb)=_;rw[if_pos (by rw[qD];exact#[rfl,by unfold bN;exact decide_eq_true<|by exact Q2 ‹_› rfl]),hP]
  rw[dW];show bns (lft<|a7y (.str t)<|.str<|qH "]\n") _ _=_;rw[e];rfl
 have nb:bC [.str a]=Qa (.ok<|.bool<|nmB a):=yD (by exact Q2 ‹_› rfl);have hem:(qH "")=qV:=by decide+kernel
 have t1:fY [.val<|.str t,.val<|.tuple [.str a,.str c,.str r]]=Qa (.ok<|!nmB a||decide (c=qV)):=by
  have e1:aS bC (aB (op2 ixD (var 1)<|cst<|.int 0) aG) [.val<|.str t,.val<|.tuple [.str a,.str c,.str r]]=Qa (.ok<|.bool<|nmB a):=bB (O:=[.str a]) rfl nb;have e2:gS (gI<|aS bC<|aB (op2 ixD (var 1)<|cst<|.int 0) aG) [.val<|.str t,.val<|.tuple [.str a,.str c,.str r]]=Qa (.ok<|!nmB a):=by show bnd (bnd (aS bC (aB (op2 ixD (var 1)<|cst<|.int 0) aG) _) _) _=_;rw[e1];rfl
  rw[show fY=orT _ _ from rfl,a9p,e2,bG];have e3:eG eqD (op2 ixD (var 1)<|cst<|.int 1) (cst<|.str "") [.val<|.str t,.val<|.tuple [.str a,.str c,.str r]]=Qa (.ok<|decide (c=qV)):=by rw[<-hem];exact fF (x:=.str c) (y:=.str "") rfl rfl (b7U _ _)
  rw[e3];cases nmB a<;>rfl
 by_cases bad:(!nmB a||decide (c=qV))=Qc;.left;refine iL (Z:=[.val<|.str t,.val<|.tuple [.str a,.str c,.str r]]) rfl ?_;show eQ [.val<|.str t,.no]=_;unfold eQ;rw[aI s1];exact xR (by rw[dY,t1,bad];rfl)
 .have bad':(!nmB a||decide (c=qV))=false:=by simpa using bad
  rw[Bool.or_eq_false_iff,decide_eq_false_iff_not]at bad';have hn:nmB a=true:=by simpa using bad'.1
  rcases hp with hp|⟨hp1,hp2⟩;.exact absurd hp bad'.2
  have go:∀{x:Option So},eQ [.val<|.str t,.no]=x↔retS (iR<|aB (op2 ixD (var 1)<|cst<|.int 0)<|aB (fC iQ<|aB (op2 ixD (var 1)<|cst<|.int 2) aG) aG) [.val<|.str t,.val<|.tuple [.str a,.str c,.str r]]=x:=λ{x}=>by unfold eQ;rw[aI s1,aI<|by rw[dY,t1,show(!nmB a||decide (c=qV))=Qd from by simpa using bad];rfl]
  rcases b6d (t:=r) l2 with er|⟨s,er,h1,h2,h3⟩;.left;refine iL (Z:=[.val<|.str t,.val<|.tuple [.str a,.str c,.str r]]) rfl<|go.mpr ?_;have ec:fC iQ (aB (op2 ixD (var 1)<|cst<|.int 2) aG) [.val<|.str t,.val<|.tuple [.str a,.str c,.str r]]=Qa (.ex "NoText"):=a2q (O:=[.str r]) rfl er;rw[cE,oE,bW,bW,ec];rfl
  .right;refine#[(a,s),nU rfl<|go.mpr ?_,?_,hn,h2,h3];.have ec:fC iQ (aB (op2 ixD (var 1)<|cst<|.int 2) aG) [.val<|.str t,.val<|.tuple [.str a,.str c,.str r]]=Qa (.ok<|dS s):=a2q (O:=[.str r]) rfl er;rw[cE,oE,aM (x:=.str a) rfl<|aM ec rfl];rfl
   .rw[h1];exact hp2
def a9Y{n:Str}(d:nmB n=Qc)(b:∀m∈s,nmB m.1=Qc)(S:Gs s):fM [.str<|n++clS++txO s]=Qa (.ok<|prS (n,s)):=by
 have W:=a7X S b;have C:=a7f W;have f:=S.few;have o:=(eF d).1;have a:(n++clS++txO s).length=n.length+2+(txO s).length:=by rw[j7,j7];rfl
 have i:=a9m (n:=n) (r:=txO s) (λz=>by have:=(eF d).2 93 z;lia);have p:bC [.str n]=Qa (.ok<|.bool Qc):=by rw[yD (by exact Q2 ‹_› rfl),d]
 have q:∀m∈s,MtOk m:=λm c=>#[by rw[yD (by have:=(eF<|b m c).1;exact Q2 ‹_› rfl),b m c],S.ok m c,by have:=a0z.mp<|S.tm m c;omega];have u:=a9W b W (by exact Q2 ‹_› rfl)<|a2S s f q S.nr.nd S.nr.pw;generalize D:n++clS++txO s=t at i a;have k:dA 1 (dfE a7y (var 0)<|cst<|.str "]\n") [.val<|.str t,.no]=Qa (.nx [.val<|.str t,.val<|.tuple [.str n,.str clS,.str<|txO s]]):=by
  have e:a7y (.str t) (.str<|qH "]\n")=Qa (.tuple [.str n,.str clS,.str<|txO s]):=by rw[b1Q];show(if((clS.length !=0)&&bN t.length)=Qc then Qa (vy [.str (qh t clS).1,.str (qh t clS).2.1,.str (qh t clS).2.2])else Qb)=_;rw[if_pos (by rw[qD];exact#[rfl,by exact decide_eq_true (by lia)]),i]
  rw[dW];show bns (lft<|a7y (.str t)<|.str<|qH "]\n") _ _=_;rw[e];rfl
 have A:aS bC (aB (op2 ixD (var 1)<|cst<|.int 0) aG) [.val<|.str t,.val<|.tuple [.str n,.str clS,.str<|txO s]]=Qa (.ok<|.bool Qc):=bB (O:=[.str n]) rfl p;have w:gS (gI<|aS bC<|aB (op2 ixD (var 1)<|cst<|.int 0) aG) [.val<|.str t,.val<|.tuple [.str n,.str clS,.str<|txO s]]=Qa (.ok Qd):=by show bnd (bnd (aS bC (aB (op2 ixD (var 1)<|cst<|.int 0) aG) _) _) _=_;rw[A];rfl
 have E:eG eqD (op2 ixD (var 1)<|cst<|.int 1) (cst<|.str "") [.val<|.str t,.val<|.tuple [.str n,.str clS,.str<|txO s]]=Qa (.ok Qd):=by have:=fF (g:=eqD) (fa:=op2 ixD (var 1)<|cst<|.int 1) (fb:=cst<|.str "") (Z:=[.val<|.str t,.val<|.tuple [.str n,.str clS,.str<|txO s]]) (x:=.str clS) (y:=.str "") rfl rfl<|b7U _ _;rw[this,decide_eq_false<|by decide+kernel]
 have j:fY [.val<|.str t,.val<|.tuple [.str n,.str clS,.str<|txO s]]=Qa (.ok Qd):=by rwa[show fY=orT _ _ from rfl,a9p,w,bG]
 refine nU rfl ?_;show eQ [.val<|.str t,.no]=_;unfold eQ;rw[aI k,aI<|by rw[dY,j];rfl];have v:fC iQ (aB (op2 ixD (var 1)<|cst<|.int 2) aG) [.val<|.str t,.val<|.tuple [.str n,.str clS,.str<|txO s]]=Qa (.ok<|dS s):=a2q (O:=[.str<|txO s]) rfl u;rw[cE,oE,aM (x:=.str n) rfl<|aM v rfl];rfl
def eE(p:Str×List Mt):Str:=p.1++clS++txO p.2
def Pw(L:Kn):Prop:=(L.map (·.1)).Pairwise (λa b=>bQ a b=Qc)
def b4U{ns:T0q}(e:ns.length<64)(ok:∀x∈ns,jN x=Qc):gP [.list<|ns.map .str]=Qa (.ok<|.bool<|decide (ns=fG (fD ns))):=by have c:=a6c ns e;have f:=b3h (a:=ns) (b:=fG<|fD ns) ok (λx d=>ok x<|a6N<|(bP _).mem_iff.mp d);refine cN rfl ?_;show mV [.val<|.list<|ns.map .str]=_;unfold mV;rw[cE,b1P];simp only[a8D,bG,b6K,c,a4q,f,vS,oY]
structure Rd1(p:Str×List Mt):Prop where
 nm:nmB p.1=Qc
 lb:∀m∈p.2,nmB m.1=Qc
 gs:Gs p.2
abbrev feN:EF:=fC fM<|aB (var 0) aG
theorem a9C:∀ps:List Str,(∀x∈ps,x.length<=10000)->lC (.nm 0) [.no] ttT feN (ps.map .str)=Qa (.ex "NoText")\/∃L:Kn,lC (.nm 0) [.no] ttT feN (ps.map .str)=Qa (.ok<|L.map prS)/\L.map eE=ps/\∀p∈L,Rd1 p
 |[],_=>.inr #[[],rfl,rfl,λp h=>nomatch h]|x::ps,h=>by
  have step:lC (.nm 0) [.no] ttT feN ((x::ps).map .str)=bnd (feN [.val<|.str x]) λv=>bnd (lC (.nm 0) [.no] ttT feN<|ps.map .str) λb=>Qa<|.ok (v::b):=rfl;rw[step];rcases c1h (t:=x) (h x<|by simp)with e|⟨p,e,e1,e2,e3,e4⟩;.left;rw[show feN [.val<|.str x]=_ from eL (O:=[.str x]) rfl e];rfl
  .rw[show feN [.val<|.str x]=_ from eL (O:=[.str x]) rfl e,bG];rcases a9C ps (λy c=>h y<|by simp[c])with e'|⟨L,e',h1,h2⟩;.left;rw[e'];rfl
   .right;refine#[p::L,by rw[e'];rfl,by rw[qE,h1,show eE p=x from e1],λq a=>?_];obtain rfl|a:=qI.mp a;.exact#[e2,e3,e4]
    .exact h2 q a
theorem a9B:∀L:Kn,(∀p∈L,Rd1 p)->lC (.nm 0) [.no] ttT feN ((L.map eE).map .str)=Qa (.ok<|L.map prS)|[],_=>rfl|p::L,h=>by have step:lC (.nm 0) [.no] ttT feN (((p::L).map eE).map .str)=bnd (feN [.val<|.str<|eE p]) λv=>bnd (lC (.nm 0) [.no] ttT feN<|(L.map eE).map .str) λb=>Qa<|.ok (v::b):=rfl;have a:=h p (by simp);rw[step,show feN [.val<|.str<|eE p]=_ from eL (O:=[.str<|eE p]) rfl (a9Y a.nm a.lb a.gs),bG,a9B L λq c=>h q<|by simp[c]];rfl
def c6B(t x0:Str)(ps:T0q):Re (List q8)->Option (Re BS)|.ex c=>Qa (.ex c)|.ok rows=>a5s (ifS fX (eW "NoText") eM) (a5T 3 2) [.val<|.str t,.val<|.list<|(x0::ps).map .str,.val<|.list rows,.no]
variable{x0:Str}
def a7v(j:t.length<=10000)(a:qJ t opS=x0::ps){r:Re (List q8)}(k:lC (.nm 0) [.no] ttT feN (ps.map .str)=Qa r):aQ [.str t]=c6B t x0 ps r:=by
 have g:(x0::ps).length<=t.length+1:=by rw[<-a];exact split_len t 91
 have q:ps.length<=10001:=by simp only[qO]at g;lia
 show runN 4 1 lD [.str t]=_;unfold runN;rw[if_pos<|by rfl];show lD [.val<|.str t,.no,.no,.no]=_;have f:ifS tQ (eW "NoText") eM [.val<|.str t,.no,.no,.no]=Qa (.nx [.val<|.str t,.no,.no,.no]):=rfl;have e:dA 1 (dfE a0C (var 0)<|cst<|.str "[") [.val<|.str t,.no,.no,.no]=Qa (.nx [.val<|.str t,.val<|.list<|(x0::ps).map .str,.no,.no]):=by rw[dW];show bns (lft<|a0C (.str t)<|.str<|qH "[") _ _=_;rw[b6I,a7k j,a];rfl
 have i:tV [.val<|.str t,.val<|.list<|(x0::ps).map .str,.no,.no]=bnd (Qa r) λo=>Qa<|.ok<|.list o:=by
  have p:nD (slE (var 1) (bK<|cst<|.int 1) bX) [.val<|.str t,.val<|.list<|(x0::ps).map .str,.no,.no]=Qa (.ok<|ps.map .str):=by
   refine nT (d:=.list<|ps.map .str) ?_ rfl;show lft (Qa<|vA<|cutD ((x0::ps).map .str) (Qa 1) Qb)=_;have:cutD ((x0::ps).map qb) (Qa 1) Qb=ps.map .str:=by rw[a6O _<|by decide];rfl
   rw[this];rfl
  show bnd (nD (slE (var 1) (bK<|cst<|.int 1) bX) _) _=_;rw[p,bG,if_pos<|by rw[qF];exact decide_eq_true<|by exact Q2 ‹_› rfl];show bnd (lC (.nm 0) [.no] ttT feN<|ps.map .str) _=_;rw[k]
 unfold lD;unfold a5s;rw[f];dsimp only;rw[e];dsimp only;rw[dW,i];cases r with|ex c=>rfl|ok b=>rfl
def c0K:∀ps:List Str,ju opS (qV::ps)=mY qV (ps.map λx=>opS++x):=λps=>by
 have a:∀(ps:T0q)(x:Str),(ju opS (x::ps)).cps.toList=x.cps.toList++(ps.map λy=>91::y.cps.toList).flatten:=λps=>by induction ps with|nil=>intro x;rw[join_one];simp|cons y r b=>intro x;rw[show ju opS (x::y::r)=_ from dJ _ _ _ _,bY,bY,b y];simp only[jd];rfl
 refine mE ?_;rw[a,a8m];rw[qZ];congr 2;refine jO λy _=>?_;show _=(opS++y).cps.toList;rw[bY];rfl
def b2X p:opS++eE p=lnB p:=by refine mE ?_;unfold eE;rw[lnL,bY,bY,bY];simp only[jd];rfl
def a8F L:ju opS (qV::L.map eE)=txB L:=by rw[c0K,qZ];unfold txB;congr 1;exact jO λp _=>b2X p
def b7X(hL:∀p∈L,Rd1 p)(few:L.length<=60):c6B t x0 (L.map eE) (.ok<|L.map prS)=if x0=qV/\(L.map (·.1))=fG (fD (L.map (·.1)))then Qa (.ok #[enS L,[],[]])else Qa (.ex "NoText"):=by
 have hem:(qH "")=qV:=by decide+kernel
 have k1:iN [.val<|.str t,.val<|.list<|(x0::L.map eE).map .str,.val<|.list<|L.map prS,.no]=Qa (.ok (.list ((L.map (·.1)).map .str))):=by rw[qZ];exact eY prS (λp=>[.val<|.str p.1,.val<|dS p.2]) (λp=>.str p.1) L rfl (by exact Q2 ‹_› rfl) (λp _=>by rfl) (λp _=>rfl)
 have er:=b4U (ns:=L.map (·.1)) (by rw[qF];exact Q0 ‹_› rfl) (λx hx=>by let⟨p,hp,rfl⟩:=qR.mp hx;exact b6S (hL p hp).nm);have t1:fX [.val<|.str t,.val<|.list<|(x0::L.map eE).map .str,.val<|.list<|L.map prS,.no]=Qa (.ok (!(decide (x0=qV)&&decide ((L.map (·.1))=fG (fD (L.map (·.1))))))):=by
  have e1:eG neD (op2 ixD (var 1)<|cst<|.int 0) (cst<|.str "") [.val<|.str t,.val<|.list<|(x0::L.map eE).map .str,.val<|.list<|L.map prS,.no]=Qa (.ok<|!decide (x0=qV)):=by rw[<-hem];refine fF (x:=.str x0) (y:=.str "") ?_ rfl<|a9x _ _;show lft (atI (qb x0::(L.map eE).map .str) ((0:Nat):Int))=_;rw[b2b];rfl
  have e2:gS (gI<|aS gP<|aB iN aG) [.val<|.str t,.val<|.list<|(x0::L.map eE).map .str,.val<|.list<|L.map prS,.no]=Qa (.ok (!decide ((L.map (·.1))=fG (fD (L.map (·.1)))))):=by show bnd (bnd (aS gP (aB iN aG) _) _) _=_;rw[bB (O:=[.list ((L.map (·.1)).map .str)]) (aM k1 rfl) er];rfl
  rw[show fX=orT _ _ from rfl,a9p,e1,bG,e2];by_cases c:x0=qV;.rw[decide_eq_true c];rfl
  .rw[decide_eq_false c];rfl
 show a5s (ifS fX (eW "NoText") eM) (a5T 3 2) _=_;unfold a5s;rw[dY,t1];by_cases c:x0=qV/\(L.map (·.1))=fG (fD (L.map (·.1)))
 .rw[if_pos c,decide_eq_true c.1,decide_eq_true c.2];have nd:(L.map (·.1)).Nodup:=by rw[c.2];exact(bP _).nodup_iff.mpr (xE _)
  show(match lJ yP (L.map prS)with|some kvs=>if(decide (kvs.map (λp:Key×q8=>p.1)).Nodup&&decide (kvs.length<=1000)&&decide ((3:Nat)≠2))=Qc then Qa (Re.ok<|BS.mk kvs [] [])else Qb|none=>Qb)=_;rw[b2N];dsimp only;rw[if_pos<|by rw[qD,qD];exact#[#[decide_eq_true<|c7I nd,decide_eq_true<|by rw[qF];exact Q2 ‹_› rfl],rfl]]
 .rw[if_neg c];have:(!(decide (x0=qV)&&decide ((L.map (·.1))=fG (fD (L.map (·.1))))))=true:=by
   rw[jX,Bool.and_eq_false_iff,decide_eq_false_iff_not,decide_eq_false_iff_not];by_cases c1:x0=qV;.exact .inr λz=>c #[c1,z]
   .exact .inl c1
  rw[this];rfl
def b6f(f:t.length<=10000)(d:(qJ t opS).length<=61):aQ [.str t]=Qa (.ex "NoText")\/∃L:Kn,aQ [.str t]=Qa (.ok #[enS L,[],[]])/\LOk L/\Pw L/\txB L=t/\L.length<=60:=by cases a:qJ t opS with|nil=>exact absurd a (iX _ _)|cons i j=>
  rw[a]at d;rcases a9C j (λx k=>by have:=oF (x:=t) (y:=opS) (p:=x) (by rw[a];simp[k]);lia)with e|⟨L,e,h1,h2⟩;.left;rw[a7v f a e];rfl
  .subst h1;have g:L.length<=60:=by simp only[qO,qF]at d;exact Q4 ‹_› rfl
   rw[a7v f a e,b7X h2 g];by_cases c:i=qV/\(L.map (·.1))=fG (fD (L.map (·.1)))
   .right;rw[if_pos c];refine#[L,rfl,#[by rw[c.2];exact(bP _).nodup_iff.mpr<|xE _,λp b=>(h2 p b).nm,λp b=>(h2 p b).lb,λp b=>(h2 p b).gs],?_,?_,g];.unfold Pw;rw[c.2];exact dP _
    .rw[<-a8F,<-c.1,<-a];exact kF _ _
   .left;rw[if_neg c]
def c4a:(qj 481).all (λm=>(mtx (m:Int)).cps.toList.all λc=>decide (c≠91))=true:=by decide+kernel
theorem b7c{m:Int}(b:0<=m)(a:m<=480):91∉(mtx m).cps.toList:=λz=>by have h:=qu.mp c4a m.toNat<|kH.mpr (by lia);rw[show((m.toNat:Nat):Int)=m by lia]at h;have:=qu.mp h 91 z;simp at this
def c0G{m:Mt}(a:nmB m.1=Qc)(h:WOk m):91∉(mR m).cps.toList:=by
 have e:(mR m).cps.toList=m.1.cps.toList++32::((mtx m.2.1).cps.toList++32::((mtx m.2.2).cps.toList++[10])):=by unfold mR lineOf;rw[bY,dJ,dJ,join_one];simp only[bY,jd];rfl
 rw[e];intro z;simp only[qU,qI,jB,or_false]at z;obtain z|z|z|z|z|z:=z;.have:=(eF a).2 91 z;lia
 .lia
 .exact b7c h.t1.1 h.t1.2 z
 .omega
 .exact b7c h.t2.1 h.t2.2 z
 .lia
def c5x(b:∀m∈s,nmB m.1=Qc)(h:∀m∈s,WOk m):91∉(txO s).cps.toList:=by
 unfold txO;rw[a8m];intro z;simp only[qU,vJ,qR]at z;obtain z|⟨l,⟨x,⟨m,a,rfl⟩,rfl⟩,z⟩:=z;.exact absurd z (by show 91∉([]:T0t);simp)
 .exact c0G (b m a) (h m a) z
def b2K(h:Rd1 p):91∉(eE p).cps.toList:=by
 unfold eE;rw[bY,bY];intro z;simp only[qU]at z;obtain(z|z)|z:=z;.have:=(eF h.nm).2 91 z;lia
 ·revert z;simp
 .exact c5x h.lb (a7X h.gs h.lb) z
def LOk.rd(b:LOk L):∀p∈L,Rd1 p:=λp a=>#[b.nm p a,b.lb p a,b.gs p a]
def a6d(d:LOk L):qJ (txB L) opS=qV::L.map eE:=a0B (c:=91) (a8F L) (by simp) λx a=>by
  obtain rfl|a:=qI.mp a;.show 91∉([]:T0t);simp
  .let⟨p,b,rfl⟩:=qR.mp a;exact b2K<|d.rd p b
def b6e(a:LOk L)(pw:Pw L)(b:L.length<=30):aQ [.str<|txB L]=Qa (.ok #[enS L,[],[]]):=by
 have c:=b2l a;have e:(L.map (·.1))=fG (fD (L.map (·.1))):=by rw[a4V a.nd];exact lU (bP _).symm pw (dP _)
 rw[a7v (by lia) (a6d a)<|a9B L a.rd,b7X a.rd (by exact Q2 ‹_› rfl),if_pos #[rfl,e]]
def a9X(b:LOk L)(pw:Pw L)(a:L.length<=60){dn un:T0l}:bZ #[enS L,dn,un] []=Qa (.ok<|.str<|txB L):=by
 refine b0a b ?_ (λp c=>?_) a;.have h:a8A (bD #[enS L,dn,un])=Qa (L.map (·.1)):=b2f L;rw[a4S h (by rw[qF];exact Q0 ‹_› rfl),<-lU (bP _).symm pw (dP _)]
 .show dO (.inr p.1) ((enS L).map λp=>(hZ p.1,p.2))=_;rw[b1p,a1Z b.nd c];rfl
abbrev Lb(s:List Mt):Prop:=∀m∈s,nmB m.1=Qc
def c6n:∀x∈L6,nmB x=true:=by decide+kernel
def c6e:∀x∈N4,nmB x=true:=by decide+kernel
def b9n:∀x∈cI,nmB x=true:=by decide+kernel
def SheetOk.lb(S:SheetOk s):Lb s:=λm a=>by have:m.1∈s.map (·.1):=qR.mpr #[m,a,rfl];rw[S.names]at this;exact b9n _<|vd this
def c1Z{l:Str}{t u:Int}(S:Gs s)(b:Lb s)(c:nmB l=Qc)(h:a2u s l t u=.inr s'):Lb s':=by
 unfold a2u at h;split at h;.cases h
 .rename_i d;split at h
  .split at h
   .cases h;intro m a;rcases qU.mp ((a0L (a4G S.nr.nd d) m).mp a)with a|a;.exact b m a
    .obtain rfl:m=(l,t,u):=by simpa using a
     exact c
   .cases h
  .cases h
def b8o{l:Str}(a:Lb s)(h:sH s l=.inr s'):Lb s':=by
 unfold sH at h;split at h;.cases h;exactλm b=>a m (jA.mp b).1
 .cases h
variable{c:Int}
def b3T(b:Lb s)(h:lR s c=.inr s'):Lb s':=by
 unfold lR at h;split at h;.cases h;intro m d;let⟨x,a,rfl⟩:=qR.mp d;exact b x a
 .cases h
def b4A{o:List Mt}(S:Gs s)(e:Gs o)(a:Lb s)(b:Lb o)(h:lW s o=.inr s'):Lb s':=by
 unfold lW at h;split at h
 .rename_i d;split at h;.cases h;intro m c;exact(b2T.mp<|(a0L (b0C S.nr e.nr d) m).mp c).elim (a m) (b m)
  .cases h
 .cases h
abbrev LbK(K:Kn):Prop:=∀p∈K,Lb p.2
def b6i{K:Kn}(h:LbK K){n:Str}(b:Lb s):LbK (oM K n s):=λp a=>(a7K.mp a).elim (λz=>h p z.1) λz=>by rwa[z]
def a1o{K:Kn}(h:LbK K){n:Str}(a:∀s,ou=.inr s->Lb s):LbK (eI K n ou).1:=by cases ou with|inl c=>exact h|inr s=>exact b6i h<|a s rfl
def b9s{K:Kn}(k:KOk K)(h:LbK K) d(i:b5u d):LbK (stepK K d).1:=by have b:∀{n s},aZ K n=Qa s->Gs s/\Lb s:=λe=>#[k.gs _<|gH e,h _<|gH e];cases d with
 |lay n s=>exact b6i h i.2.lb|take n=>show LbK (match aZ K n with|none=>(K,qb "no sheet")|some s=>(iE K n,dS s)).1;cases a:aZ K n with|none=>exact h|some s=>exactλp j=>h p (jA.mp j).1
 |add n l t u=>show LbK (match aZ K n with|none=>(K,qb "no sheet")|some s=>eI K n<|a2u s l t u).1;cases a:aZ K n with|none=>exact h|some s=>exact a1o h λf e=>c1Z (b a).1 (b a).2 (c6n l i.2) e
 |drop n l=>show LbK (match aZ K n with|none=>(K,qb "no sheet")|some s=>eI K n<|sH s l).1;cases a:aZ K n with|none=>exact h|some s=>exact a1o h λf e=>b8o (b a).2 e
 |shift n c=>show LbK (match aZ K n with|none=>(K,qb "no sheet")|some s=>eI K n<|lR s c).1;cases a:aZ K n with|none=>exact h|some s=>exact a1o h λf e=>b3T (b a).2 e
 |merge n x=>show LbK (match aZ K n,aZ K x with|some s,Qa o=>eI K n (lW s o)|_,_=>(K,qb "no sheet")).1;cases a:aZ K n with|none=>exact h|some s=>cases g:aZ K x with|none=>exact h|some o=>exact a1o h λf e=>b4A (b a).1 (b g).1 (b a).2 (b g).2 e
structure In86(K:Kn)(b:BS)(n:Nat):Prop where
 ko:KOk K
 kn:∀p∈K,p.1∈N4
 lb:LbK K
 br:BR K b
 few:K.length<=n
 dn:b.dn.length<=n
def c2T{K:Kn}{n:Nat}(h:In86 K b n)(s:n<29) d(a:b5u d):∃b' v p,a1s b [dD d]=Qa (.ok v,b')/\In86 p b' (n+1):=by
 have o:=h.few;have k:=h.dn;let⟨r,b',i,g,w⟩:=c6E h.br h.ko (by lia) d a;obtain⟨j,rfl,e⟩|⟨j,f,e,q⟩:=w;.exact#[_,_,K,c2w i g,#[h.ko,h.kn,h.lb,h.br,by lia,by lia]]
 .have c:=b9q h.ko (by lia) d a;refine#[b',_,(stepK K d).1,c2w i g,#[c.1,b9r h.kn d a,b9s h.ko h.lb d a,?_,by have:=c.2;lia,?_]];.rw[f];exact h.br.any h.ko c.1 e
  .rw[f];show(b.dn++[_]).length<=_;simp only[qY,qO,jj];lia
def In86.lok{K:Kn}{n:Nat}(h:In86 K b n):LOk (a5p K):=by
 have nd:((a5p K).map (·.1)).Nodup:=by rw[a0b];exact c2X h.ko
 have mem:∀p∈a5p K,p∈K:=λp a=>by let⟨x,c,rfl⟩:=qR.mp a;let⟨q,d,e⟩:=qR.mp<|b2t.mp c;have:=a1Z h.ko.nd d;rwa[<-e,this]
 exact#[nd,λp a=>c6e _<|h.kn p<|mem p a,λp a=>h.lb p<|mem p a,λp a=>h.ko.gs p<|mem p a]
def c2U K:Pw (a5p K):=by unfold Pw;rw[a0b];exact dP _
def b2p K:(a5p K).length=K.length:=by unfold a5p snm;rw[qF,(bP _).length_eq,qF]
def In86.text{K:Kn}{n:Nat}(h:In86 K b n):bZ b []=Qa (.ok<|.str<|txB<|a5p K):=by
 have g:=h.ko.few;refine b0a h.lok ?_ (λp d=>?_) (by rw[b2p];exact Q2 ‹_› rfl);.rw[b8e h.br h.ko,a0b]
 .let⟨x,a,rfl⟩:=qR.mp d;let⟨q,c,e⟩:=qR.mp<|b2t.mp a;have f:=a1Z h.ko.nd c;rw[h.br.sheet h.ko,<-e,f];rfl
theorem b6V:∀(l N:T0q),l.Nodup->(∀x∈l,x∈N)->l.length<=N.length|[],N,_,_=>jJ _|x::l,N,nd,h=>by have a:=h x (by simp);have n:=kB.mp nd;have:=b6V l (N.erase x) n.2 λy b=>(List.mem_erase_of_ne (λz:y=x=>n.1<|by rwa[<-z])).mpr<|h y (by simp[b]);rw[List.length_erase_of_mem a]at this;have:=List.length_pos_of_mem a;simp only[qO];lia
def In86.four{K:Kn}{n:Nat}(h:In86 K b n):K.length<=4:=by
 have:=b6V (K.map (·.1)) N4 h.ko.nd λx a=>by let⟨p,c,rfl⟩:=qR.mp a;exact h.kn p c
 rwa[qF]at this
noncomputable def c91(x:Str):Nat:=x.cps.toList.count 91
theorem b3b(x:T0t) a:∀n,((qj n).map<|λk=>a+k).filterMap (x[·]?)=(x.drop a).take n|0=>rfl|n+1=>by rw[vT,jD,List.filterMap_append,b3b x a n,List.take_add_one,zw];congr 1
theorem b4h(x:Str){s e:Int}(h:0<=s):((QB s e 1).filterMap (x.cps[·]?)).Sublist x.cps.toList:=by
 have:∃n,QB s e 1=(qj n).map λk=>s.toNat+k:=by refine#[_,jO λk _=>?_];lia
 let⟨n,b⟩:=this;rw[b];have a:∀i,x.cps[i]?=x.cps.toList[i]?:=λi=>by rw[jt]
 rw[show(λi=>x.cps[i]?)=λi=>x.cps.toList[i]? from funext a,b3b];exact(ku _ _).trans<|wK _ _
def c1v x lo hi:(a2j x lo hi).cps.toList.Sublist x.cps.toList:=by
 unfold a2j;split;.exact List.Sublist.refl _
 .refine b4h x ?_;cases lo with|none=>simp|some i=>simp;split<;>omega
def c6K x lo hi:c91 (a2j x lo hi)<=c91 x:=(c1v x lo hi).count_le _
def mZ x y:c91 (x++y)=c91 x+c91 y:=by unfold c91;rw[bY,List.count_append]
def c6l x:c91 x<=x.length:=by unfold c91;have:=List.count_le_length (a:=91) (l:=x.cps.toList);exact this
variable{lo hi:OF}
def a8T{x:Str}{l h:Option Int}(d:fa Z=Qa (.ok<|.str x))(a:lo Z=Qa (.ok l))(b:hi Z=Qa (.ok h))(e:x.length<=10000):∃z,lQ fa lo hi Z=Qa (.ok<|.str z)/\z.length<=x.length/\c91 z<=c91 x:=by have c:=b8E x l h;refine#[a2j x l h,?_,c,c6K x l h];unfold lQ;rw[d,bG,a,bG,b,bG];show lft (if bN (a2j x l h).length=Qc then Qa (qb<|a2j x l h)else Qb)=_;rw[if_pos<|by unfold bN;exact decide_eq_true<|by lia];rfl
theorem b4S{sg:Str}{n:Int}(R:0<n)(ls:mS [.str sg]=Qa (.int n))(D:∀k:Nat,(k:Int)<n->∃z:Str,ixD (.str sg) (.int (k:Int))=Qa (.str z)/\z.length<=1)(ht:t.length<=2000):∃z,pB [.str t,.int c,.str sg]=Qa (.ok<|.str z)/\z.length<=10000/\c91 z<=2*c91 t+1:=by
 have lt:mS [.str t]=Qa (.int (t.length:Nat)):=by show(if bN t.length=Qc then Qa (jb (t.length:Nat))else Qb)=_;rw[if_pos<|by exact decide_eq_true (by exact Q2 ‹_› rfl)]
 have m1:0<=c%((t.length:Nat)+1:Int):=km _ (by lia);let⟨g,S,gl⟩:=D (c/1000%n).toNat (by have:=km (c/1000) (b:=n) (by lia);have:=zJ (c/1000) R;lia);rw[show(((c/1000%n).toNat:Nat):Int)=c/1000%n from by have:=km (c/1000) (b:=n) (by lia);lia]at S;have P:dA 3 (op2 pG (var 1)<|op2 aY (eS mS<|aB (var 0) aG)<|cst<|.int 1) [.val<|.str t,.val<|.int c,.val<|.str sg,.no,.no,.no,.no]=Qa (.nx [.val<|.str t,.val<|.int c,.val<|.str sg,.val<|.int<|c%((t.length:Nat)+1:Int),.no,.no,.no]):=by have e:eS mS (aB (var 0) aG) [.val<|.str t,.val<|.int c,.val<|.str sg,.no,.no,.no,.no]=Qa (.ok<|.int (t.length:Nat)):=mB (O:=[.str t]) rfl lt;rw[dW,uZ,uZ,e];show bns (lft<|pG (.int c)<|.int ((t.length:Nat)+1:Int)) _ _=_;rw[a7J,if_pos<|by lia];rfl
 have N:dA 4 (op2 ixD (var 2)<|op2 pG (op2 a2a (var 1)<|cst<|.int 1000)<|eS mS<|aB (var 2) aG) [.val<|.str t,.val<|.int c,.val<|.str sg,.val<|.int<|c%((t.length:Nat)+1:Int),.no,.no,.no]=Qa (.nx [.val<|.str t,.val<|.int c,.val<|.str sg,.val<|.int<|c%((t.length:Nat)+1:Int),.val<|.str g,.no,.no]):=by
  have e:eS mS (aB (var 2) aG) [.val<|.str t,.val<|.int c,.val<|.str sg,.val<|.int<|c%((t.length:Nat)+1:Int),.no,.no,.no]=Qa (.ok<|.int n):=mB (O:=[.str sg]) rfl ls;have e2:op2 pG (op2 a2a (var 1)<|cst<|.int 1000) (eS mS<|aB (var 2) aG) [.val<|.str t,.val<|.int c,.val<|.str sg,.val<|.int<|c%((t.length:Nat)+1:Int),.no,.no,.no]=Qa (.ok<|.int<|c/1000%n):=by rw[uZ,e];show bnd (lft<|a2a (.int c)<|.int 1000) _=_;rw[c4E,if_pos<|by decide];show lft (pG (.int<|c/1000)<|.int n)=_;rw[a7J,if_pos R];rfl
  rw[dW,uZ,e2];show bns (lft<|ixD (.str sg)<|.int<|c/1000%n) _ _=_;rw[S];rfl
 generalize hat:c%((t.length:Nat)+1:Int)=at' at P N m1;have M:dA 5 (op2 aY (op2 aY (var 3)<|cst<|.int 1)<|op2 pG (op2 a2a (var 1)<|cst<|.int 7)<|cst<|.int 9) [.val<|.str t,.val<|.int c,.val<|.str sg,.val<|.int at',.val<|.str g,.no,.no]=Qa (.nx [.val<|.str t,.val<|.int c,.val<|.str sg,.val<|.int at',.val<|.str g,.val<|.int<|at'+1+c/7%9,.no]):=by simp
 have y:dA 6 (op2 pG (op2 a2a (var 1)<|cst<|.int 100000)<|cst<|.int 8) [.val<|.str t,.val<|.int c,.val<|.str sg,.val<|.int at',.val<|.str g,.val<|.int<|at'+1+c/7%9,.no]=Qa (.nx [.val<|.str t,.val<|.int c,.val<|.str sg,.val<|.int at',.val<|.str g,.val<|.int<|at'+1+c/7%9,.val<|.int<|c/100000%8]):=by simp
 generalize at'+1+c/7%9=on at M y;generalize c/100000%8=w at y;let Z:List Ent:=[.val<|.str t,.val<|.int c,.val<|.str sg,.val<|.int at',.val<|.str g,.val<|.int on,.val<|.int w];have s:0<=c%5/\c%5<5:=#[km _ (by decide),zJ _<|by decide]--the slices
 let⟨i,f,la1,ca1⟩:=a8T (fa:=var 0) (lo:=bX) (hi:=bK<|var 3) (Z:=Z) (x:=t) (l:=Qb) (h:=Qa at') rfl rfl rfl (by exact Q2 ‹_› rfl);let⟨j,o,la2,ca2⟩:=a8T (fa:=var 0) (lo:=bK<|var 3) (hi:=bX) (Z:=Z) (x:=t) (l:=Qa at') (h:=Qb) rfl rfl rfl (by exact Q2 ‹_› rfl);let⟨a3,u,la3,ca3⟩:=a8T (fa:=var 0) (lo:=bK<|op2 aY (var 3)<|cst<|.int 1) (hi:=bX) (Z:=Z) (x:=t) (l:=Qa<|at'+1) (h:=Qb) rfl rfl rfl (by exact Q2 ‹_› rfl);let⟨a4,G,la4,ca4⟩:=a8T (fa:=var 0) (lo:=bK<|var 5) (hi:=bX) (Z:=Z) (x:=t) (l:=Qa on) (h:=Qb) rfl rfl rfl (by exact Q2 ‹_› rfl);let⟨a5,F,la5,ca5⟩:=a8T (fa:=var 0) (lo:=bX) (hi:=bK<|var 5) (Z:=Z) (x:=t) (l:=Qb) (h:=Qa on) rfl rfl rfl (by exact Q2 ‹_› rfl);have L:uQ Z=Qa (.ok<|decide (w<2)):=rfl;have K:uO Z=Qa (.ok<|decide (w=2)):=rfl;have J:uN Z=Qa (.ok<|decide (w<5)):=rfl;have I:uM Z=Qa (.ok<|decide (w=5)):=rfl;have H:uL Z=Qa (.ok<|decide (w=6)):=rfl;have d:∀z:Str,z.length<=10000/\c91 z<=2*c91 t+1->tO [.val<|.str t,.val<|.int c,.val<|.str sg,.no,.no,.no,.no]=Qa (.rt<|.str z)->∃z,pB [.str t,.int c,.str sg]=Qa (.ok<|.str z)/\z.length<=10000/\c91 z<=2*c91 t+1:=λz hz e=>#[z,cN rfl e,hz];have cg:=c6l g;have p:∀{r:Option So},tO [.val<|.str t,.val<|.int c,.val<|.str sg,.no,.no,.no,.no]=r↔_=r:=λ{r}=>by unfold tO;rw[aI P,aI N,aI M,aI y]
 by_cases c1:w<2;.refine d (i++g++j) #[by rw[j7,j7];lia,by rw[mZ,mZ];lia] (p.mpr<|iJ ?_);rw[dY,L,decide_eq_true c1,oY,if_pos rfl,cE,gM (gM f (b:=g) rfl<|by omega) o<|by rw[j7];lia];rfl
 have q:ifS uQ (retS<|op2 aY (op2 aY (lQ (var 0) bX<|bK<|var 3)<|var 4)<|lQ (var 0) (bK<|var 3) bX) eM Z=Qa (.nx Z):=by rw[dY,L,decide_eq_false c1];rfl
 by_cases c2:w=2;.refine d (i++a3) #[by rw[j7];lia,by rw[mZ];lia] (p.mpr ?_);rw[aI q];refine iJ ?_;rw[dY,K,decide_eq_true c2,oY,if_pos rfl,cE,gM f u<|by lia];rfl
 have v:ifS uO (retS<|op2 aY (lQ (var 0) bX<|bK<|var 3)<|lQ (var 0) (bK<|op2 aY (var 3)<|cst<|.int 1) bX) eM Z=Qa (.nx Z):=by rw[dY,K,decide_eq_false c2];rfl
 by_cases c3:w<5;.refine d (i++g++a3) #[by rw[j7,j7];lia,by rw[mZ,mZ];lia] (p.mpr ?_);rw[aI q,aI v];refine iJ ?_;rw[dY,J,decide_eq_true c3,oY,if_pos rfl,cE,gM (gM f (b:=g) rfl<|by omega) u<|by rw[j7];lia];rfl
 have A:ifS uN (retS<|op2 aY (op2 aY (lQ (var 0) bX<|bK<|var 3)<|var 4)<|lQ (var 0) (bK<|op2 aY (var 3)<|cst<|.int 1) bX) eM Z=Qa (.nx Z):=by rw[dY,J,decide_eq_false c3];rfl
 by_cases X:w=5;.refine d (i++a4) #[by rw[j7];lia,by rw[mZ];lia] (p.mpr ?_);rw[aI q,aI v,aI A];refine iJ ?_;rw[dY,I,decide_eq_true X,oY,if_pos rfl,cE,gM f G<|by lia];rfl
 have Q:ifS uM (retS<|op2 aY (lQ (var 0) bX<|bK<|var 3)<|lQ (var 0) (bK<|var 5) bX) eM Z=Qa (.nx Z):=by rw[dY,I,decide_eq_false X];rfl
 by_cases T:w=6;.refine d (a5++j) #[by rw[j7];lia,by rw[mZ];lia] (p.mpr ?_);rw[aI q,aI v,aI A,aI Q];refine iJ ?_;rw[dY,H,decide_eq_true T,oY,if_pos rfl,cE,gM F o<|by lia];rfl
 have n5:ifS uL (retS<|op2 aY (lQ (var 0) bX<|bK<|var 5)<|lQ (var 0) (bK<|var 3) bX) eM Z=Qa (.nx Z):=by rw[dY,H,decide_eq_false T];rfl
 have l1:(qH " ").length=1:=by decide+kernel
 have l0:(qH "").length=0:=by decide+kernel
 have C:nJ (aB (op2 aY (var 0)<|cst<|.str " ")<|aB (op2 aY (cst<|.str " ")<|var 0)<|aB (op2 aY (lQ (var 0) (bK<|var 3) bX)<|lQ (var 0) bX<|bK<|var 3)<|aB (cst<|.str "")<|aB (op2 aY (var 0)<|var 0) aG) Z=Qa (.ok<|.list<|[t++qH " ",qH " "++t,j++i,qH "",t++t].map .str):=by unfold nJ;rw[aM (gM (a:=t) (b:=qH " ") rfl rfl<|by exact Q0 ‹_› rfl)<|aM (gM (a:=qH " ") (b:=t) rfl rfl<|by lia)<|aM (gM o f<|by lia)<|aM rfl<|aM (gM (a:=t) (b:=t) rfl rfl<|by lia) rfl];rfl
 have hk:=a1j (Y:=[t++qH " ",qH " "++t,j++i,qH "",t++t]) qb s.1 (s.2) qV;have E:([t++qH " ",qH " "++t,j++i,qH "",t++t].getD (c%5).toNat qV).length<=10000/\c91 ([t++qH " ",qH " "++t,j++i,qH "",t++t].getD (c%5).toNat qV)<=2*c91 t+1:=by
  have z0:c91 (qH " ")=0:=by decide+kernel
  have z1:c91 (qH "")=0:=by decide+kernel
  have:(c%5).toNat=0\/(c%5).toNat=1\/(c%5).toNat=2\/(c%5).toNat=3\/(c%5).toNat=4:=by lia
  obtain e|e|e|e|e:=this<;>rw[e];.show(t++qH " ").length<=_/\c91 (t++qH " ")<=_;rw[j7,mZ];lia
  .show(qH " "++t).length<=_/\c91 (qH " "++t)<=_;rw[j7,mZ];lia
  .show(j++i).length<=_/\c91 (j++i)<=_;rw[j7,mZ];lia
  .show(qH "").length<=_/\c91 (qH "")<=_;lia
  .show(t++t).length<=_/\c91 (t++t)<=_;rw[j7,mZ];lia
 refine d _ E<|p.mpr ?_;rw[aI q,aI v,aI A,aI Q,aI n5,cE,uZ,C,bG];have m5:op2 pG (var 1) (cst<|.int 5) Z=Qa (.ok<|.int<|c%5):=by show lft (pG (.int c)<|.int 5)=_;rw[a7J,if_pos<|by decide];rfl
 rw[m5,bG,c6q,hk];rfl
def cL(l:T0q):Nat:=(l.map c91).sum
noncomputable def tL(l:T0q):Nat:=(l.map (·.length)).sum
def b2n{f:Str->Nat}{a b:T0q}(h:a.Sublist b):(a.map f).sum<=(b.map f).sum:=by induction h with|slnil=>exact qM _|cons x _ c=>simp only[qE,vz];lia|cons_cons x _ c=>simp only[qE,vz];lia
def b1W a b:cL (a++b)=cL a+cL b:=by unfold cL;rw[jD,List.sum_append]
def b0E a b:tL (a++b)=tL a+tL b:=by unfold tL;rw[jD,List.sum_append]
theorem b1u:∀ x(r:T0q),c91 (ju nl (x::r))=cL (x::r)|x,[]=>by rw[join_one];simp[cL]|x,y::r=>by rw[dJ,mZ,mZ,b1u y r];rw[show c91 nl=0 from by decide+kernel];rfl
theorem b1t:∀ x(r:T0q),(ju nl (x::r)).length=tL (x::r)+r.length|x,[]=>by rw[join_one];simp[tL]|x,y::r=>by rw[dJ,j7,j7,b1t y r];show x.length+1+_=_;simp only[tL,qE,vz,qO];lia
def c0L(a:T0q):c91 (ju nl a)<=cL a/\(ju nl a).length<=tL a+a.length:=by cases a with|nil=>exact#[jJ _,jJ _]|cons x r=>rw[b1u,b1t];simp only[qO];lia
def b5R t:cL (qJ t nl)=c91 t/\tL (qJ t nl)<=t.length/\(qJ t nl).length<=t.length+1:=by have e:=kF t nl;cases h:qJ t nl with|nil=>exact absurd h (iX _ _)|cons x r=>rw[h]at e;have a:=b1u x r;have b:=b1t x r;rw[e]at a b;refine#[a.symm,by lia,?_];have:=split_len t 10;rw[show qJ t #[(List.toArray [10])]=x::r from h]at this;exact this
def a0d{ns:T0q}{l h:Option Int}(c:fa Z=Qa (.ok<|.list<|ns.map .str))(a:lo Z=Qa (.ok l))(b:hi Z=Qa (.ok h)):∃qs:List Str,slE fa lo hi Z=Qa (.ok<|.list<|qs.map .str)/\qs.Sublist ns:=by refine#[(ns.drop<|HT.sIx ns.length 0 l).take<|HT.sIx ns.length ns.length h-HT.sIx ns.length 0 l,?_,(ku _ _).trans<|wK _ _];unfold slE;rw[c,bG,a,bG,b,bG];show lft (Qa<|vA<|cutD (ns.map .str) l h)=_;unfold cutD;rw[qF,<-List.map_drop,<-List.map_take];rfl
def a3t{a b:T0q}(d:fa Z=Qa (.ok<|.list<|a.map .str))(c:fb Z=Qa (.ok<|.list<|b.map .str))(h:a.length+b.length<=100000):op2 aY fa fb Z=Qa (.ok<|.list<|(a++b).map .str):=by rw[uZ,d,bG,c,bG,b9b,if_pos (by rwa[qF,qF]),jD];rfl
structure Tt(t:Str):Prop where
 len:t.length<=10000
 few:c91 t<=40
variable{qs:List Str}
def c4r(hB:∀q∈qs,q.length<=1200)(hn:qs.length<=4000)(hc:cL qs<=40)(ht:tL qs+qs.length<=10000):∃z:Str,yJ (.str<|qH "\n") (.list<|qs.map .str)=Qa (.str z)/\Tt z:=by
 have l1:(qH "\n").length=1:=by decide+kernel
 have jo:QD (qH "\n") qs=true:=by unfold QD;rw[StrLaws.joinFits (B:=1200) hB<|by rw[l1];omega];rfl
 have e:Txt.join (qH "\n") qs=ju nl qs:=by unfold Txt.join;rw[vq,b2R]
 have:=c0L qs;refine#[Txt.join (qH "\n") qs,?_,#[by rw[e];omega,by rw[e];omega]];unfold yJ;dsimp only;rw[lI (g:=.str) (λ_=>rfl) qs];dsimp only;rw[if_pos jo]
def b3P(h:Tt t):(qJ t opS).length<=61:=by
 have a:∀(x:Str)(r:T0q),c91 (ju opS (x::r))=cL (x::r)+r.length:=λx r=>by induction r generalizing x with|nil=>rw[join_one];simp[cL]|cons y r b=>rw[dJ,mZ,mZ,b y,show c91 opS=1 from by decide+kernel];simp only[cL,qE,vz,qO];lia
 have e:=kF t opS;cases c:qJ t opS with|nil=>simp|cons x r=>rw[c]at e;have:=a x r;rw[e]at this;have:=h.few;simp only[qO];lia
def b0o(hi:Z[i]?=Qa (.lst O))(h:fa Z=Qa (.ok d))(a:O.length<=1000):a1k i fa Z=Qa (.nx<|Z.set i<|.lst<|O++[d]):=by unfold a1k;rw[hi];rw[h];show(if bN O.length=Qc then Qa (So.nx<|Z.set i<|.lst<|O++[d])else Qb)=_;rw[if_pos<|by exact decide_eq_true (by exact Q2 ‹_› rfl)]
variable{y:q8}
def b8w{g:q8->q8->Option q8}{x:q8}(b:fa Z=Qa (.ok x))(a:fb Z=Qa (.ok y))(h:g x y=Qa d):dfE g fa fb Z=Qa (.ok d):=by unfold dfE;rw[b,a];show lft (g x y)=_;rw[h];rfl
def c3i(h:fa Z=Qa (.ok<|.list<|qs.map .str)):op1 b6c fa Z=Qa (.ok<|.list<|qs.reverse.map .str):=by rw[b6K,h,bG];rw[wS];rfl
noncomputable abbrev sg6:Str:="012:[]ab \n"
def b9v:mS [.str sg6]=Qa (.int 10):=by kernel_rfl
def c3a(k:Nat)(h:(k:Int)<10):∃z:Str,ixD (.str sg6) (.int (k:Int))=Qa (.str z)/\z.length<=1:=by
 have b:sg6.cps.toList.length=10:=by decide+kernel
 have a:bN sg6.length=true:=by decide+kernel
 refine#[#[(List.toArray [sg6.cps.toList[k]'(by omega)])],?_,qM _];show(if bN sg6.length=Qc then(atI sg6.cps.toList (k:Int)).map (λc=>qb #[(List.toArray [c])])else Qb)=_;rw[if_pos a,b2b,qN<|by omega];rfl
abbrev q86(ns:T0s)(a:Addr)(b:BS)(k:Int)(t:Str)(rs Y:T0q)(e6 e7 e8:Ent):List Ent:=[.val<|dN ns,.ro (Qa a) b,.val<|.int k,.val<|.str t,.val<|.list<|rs.map .str,.lst<|Y.map .str,e6,e7,e8,.no,.no,.no,.no]
variable{ns:List Int}{Y:List Str}
def c3g(ht:t.length<=1120)(hc:c91 t<=4)(hX:∀x∈Y,Tt x)(hn:Y.length<=900):∃ys g6 g7 g8,(∀x∈ys,Tt x)/\ys.length=Y.length+4/\(∃d6,g6=Ent.val d6)/\(∃d7,g7=Ent.val d7)/\(∃d8,g8=Ent.val d8)/\a8y (q86 ns a b k t (qJ t nl) Y e6 e7 e8)=Qa (.nx<|q86 ns a b k t (qJ t nl) ys g6 g7 g8):=by
 let⟨sc,st,sl⟩:=b5R t;have ne:=iX t nl;have X:=List.length_pos_iff.mpr ne;have C:∀q∈qJ t nl,q.length<=1200:=λq hq=>by have:=oF hq;lia
 generalize hR:qJ t nl=rs at*--the cell
 have T:=b8i ns (1700+(k:Int)) (by lia);have S:=lG ns (1720+(k:Int)) 999983 (by lia) (by decide);have R:=lG ns (1740+(k:Int)) (rs.length:Int) (by lia) (by omega);have pl:=iM ns (1740+(k:Int)) (many:=(rs.length:Int)) (by omega);generalize cellOf ns (1700+(k:Int))=c0 at T;generalize pickOf ns (1720+(k:Int)) 999983=p0 at S;generalize pickOf ns (1740+(k:Int)) (rs.length:Int)=p at R pl;have P:dA 6 (op2 aY (op2 pF (aS xK<|aB (var 0)<|aB (op2 aY (cst<|.int 1700)<|var 2) aG)<|cst<|.int 7919)<|aS bR<|aB (var 0)<|aB (op2 aY (cst<|.int 1720)<|var 2)<|aB (cst<|.int 999983) aG) (q86 ns a b k t rs Y e6 e7 e8)=Qa (.nx<|q86 ns a b k t rs Y (.val<|.int<|c0*7919+p0) e7 e8):=by rw[dW,nG (x:=.int<|c0*7919) (y:=.int p0) (d:=.int<|c0*7919+p0) (nG (x:=.int c0) (y:=.int 7919) (bB (O:=[dN ns,.int<|1700+(k:Int)]) rfl T) rfl<|a3k (by decide)<|by decide) (bB (O:=[dN ns,.int<|1720+(k:Int),.int 999983]) rfl S) rfl];rfl
 generalize c0*7919+p0=c at P;let⟨f,J,G,cz1⟩:=b4S (t:=t) (sg:=sg6) (c:=c) (n:=10) (by decide) b9v c3a (by exact Q2 ‹_› rfl);have s2:a1k 5 (aS pB<|aB (var 3)<|aB (var 6)<|aB (cst<|.str "012:[]ab \n") aG) (q86 ns a b k t rs Y (.val<|.int c) e7 e8)=Qa (.nx<|q86 ns a b k t rs (Y++[f]) (.val<|.int c) e7 e8):=by rw[b0o (O:=Y.map .str) (d:=.str f) rfl (bB (O:=[.str t,.int c,.str sg6]) rfl J)<|by rw[qF];exact Q2 ‹_› rfl];show Qa (So.nx [_,_,_,_,_,.lst<|Y.map .str++[.str f],_,_,_,_,_,_,_])=_;rw[show Y.map qb++[.str f]=(Y++[f]).map .str from by simp]
 have s3:dA 7 (aS bR<|aB (var 0)<|aB (op2 aY (cst<|.int 1740)<|var 2)<|aB (eS mS<|aB (var 4) aG) aG) (q86 ns a b k t rs (Y++[f]) (.val<|.int c) e7 e8)=Qa (.nx<|q86 ns a b k t rs (Y++[f]) (.val<|.int c) (.val<|.int p) e8):=by
  have e1:eS mS (aB (var 4) aG) (q86 ns a b k t rs (Y++[f]) (.val<|.int c) e7 e8)=Qa (.ok<|.int (rs.length:Int)):=by rw[mB (O:=[.list<|rs.map .str]) rfl<|c2o _,qF]
  rw[dW,bB (O:=[dN ns,.int<|1740+(k:Int),.int (rs.length:Int)]) (aM rfl<|aM rfl<|aM e1 rfl) R];rfl
 let⟨two,e2,A⟩:=a0d (fa:=var 4) (lo:=bK<|var 7) (hi:=bK<|op2 aY (var 7)<|cst<|.int 2) (Z:=q86 ns a b k t rs (Y++[f]) (.val<|.int c) (.val<|.int p) e8) (ns:=rs) (l:=Qa p) (h:=Qa<|p+2) rfl rfl rfl;have s4:dA 8 (slE (var 4) (bK<|var 7)<|bK<|op2 aY (var 7)<|cst<|.int 2) (q86 ns a b k t rs (Y++[f]) (.val<|.int c) (.val<|.int p) e8)=Qa (.nx<|q86 ns a b k t rs (Y++[f]) (.val<|.int c) (.val<|.int p)<|.val<|.list<|two.map .str):=by rw[dW,e2];rfl--a text of rows,joined and laid behind
 have lay:∀(ys v:T0q)(fa:EF),fa (q86 ns a b k t rs ys (.val<|.int c) (.val<|.int p)<|.val<|.list<|two.map .str)=Qa (.ok<|.list<|v.map .str)->ys.length<=910->(∀q∈v,q.length<=1200)->v.length<=4000->cL v<=40->tL v+v.length<=10000->∃z,Tt z/\a1k 5 (dfE yJ (cst<|.str "\n") fa) (q86 ns a b k t rs ys (.val<|.int c) (.val<|.int p)<|.val<|.list<|two.map .str)=Qa (.nx<|q86 ns a b k t rs (ys++[z]) (.val<|.int c) (.val<|.int p)<|.val<|.list<|two.map .str):=λys v fa e hy I H h3 h4=>by let⟨z,ez,tz⟩:=c4r I H h3 h4;refine#[z,tz,?_];rw[b0o (O:=ys.map .str) (d:=.str z) rfl (b8w (x:=.str<|qH "\n") (y:=.list<|v.map .str) rfl e ez)<|by rw[qF];exact Q2 ‹_› rfl];show Qa (So.nx [_,_,_,_,_,.lst<|ys.map .str++[.str z],_,_,_,_,_,_,_])=_;rw[show ys.map qb++[.str z]=(ys++[z]).map .str from by simp]
 have o:∀{q:T0q},q.Sublist rs->(∀x∈q,x.length<=1200)/\q.length<=1121/\cL q<=4/\tL q<=1120:=λ{q}h=>#[λx g=>C x<|h.subset g,by have:=h.length_le;lia,by have:cL q<=cL rs:=b2n h;lia,by have:tL q<=tL rs:=b2n h;lia];have u:∀{q r:T0q},q.Sublist rs->r.Sublist rs->(∀x∈q++r,x.length<=1200)/\(q++r).length<=4000/\cL (q++r)<=40/\tL (q++r)+(q++r).length<=10000:=λ{q r}I H=>by
  have a1:=o I;have a2:=o H;refine#[λx g=>(qU.mp g).elim (a1.1 x)<|a2.1 x,?_,?_,?_];.rw[qY];lia
  .rw[b1W];lia
  .rw[b0E,qY];lia
 let Q(ys:T0q):List Ent:=q86 ns a b k t rs ys (.val<|.int c) (.val<|.int p) (.val<|.list<|two.map .str)--a row is left out
 let⟨q1,f1,N⟩:=a0d (fa:=var 4) (lo:=bX) (hi:=bK<|var 7) (Z:=Q<|Y++[f]) (ns:=rs) (l:=Qb) (h:=Qa p) rfl rfl rfl;let⟨q2,f2,M⟩:=a0d (fa:=var 4) (lo:=bK<|op2 aY (var 7)<|cst<|.int 1) (hi:=bX) (Z:=Q<|Y++[f]) (ns:=rs) (l:=Qa<|p+1) (h:=Qb) rfl rfl rfl;have j:=u N M;let⟨s,F,s5⟩:=lay (Y++[f]) (q1++q2) _ (a3t f1 f2<|by have:=(o N).2.1;have:=(o M).2.1;lia) (by rw[qY];simp only[qO,jj];exact Q0 ‹_› rfl) j.1 j.2.1 j.2.2.1 j.2.2.2--a row is told twice
 let⟨q3,f3,L⟩:=a0d (fa:=var 4) (lo:=bX) (hi:=bK<|op2 aY (var 7)<|cst<|.int 1) (Z:=Q<|Y++[f]++[s]) (ns:=rs) (l:=Qb) (h:=Qa<|p+1) rfl rfl rfl;let⟨q4,f4,K⟩:=a0d (fa:=var 4) (lo:=bK<|var 7) (hi:=bX) (Z:=Q<|Y++[f]++[s]) (ns:=rs) (l:=Qa p) (h:=Qb) rfl rfl rfl;have i:=u L K;let⟨w,E,s6⟩:=lay (Y++[f]++[s]) (q3++q4) _ (a3t f3 f4<|by have:=(o L).2.1;have:=(o K).2.1;lia) (by simp only[qY,qO,jj];lia) i.1 i.2.1 i.2.2.1 i.2.2.2--two rows are exchanged
 let⟨q5,f5,u5⟩:=a0d (fa:=var 4) (lo:=bX) (hi:=bK<|var 7) (Z:=Q<|Y++[f]++[s]++[w]) (ns:=rs) (l:=Qb) (h:=Qa p) rfl rfl rfl;let⟨q6,f6,u6⟩:=a0d (fa:=var 4) (lo:=bK<|op2 aY (var 7)<|cst<|.int 2) (hi:=bX) (Z:=Q<|Y++[f]++[s]++[w]) (ns:=rs) (l:=Qa<|p+2) (h:=Qb) rfl rfl rfl;have f7:op1 b6c (var 8) (Q<|Y++[f]++[s]++[w])=Qa (.ok<|.list<|two.reverse.map .str):=c3i rfl;have b5:=o u5;have b6:=o u6;have b2:=o A;have er:cL two.reverse=cL two/\tL two.reverse=tL two:=#[by unfold cL;rw[wS,List.sum_reverse],by unfold tL;rw[wS,List.sum_reverse]];let⟨z4,D,s7⟩:=lay (Y++[f]++[s]++[w]) (q5++two.reverse++q6) _ (a3t (a3t f5 f7<|by rw[zB];lia) f6<|by rw[qY,zB];lia) (by simp only[qY,qO,jj];lia)
  (λx g=>by
   obtain g|g:=qU.mp g
   .obtain g|g:=qU.mp g;.exact b5.1 x g
    .exact b2.1 x (wR.mp g)
   .exact b6.1 x g)
  (by rw[qY,qY,zB];lia) (by rw[b1W,b1W,er.1];lia) (by rw[b0E,b0E,er.2,qY,qY,zB];lia);refine#[Y++[f]++[s]++[w]++[z4],.val<|.int c,.val<|.int p,.val<|.list<|two.map .str,λx g=>?_,by simp only[qY,qO,jj],#[_,rfl],#[_,rfl],#[_,rfl],?_]
 .simp only[qU,qI,jB,or_false]at g;obtain(((g|rfl)|rfl)|rfl)|rfl:=g;.exact hX x g
  .exact#[G,by lia]
  .exact F
  .exact E
  .exact D
 .show bI _ _ _=_;rwa[aI P,aI s2,aI s3,aI s4,aI s5,aI s6]
noncomputable def b9a{α:Type}:List (Option α)->Option (List α)|[]=>Qa []|some x::r=>(b9a r).map (x::·)|none::_=>Qb
theorem a2t:∀l:List α,b9a (l.map Qa)=Qa l|[]=>rfl|x::l=>by rw[qE,b9a,a2t l];rfl
def c4b(r:Str):Option (List Mt):=if(qJ r nl).getLast?=Qa qV then b9a ((qJ r nl).dropLast.map λl=>mtP<|qJ l sp)else Qb
def c0z(S:Gs s)(b:Lb s):c4b (txO s)=Qa s:=by have W:=a7X S b;unfold c4b;rw[a0c b W,List.getLast?_concat,if_pos rfl,List.dropLast_concat,qZ];rw[show s.map ((λl=>mtP<|qJ l sp)∘lineOf)=s.map Qa from jO λm a=>?_,a2t];show mtP (qJ (lineOf m) sp)=Qa m;rw[show qJ (lineOf m) sp=[m.1,mtx m.2.1,mtx m.2.2]from a0B (c:=32) rfl (by simp) (a1Q (b m a)<|W m a).1];unfold mtP;dsimp only;rw[if_pos<|b m a,a3l (W m a).t1.1 (W m a).t1.2,a3l (W m a).t2.1 (W m a).t2.2];dsimp only;rw[if_pos<|S.tm m a]
def b2M(x:Str):Option (Str×List Mt):=if(qh x clS).2.1=clS/\nmB (qh x clS).1=Qc then(c4b (qh x clS).2.2).map λs=>((qh x clS).1,s)else Qb
def c3H(h:Rd1 p):b2M (eE p)=Qa p:=by have e:=a9m (n:=p.1) (r:=txO p.2) (λz=>by have:=(eF h.nm).2 93 z;lia);unfold b2M eE;rw[e];rw[if_pos #[rfl,h.nm],c0z h.gs h.lb];rfl
def bdT(t:Str):Option Kn:=match qJ t opS with|x0::ps=>if x0=qV then b9a (ps.map b2M)else Qb|[]=>Qb
def c5j(a:LOk L):bdT (txB L)=Qa L:=by unfold bdT;rw[a6d a];dsimp only;rw[if_pos rfl,qZ,show L.map (b2M∘eE)=L.map Qa from jO λp b=>c3H<|a.rd p b,a2t]
def okT(t:Str):Bool:=match bdT t with|some L=>decide (L.map (·.1)).Nodup&&decide ((L.map (·.1)).Pairwise λa b=>bQ a b=Qc)&&L.all λp=>decide (p.2.map (·.1)).Nodup&&decide ((p.2.map (·.1)).Pairwise λa b=>bQ a b=Qc)|none=>Qd
def c7E(a:LOk L)(pw:Pw L):okT (txB L)=true:=by unfold okT;rw[c5j a];rw[qD,qD,qu];exact#[#[decide_eq_true a.nd,decide_eq_true pw],λp b=>by rw[qD];exact#[decide_eq_true (a.gs p b).nr.nd,decide_eq_true (a.gs p b).nr.pw]]
def c5M(b:t.length<=10000)(a:(qJ t opS).length<=61)(h:okT t=Qd):aQ [.str t]=Qa (.ex "NoText"):=by
 obtain e|⟨L,_,c,pw,e,_⟩:=b6f b a;.exact e
 .rw[<-e,c7E c pw]at h;cases h
noncomputable def c1T:List Str:=["\n","[a]","a 0:0 0:1\n","a 0:0 0:1\n[a]\n","[b]\n[a]\n","[a]\n[a]\n","[A]\n","[abcde]\n","[]\n","[a\n","a]\n","[a] \n","[a]\n\n","[a]\na 0:0\n","[a]\na 0:0 0:48\n","[a]\na 0:1 0:1\n","[a]\nb 0:0 0:1\na 0:0 0:1\n","[a]\na 00:0 0:1\n","[a]\na 0:0 10:1\n"," [a]\n","[a]\na 0:0 0:1","[a]a 0:0 0:1\n"]
def c1S:c1T.all (λt=>decide (t.length<=10000)&&decide ((qJ t opS).length<=61)&&!okT t)=true:=by decide+kernel
def c5k(h:t∈c1T):aQ [.str t]=Qa (.ex "NoText"):=by have:=qu.mp c1S t h;rw[qD,qD,decide_eq_true_eq,decide_eq_true_eq,jX]at this;exact c5M this.1.1 this.1.2 this.2
noncomputable def gLs:List Kn:=[[],[("a",[])],[("bcde",[("fg",0,47),("hi",479,480)]),("jklm",[])],[("nopq",[("a",53,99)]),("rstu",[]),("vwxy",[]),("z",[])]]
def c4z:∀L∈gLs,((L.map (·.1)).Nodup/\(L.map (·.1)).Pairwise (λa b=>bQ a b=Qc)/\L.length<=30)/\∀p∈L,nmB p.1=Qc/\((p.2.map (·.1)).Nodup/\(p.2.map (·.1)).Pairwise (λa b=>bQ a b=Qc)/\p.2.length<=16)/\∀m∈p.2,nmB m.1=Qc/\jN m.1=Qc/\tmB m.2.1 m.2.2=true:=by decide+kernel
def c0U(h:L∈gLs):LOk L/\Pw L/\L.length<=30:=by let⟨⟨a,b,c⟩,d⟩:=c4z L h;exact#[#[a,λp e=>(d p e).1,λp e m f=>((d p e).2.2 m f).1,λp e=>#[#[(d p e).2.1.1,(d p e).2.1.2.1],λm f=>((d p e).2.2 m f).2.1,λm f=>((d p e).2.2 m f).2.2,(d p e).2.1.2.2]],b,c]
def b3c:gLs.map txB=([qH "",qH "[a]\n",qH "[bcde]\nfg 0:0 0:47\nhi 9:47 10:0\n[jklm]\n",qH "[nopq]\na 1:5 2:3\n[rstu]\n[vwxy]\n[z]\n"]:T0q):=by decide+kernel
def b6g{x:Str}(h:aQ [.str x]=Qa (.ok b))(a:bZ b []=Qa (.ok y)):rdE aQ bZ (aB (var 0) aG) [.val<|.str x]=Qa (.ok y):=by
 unfold rdE;have:bnd (aB (var 0) aG [.val<|.str x]) aQ=Qa (.ok b):=by rwa[aM (x:=.str x) rfl rfl,bG]
 rwa[this]
def c3l{x:Str}{c:Str}(h:aQ [.str x]=Qa (.ex c)):rdE aQ bZ (aB (var 0) aG) [.val<|.str x]=Qa (.ex c):=by
 unfold rdE;have:bnd (aB (var 0) aG [.val<|.str x]) aQ=Qa (.ex c):=by rw[aM (x:=.str x) rfl rfl,bG];exact h
 rw[this]
def c3k{c:Str}(h:aQ [d]=Qa (.ex c)):rdX aQ (aB (var 0) aG) [.val d]=Qa (.ex c):=by
 unfold rdX;have:bnd (aB (var 0) aG [.val d]) aQ=Qa (.ex c):=by rwa[aM (x:=d) rfl rfl,bG]
 rw[this]
def c3I(b:LOk L)(pw:Pw L)(a:L.length<=30):rdE aQ bZ (aB (var 0) aG) [.val<|.str<|txB L]=Qa (.ok<|.str<|txB L):=b6g (b6e b pw a)<|a9X b pw (by exact Q2 ‹_› rfl)
def a5S:pH cD cJ (.ex "NoText")=Qa (.str "no text"):=by kernel_rfl
def a8H{L:T0q}{F:Str->Mm q8}{cap:T0e}(b:cF cap Z=ρ')(h:fe ρ'=Qa r)(a:pH L F r=Qa d):a3x L F cap fe Z=Qa (.ok d):=by unfold a3x;rw[b,h];dsimp only;rw[a];rfl
def b5H{x:Str}(h:Tt x):∃r d,b1s [.val<|.str x]=Qa r/\pH cD cJ r=Qa d/\(d=.str x\/(d=.str "no text"/\aQ [.str x]=Qa (.ex "NoText"))):=by
 rcases b6f h.len (b3P h)with e|⟨L,e,O0,pw,et,few⟩;.exact#[_,_,c3l e,a5S,.inr #[rfl,e]]
 .refine#[_,_,b6g e<|a9X O0 pw few,rfl,.inl<|by rw[et]]
noncomputable def a1i:List q8:=[.str "\n",.str "[a]",.str "a 0:0 0:1\n",.str "a 0:0 0:1\n[a]\n",.str "[b]\n[a]\n",.str "[a]\n[a]\n",.str "[A]\n",.str "[abcde]\n",.str "[]\n",.str "[a\n",.str "a]\n",.str "[a] \n",.str "[a]\n\n",.str "[a]\na 0:0\n",.str "[a]\na 0:0 0:48\n",.str "[a]\na 0:1 0:1\n",.str "[a]\nb 0:0 0:1\na 0:0 0:1\n",.none,.int 5,.tuple [.str "[a]\n"],.str "[a]\na 00:0 0:1\n",.str "[a]\na 0:0 10:1\n",.str " [a]\n",.str "[a]\na 0:0 0:1",.str "[a]a 0:0 0:1\n"]
def c1U:∀d∈a1i,aQ [d]=Qa (.ex "NoText"):=by have s:∀{t:Str},t∈c1T->aQ [.str t]=Qa (.ex "NoText"):=c5k;intro d a;simp only[a1i,qI,jB,or_false]at a;rcases a with rfl|rfl|rfl|rfl|rfl|rfl|rfl|rfl|rfl|rfl|rfl|rfl|rfl|rfl|rfl|rfl|rfl|rfl|rfl|rfl|rfl|rfl|rfl|rfl|rfl<;>first|exact s (by unfold c1T;simp)|kernel_rfl
def c6o(h:Z[12]?=Qa (.val<|.list a1i))(a:var 12 Z=Qa (.ok<|.list a1i)):b7l Z=Qa (.ok<|.list<|a1i.map λ_=>.str "no text"):=by
 refine eY (λd=>d) (λd=>[.val d]) (λ_=>.str "no text") a1i ?_ (by decide) (λd _=>by rfl) (λd b=>?_);.rw[List.map_id'];exact nT a rfl
 .exact a8H (ρ':=[.val d]) rfl (c3k<|c1U d b) a5S
def c6p(b:var 11 Z=Qa (.ok<|.list<|(gLs.map txB).map .str)):b7m Z=Qa (.ok<|.list<|(gLs.map txB).map .str):=by
 rw[qZ]at b⊢;refine eY (λL=>qb<|txB L) (λL=>[.val<|.str<|txB L]) (λL=>.str<|txB L) gLs ?_ (by decide) (λd _=>by rfl) (λL c=>?_);.exact nT b rfl
 .let⟨e,pw,a⟩:=c0U c;exact c3I e pw a
def Pl(e:Ent):Prop:=(∀β,yN β e=e)/\lB [e]=Qc/\c5v e=e
def fI:Pl .no:=#[λ_=>rfl,rfl,rfl]
def rF d:Pl (.val d):=#[λ_=>rfl,rfl,rfl]
def oN d:Pl (.lst d):=#[λ_=>rfl,rfl,rfl]
section
variable{e0:Ent}{r r':List Ent}
def vwG(d:Pl e0)(h:∀e∈r,Pl e):vw [(a,b)] (e0::.adr a::r)=e0::.ro (Qa a) b::r:=by
 unfold vw;rw[qE,qE,d.1,a5P];congr 2;conv=>rhs;rw[<-List.map_id r]
 exact jO λe c=>(h e c).1 _
def uvG(d:Pl e0)(h:∀e∈r,Pl e):uv (e0::.ro (Qa a) b::r)=e0::.adr a::r:=by
 unfold uv;rw[qE,qE,d.2.2];congr 2;conv=>rhs;rw[<-List.map_id r]
 exact jO λe c=>(h e c).2.2
def upG(c:Pl e0)(h:∀e∈r,Pl e)(h':∀e∈r',Pl e)(e:f (e0::.ro (Qa a) b::r)=Qa (.nx (e0::.ro (Qa a) b::r'))):upS f (e0::.adr a::r) [(a,b)]=Qa (.nx (e0::.adr a::r'),[(a,b)]):=by rw[sN (vwG c h) e];show Qa (So.nx<|uv (e0::.ro (Qa a) b::r'),_)=_;rw[uvG c h']
def upR(c:Pl e0)(h:∀e∈r,Pl e)(e:f (e0::.ro (Qa a) b::r)=Qa (.rt d)):upS f (e0::.adr a::r) [(a,b)]=Qa (.rt d,[(a,b)]):=by rw[sN (vwG c h) e];rfl
end
def b7j{t:Tg}{fb:OSF}{b a:Sto}(e:tgD t Z d=Qa ρ1)(c:fb ρ1 b=Qa (.nx ρ2,a)):wW t fb (d::O) Z b=wW t fb O ρ2 a:=by
 conv=>lhs;unfold wW
 rw[e];dsimp only;rw[c]
def c0Y{t:Tg}{fb:OSF}{a:Sto}(h:fi Z=Qa (.ok O)):b7M t fi fb Z a=wW t fb O Z a:=by unfold b7M;rw[h]
abbrev st1(ns:T0s)(a:Addr)(e2:Ent):List Ent:=[.val<|dN ns,.adr a,e2,.no,.no,.no,.no,.no,.no,.no,.no,.no,.no]
def c3h{K:Kn}{n:Nat}(h:In86 K b n)(g:n<29):∃c b',In86 c b' (n+1)/\b1Z (st1 ns a<|.val<|.int (n:Nat)) [(a,b)]=Qa (.nx<|st1 ns a<|.val<|.int (n:Nat),[(a,b')]):=by
 let⟨d,i,o⟩:=c4L ns (1000+60*(n:Int)) (by lia);let⟨b',v,c,j,k⟩:=c2T h g d i;refine#[c,b',k,?_];refine a0V (d:=v) ?_;rw[gK (a:=a) (b:=b) (O:=[dD d]) (r:=.ok v) (b':=b') rfl cU ?_ j,dL];rw[vwG (rF _) (λe f=>by
  simp only[qI,jB,or_false]at f;rcases f with rfl|rfl|rfl|rfl|rfl|rfl|rfl|rfl|rfl|rfl|rfl;.exact rF _
  all_goals exact fI)];exact aM (bB (O:=[dN ns,.int<|1000+60*(n:Int)]) (aM rfl<|aM (nG (x:=.int 1000) (y:=.int<|60*(n:Int)) rfl (nG (x:=.int 60) (y:=.int (n:Int)) rfl rfl<|a7H (by decide)<|by decide) rfl) rfl) o) rfl
theorem b2y{ns:T0s}{a:Addr}:∀ m n K b e2,n+m=7->In86 K b n->Pl e2->∃d b' c,In86 d b' 7/\Pl c/\wW (.nm 2) b1Z ((List.range' n m).map λ(k:Nat)=>jb (k:Int)) (st1 ns a e2) [(a,b)]=Qa (.nx<|st1 ns a c,[(a,b')])|0,n,K,b,e2,hm,h,p2=>#[K,b,e2,by rwa[<-show n=7 by omega],p2,rfl]|m+1,n,K,b,e2,hm,h,p2=>by let⟨d,b',f,r⟩:=c3h (ns:=ns) (a:=a) h (by lia);let⟨i,g,c,e,p,j⟩:=b2y (ns:=ns) (a:=a) m (n+1) d b' (.val<|.int (n:Nat)) (by lia) f<|rF _;refine#[i,g,c,e,p,?_];rwa[List.range'_succ,qE,b7j (ρ1:=st1 ns a<|.val<|.int (n:Nat)) rfl r]
abbrev r2(t:Str)(rs Y:T0q)(e2 e6 e7 e8:Ent):List Ent:=[e2,.val<|.str t,.val<|.list<|rs.map .str,.lst<|Y.map .str,e6,e7,e8,.no,.no,.no,.no]
def b0H(ht:t.length<=1120)(hc:c91 t<=4)(p2:Pl e2):∃Y g2 g6 g7 g8,(∀x∈Y,Tt x)/\Y.length<=900/\(Pl g2/\Pl g6/\Pl g7/\Pl g8)/\a9S (.nm 2) (a3Y<|cst<|.int 4) a8y (.val (dN ns)::.ro (Qa a) b::r2 t (qJ t nl) [t] e2 .no .no .no)=Qa (.nx (.val (dN ns)::.ro (Qa a) b::r2 t (qJ t nl) Y g2 g6 g7 g8)):=by
 let P:Nat->List Ent->Prop:=λi Z=>∃Y g2 g6 g7 g8,(∀x∈Y,Tt x)/\Y.length=1+4*i/\(Pl g2/\Pl g6/\Pl g7/\Pl g8)/\Z=.val (dN ns)::.ro (Qa a) b::r2 t (qJ t nl) Y g2 g6 g7 g8;let⟨ρ',e,Y,g2,g6,g7,g8,h1,h2,h3,h4⟩:=xY (t:=.nm 2) (fb:=a8y) (λk:Nat=>jb (k:Int)) P [0,1,2,3] 0 (.val (dN ns)::.ro (Qa a) b::r2 t (qJ t nl) [t] e2 .no .no .no)
  #[[t],e2,.no,.no,.no,λx hx=>by rw[qf.mp hx];exact#[by exact Q2 ‹_› rfl,by exact Q2 ‹_› rfl],rfl,#[p2,fI,fI,fI],rfl] (by
   rintro j x Z hx⟨ys,g2,g6,g7,g8,h1,h2,h3,h4⟩;subst h4;have hj:j<4:=by have:=(qW.mp hx).1;exact this
   let⟨zs,k6,k7,k8,w1,w2,⟨d6,rfl⟩,⟨d7,rfl⟩,⟨d8,rfl⟩,w4⟩:=c3g (ns:=ns) (a:=a) (b:=b) (k:=x) (e6:=g6) (e7:=g7) (e8:=g8) ht hc h1 (by lia);exact#[_,_,rfl,.inl w4,zs,.val<|.int (x:Int),.val d6,.val d7,.val d8,w1,by lia,#[rF _,rF _,rF _,rF _],rfl]);refine#[Y,g2,g6,g7,g8,h1,by rw[h2];decide,h3,?_];rw[a4H,show a3Y (cst<|.int 4) (.val (dN ns)::.ro (Qa a) b::r2 t (qJ t nl) [t] e2 .no .no .no)=Qa (.ok ([0,1,2,3].map λk:Nat=>jb (k:Int)))from rfl,oY,e,h4]
noncomputable abbrev r3(t:Str)(rs Y:T0q)(e2 e6 e7 e8 e9 e10:Ent):List Ent:=[e2,.val<|.str t,.val<|.list<|rs.map .str,.val<|.list<|Y.map .str,e6,e7,e8,e9,e10,.no,.no]
variable{rs:List Str}
def b9k{x:Str}{e10:Ent}(hx:Tt x)(c:∃b',aQ [.str t]=Qa (.ok b')):∃d,a8x (.val (dN ns)::.ro (Qa a) b::r3 t rs Y e2 e6 e7 e8 (.val<|.str x) e10)=Qa (.nx (.val (dN ns)::.ro (Qa a) b::r3 t rs Y e2 e6 e7 e8 (.val<|.str x) (.val d))):=by
 let⟨r,d,p,o,q⟩:=b5H hx;refine#[d,?_];have j:dA 10 (a3x cD cJ [Qa 9] b1s) (.val (dN ns)::.ro (Qa a) b::r3 t rs Y e2 e6 e7 e8 (.val<|.str x) e10)=Qa (.nx (.val (dN ns)::.ro (Qa a) b::r3 t rs Y e2 e6 e7 e8 (.val<|.str x) (.val d))):=by rw[dW,a8H (ρ':=[.val<|.str x]) rfl p o];rfl
 have i:a7i (.val (dN ns)::.ro (Qa a) b::r3 t rs Y e2 e6 e7 e8 (.val<|.str x) (.val d))=Qa (.ok Qd):=by
  obtain rfl|⟨rfl,f⟩:=q
  .have:eG neD (var 10) (var 9) (.val (dN ns)::.ro (Qa a) b::r3 t rs Y e2 e6 e7 e8 (.val<|.str x) (.val<|.str x))=Qa (.ok Qd):=by rw[fF (x:=.str x) (y:=.str x) rfl rfl<|a9x _ _,decide_eq_true rfl];rfl
   rw[show a7i=b2d _ _ from rfl,b2c,this];rfl
  .have e:x≠t:=λz=>by let⟨b',k⟩:=c;rw[z,k]at f;cases f
   have v:=fF (g:=neD) (fa:=var 10) (fb:=var 9) (Z:=.val (dN ns)::.ro (Qa a) b::r3 t rs Y e2 e6 e7 e8 (.val<|.str x) (.val<|.str "no text")) (x:=.str "no text") (y:=.str x) rfl rfl<|a9x _ _;have u:eG neD (var 10) (cst<|.str "no text") (.val (dN ns)::.ro (Qa a) b::r3 t rs Y e2 e6 e7 e8 (.val<|.str x) (.val<|.str "no text"))=Qa (.ok Qd):=by rw[fF (x:=.str "no text") (y:=.str "no text") rfl rfl<|a9x _ _,decide_eq_true rfl];rfl
   have w:eG eqD (var 9) (var 3) (.val (dN ns)::.ro (Qa a) b::r3 t rs Y e2 e6 e7 e8 (.val<|.str x) (.val<|.str "no text"))=Qa (.ok Qd):=by rw[fF (x:=.str x) (y:=.str t) rfl rfl<|b7U _ _,decide_eq_false e]
   have s:orT (eG neD (var 10)<|cst<|.str "no text") (eG eqD (var 9)<|var 3) (.val (dN ns)::.ro (Qa a) b::r3 t rs Y e2 e6 e7 e8 (.val<|.str x) (.val<|.str "no text"))=Qa (.ok Qd):=by rwa[a9p,u,bG]
   rw[show a7i=b2d _ _ from rfl,b2c,v,bG];cases(!decide ((qH "no text")=x));.rfl
   .exact s
 show bI _ _ _=_;rw[aI j,dY,i];rfl
def b9l(hx:∀x∈Y,Tt x)(i:∃b',aQ [.str t]=Qa (.ok b')):∃f c,Pl f/\Pl c/\a9S (.nm 9) (nD<|var 5) a8x (.val (dN ns)::.ro (Qa a) b::r3 t rs Y e2 e6 e7 e8 .no .no)=Qa (.nx (.val (dN ns)::.ro (Qa a) b::r3 t rs Y e2 e6 e7 e8 f c)):=by let⟨o,e,f,c,k,g,rfl⟩:=b4E (t:=.nm 9) (fb:=a8x) qb (λZ=>∃f c,Pl f/\Pl c/\Z=.val (dN ns)::.ro (Qa a) b::r3 t rs Y e2 e6 e7 e8 f c) Y (.val (dN ns)::.ro (Qa a) b::r3 t rs Y e2 e6 e7 e8 .no .no) #[_,_,fI,fI,rfl] (by rintro x j Z⟨f,c,k,g,h⟩;subst h;let⟨d,p⟩:=b9k (ns:=ns) (a:=a) (b:=b) (rs:=rs) (Y:=Y) (e2:=e2) (e6:=e6) (e7:=e7) (e8:=e8) (e10:=c) (hx x j) i;exact#[_,_,rfl,.inl p,.val<|.str x,.val d,rF _,rF _,rfl]);refine#[f,c,k,g,?_];rw[a4H,show nD (var 5) (.val (dN ns)::.ro (Qa a) b::r3 t rs Y e2 e6 e7 e8 .no .no)=Qa (.ok<|Y.map .str)from nT (d:=.list<|Y.map .str) rfl rfl,oY,e]
def c6k(h:Rd1 p):c91 (lnB p)=1:=by rw[<-b2X,mZ,show c91 opS=1 from by decide+kernel];have:c91 (eE p)=0:=List.count_eq_zero.mpr<|b2K h;lia
def c5y:∀{L:Kn},(∀p∈L,Rd1 p)->c91 (txB L)=L.length:=λ{L}h=>by
 have b:∀(L:Kn)(a:Str),(∀p∈L,Rd1 p)->c91 (mY a<|L.map lnB)=c91 a+L.length:=λL=>by induction L with|nil=>intro a _;rfl|cons p L c=>intro a h;show c91 (mY (a++lnB p)<|L.map lnB)=_;rw[c _ λq d=>h q (by simp[d]),mZ,c6k<|h p<|by simp];simp only[qO];lia
 unfold txB;rw[b L qV h];show 0+_=_;lia
def e_law ns(hl:ns.length<=63):F_law [dN ns]=Qa (.ok<|.bool Qc):=by
 have e:a9U [.val<|dN ns,.no,.no,.no,.no,.no,.no,.no,.no,.no,.no,.no,.no] []=Qa (.rt<|.bool Qc,[]):=by
  refine c4e rfl λa _=>?_;have J0:In86 [] yK 0:=#[#[.nil,(λp A=>nomatch A),(λp A=>nomatch A),by decide],(λp A=>nomatch A),(λp A=>nomatch A),#[[],rfl,.refl _],by decide,by decide];let⟨K,b,G,I,F,rr⟩:=b2y (ns:=ns) (a:=a) 7 0 [] yK .no rfl J0 fI;refine#[[],[(a,b)],rfl,rfl,?_];show fR _ _ (st1 ns a .no) [(a,yK)]=_;rw[dQ<|(c0Y (O:=(List.range' 0 7).map λ(k:Nat)=>jb (k:Int)) rfl).trans rr];have S:=I.lok;have pw:=c2U K;have four:=I.four;have hlen:=b2p K;have tx:=I.text;have own:=b6e S pw (by lia);have X:=b2l S;have tc:=c5y S.rd;generalize a5p K=L at*;generalize ht:txB L=t at*;have pv:=rF--the text
  have s1:upS (dA 3<|iF bZ 1 aG) (st1 ns a G) [(a,b)]=Qa (.nx (.val (dN ns)::.adr a::[G,.val<|.str t,.no,.no,.no,.no,.no,.no,.no,.no,.no]),[(a,b)]):=by
   refine upG (pv _) (λe o=>?_) (λe o=>?_) ?_
   .simp only[qI,jB,or_false]at o;obtain rfl|rfl|rfl|rfl|rfl|rfl|rfl|rfl|rfl|rfl|rfl:=o;.exact F
    all_goals exact fI
   .simp only[qI,jB,or_false]at o;obtain rfl|rfl|rfl|rfl|rfl|rfl|rfl|rfl|rfl|rfl|rfl:=o;.exact F
    .exact pv _
    all_goals exact fI
   .rw[dW,a0K (b:=b) rfl rfl tx];rfl
  rw[dQ s1];have s2:upS (c0a 4 5 (dfE a0C (var 3)<|cst<|.str "\n")<|aB (var 3) aG) (.val (dN ns)::.adr a::[G,.val<|.str t,.no,.no,.no,.no,.no,.no,.no,.no,.no]) [(a,b)]=Qa (.nx (.val (dN ns)::.adr a::r2 t (qJ t nl) [t] G .no .no .no),[(a,b)]):=by
   refine upG (pv _) (λe o=>?_) (λe o=>?_) ?_
   .simp only[qI,jB,or_false]at o;obtain rfl|rfl|rfl|rfl|rfl|rfl|rfl|rfl|rfl|rfl|rfl:=o;.exact F
    .exact pv _
    all_goals exact fI
   .simp only[qI,jB,or_false]at o;obtain rfl|rfl|rfl|rfl|rfl|rfl|rfl|rfl|rfl|rfl|rfl:=o;.exact F
    .exact pv _
    .exact pv _
    .exact oN _
    all_goals exact fI
   .unfold c0a;have e1:dfE a0C (var 3) (cst<|.str "\n") (.val (dN ns)::.ro (Qa a) b::[G,.val<|.str t,.no,.no,.no,.no,.no,.no,.no,.no,.no])=Qa (.ok<|.list<|(qJ t nl).map .str):=by refine b8w (x:=.str t) (y:=.str<|qH "\n") rfl rfl ?_;rw[b2R,a7k<|by lia]
    rw[e1];rfl
  rw[dQ s2];let⟨Y,c,s,r,q,hx,hxl,⟨k2,k6,k7,k8⟩,e4⟩:=b0H (ns:=ns) (a:=a) (b:=b) (t:=t) (e2:=G) (by lia) (by lia) F;have H:∀{rs T:T0q}{e2 e6 e7 e8:Ent},Pl e2->Pl e6->Pl e7->Pl e8->∀e∈r2 t rs T e2 e6 e7 e8,Pl e:=λ{rs T e2 e6 e7 e8}h2 h6 h7 h8 e o=>by
   simp only[qI,jB,or_false]at o;obtain rfl|rfl|rfl|rfl|rfl|rfl|rfl|rfl|rfl|rfl|rfl:=o;.exact h2
   .exact pv _
   .exact pv _
   .exact oN _
   .exact h6
   .exact h7
   .exact h8
   all_goals exact fI
  rw[dQ<|upG (pv _) (H F fI fI fI) (H k2 k6 k7 k8) e4]--frozen,and each is tried
  show fR _ _ (.val (dN ns)::.adr a::r3 t (qJ t nl) Y c s r q .no .no) [(a,b)]=_;let⟨w,g,z,j,e5⟩:=b9l (ns:=ns) (a:=a) (b:=b) (t:=t) (rs:=qJ t nl) (e2:=c) (e6:=s) (e7:=r) (e8:=q) hx #[_,own];have i:∀{R E D C:Ent},Pl R->Pl E->Pl D->Pl C->∀e∈([c,.val<|.str t,.val<|.list<|(qJ t nl).map .str,.val<|.list<|Y.map .str,s,r,q,R,E,D,C]:List Ent),Pl e:=λ{R E D C}h9 P N M e o=>by
   simp only[qI,jB,or_false]at o;obtain rfl|rfl|rfl|rfl|rfl|rfl|rfl|rfl|rfl|rfl|rfl:=o;.exact k2
   .exact pv _
   .exact pv _
   .exact pv _
   .exact k6
   .exact k7
   .exact k8
   .exact h9
   .exact P
   .exact N
   .exact M
  rw[dQ<|upG (pv _) (i fI fI fI fI) (i z j fI fI) e5];have bg:∀{Z:List Ent},nJ (aB (cst<|.str "")<|aB (cst<|.str "[a]\n")<|aB (cst<|.str "[bcde]\nfg 0:0 0:47\nhi 9:47 10:0\n[jklm]\n")<|aB (cst<|.str "[nopq]\na 1:5 2:3\n[rstu]\n[vwxy]\n[z]\n") aG) Z=Qa (.ok<|.list<|(gLs.map txB).map .str):=λ{Z}=>by rw[b3c];rfl
  have s6:upS (dA 11<|nJ<|aB (cst<|.str "")<|aB (cst<|.str "[a]\n")<|aB (cst<|.str "[bcde]\nfg 0:0 0:47\nhi 9:47 10:0\n[jklm]\n")<|aB (cst<|.str "[nopq]\na 1:5 2:3\n[rstu]\n[vwxy]\n[z]\n") aG) (.val (dN ns)::.adr a::[c,.val<|.str t,.val<|.list<|(qJ t nl).map .str,.val<|.list<|Y.map .str,s,r,q,w,g,.no,.no]) [(a,b)]=Qa (.nx (.val (dN ns)::.adr a::[c,.val<|.str t,.val<|.list<|(qJ t nl).map .str,.val<|.list<|Y.map .str,s,r,q,w,g,.val<|.list<|(gLs.map txB).map .str,.no]),[(a,b)]):=upG (pv _) (i z j fI fI) (i z j (pv _) fI) (by rw[dW,bg];rfl);rw[dQ s6];have J:neD (.list<|(gLs.map txB).map .str) (.list<|(gLs.map txB).map .str)=Qa false:=by rw[b3c];kernel_rfl
  have s7:upS (ifS b0F (retS<|cst<|.bool Qd) eM) (.val (dN ns)::.adr a::[c,.val<|.str t,.val<|.list<|(qJ t nl).map .str,.val<|.list<|Y.map .str,s,r,q,w,g,.val<|.list<|(gLs.map txB).map .str,.no]) [(a,b)]=Qa (.nx (.val (dN ns)::.adr a::[c,.val<|.str t,.val<|.list<|(qJ t nl).map .str,.val<|.list<|Y.map .str,s,r,q,w,g,.val<|.list<|(gLs.map txB).map .str,.no]),[(a,b)]):=upG (pv _) (i z j (pv _) fI) (i z j (pv _) fI) (by have t2:b0F (.val (dN ns)::.ro (Qa a) b::[c,.val<|.str t,.val<|.list<|(qJ t nl).map .str,.val<|.list<|Y.map .str,s,r,q,w,g,.val<|.list<|(gLs.map txB).map .str,.no])=Qa (.ok Qd):=fF (c6p rfl) rfl J;rw[dY,t2];rfl);rw[dQ s7];generalize vA ((gLs.map txB).map .str)=gd at*;have nx:∀{f:SF}{u v:Ent},Pl u->Pl v->f (.val (dN ns)::.ro (Qa a) b::[c,.val<|.str t,.val<|.list<|(qJ t nl).map .str,.val<|.list<|Y.map .str,s,r,q,w,g,.val gd,u])=Qa (.nx (.val (dN ns)::.ro (Qa a) b::[c,.val<|.str t,.val<|.list<|(qJ t nl).map .str,.val<|.list<|Y.map .str,s,r,q,w,g,.val gd,v]))->upS f (.val (dN ns)::.adr a::[c,.val<|.str t,.val<|.list<|(qJ t nl).map .str,.val<|.list<|Y.map .str,s,r,q,w,g,.val gd,u]) [(a,b)]=Qa (.nx (.val (dN ns)::.adr a::[c,.val<|.str t,.val<|.list<|(qJ t nl).map .str,.val<|.list<|Y.map .str,s,r,q,w,g,.val gd,v]),[(a,b)]):=λ{f u v}hu hv e=>upG (pv _) (i z j (pv _) hu) (i z j (pv _) hv) e;rw[dQ<|nx (v:=.lst<|a1i.take 7) fI (oN _) rfl,dQ<|nx (v:=.lst<|a1i.take 11) (oN _) (oN _) rfl,dQ<|nx (v:=.lst<|a1i.take 16) (oN _) (oN _) rfl,dQ<|nx (v:=.lst<|a1i.take 19) (oN _) (oN _) rfl,dQ<|nx (v:=.lst a1i) (oN _) (oN _) rfl];show upS _ (.val (dN ns)::.adr a::[c,.val<|.str t,.val<|.list<|(qJ t nl).map .str,.val<|.list<|Y.map .str,s,r,q,w,g,.val gd,.val<|.list a1i]) [(a,b)]=_;refine upR (pv _) (i z j (pv _)<|pv _) ?_;have Q:eqD (.list<|a1i.map λ_=>.str "no text") (.list<|qx 25<|.str "no text")=Qa true:=by kernel_rfl
  rw[cE,b1P,c6o rfl rfl,bG,show c3j (aB (cst<|.str "no text") aG) (cst<|.int 25) (.val (dN ns)::.ro (Qa a) b::[c,.val<|.str t,.val<|.list<|(qJ t nl).map .str,.val<|.list<|Y.map .str,s,r,q,w,g,.val gd,.val<|.list a1i])=Qa (.ok<|.list<|qx 25<|.str "no text")from rfl,bG,Q];rfl
 show a9a 13 1 a9U [dN ns]=_;unfold a9a;rw[if_pos<|show[dN ns].length=1 from rfl];show(match a9U [.val<|dN ns,.no,.no,.no,.no,.no,.no,.no,.no,.no,.no,.no,.no] []with|some (.rt d,_)=>Qa (Re.ok d)|_=>Qb)=_;rw[e]
section
variable{s:Shared}{env:Env}
def b0h{a first:Sem Value}{g:Comprehension}{gs:List Comprehension}{cl:T0f}{u:Value->Sem Unit}(C:clausesOf e=g::gs)(L:∀x,v6 g.iter env x=pure x)(i:u7 scope env=pure cl)(d:scope.kind=.function)(b:∀x∈scope.names,x.2=.local->scope.names.lookup x.1=Qa .local)(h:wpAny M A first (λx v=>wpAny M A (QA x) (λit t=>wpAny M A a (λk q=>wpAny M A (yf scope env.globals cl [] env.qual Qb .none<|Qa env) (λcenv p=>cenv.frame=env.frame/\wm M A (.compStart e 0 it k {cenv with scope:=relabel scope env}) (cpX M A E env (λ_ _=>False) k cenv.locals) p) E q) E t) E v) E s):wpAny M A (comprehension e scope env pos a Qd first (Qa u)) Q E s:=by
 unfold comprehension;rw[i,C];refine j0 (v0 h (λx v G=>j0 (yd (j0 (ub (L x) (j0 (v3 (v0 G (λit t F=>wpAny_standIf<|j0<|v0 F (λk q D=>j0<|j3<|j0<|v0 D (λcenv p j=>?_) λ_ _ c=>c) λ_ _ c=>c)
   λ_ _ c=>c))))))) λ_ _ c=>c);dsimp only;let⟨z,j⟩:=j;have K:∀x∈(scope.names.filter λx=>(x.2==.local||x.2==.cell)&&x.1 !=(".0":Str)).reverse,x.2=.local->Env.kindOf {cenv with scope:=relabel scope env} x.1=Qa .local:=λx J N=>lookup_relabel_local<|b x (jA.mp<|wR.mp J).1 N;refine v3<|j0<|yc<|v3<|wpAny_run (wf j λr H o=>?_);cases r with|ok f=>let⟨m,I,o⟩:=o;exact(o H.heap #[rfl,λ_ _=>rfl]).elim|error x=>let⟨m,I,o⟩:=o;exact j0<|v3 (uz (cenv:={cenv with scope:=relabel scope env}) d _ H m K I λc P _ w=>v0 (o c w _ z) (λ_ _ f=>f.elim) λ_ _ y=>y)
end
section
variable{p:Pos}{cap:T0e}{t:Tg}
def b8l i{x:Str}(hN:X.N.Nodup)(hst:X.stack=X.env::X.outer)(hfr:X.env.frame=Qa X.env.locals)(hc:X.calm=Qc)(B0:Blk X scope N' cap)(hi:DI X tg iter fi)(hf:a3y cap t=Qc)(hg:∀C a b fp,DG (cZ X scope N' C a b fp) tg t)(ht:∀C a b fp,DTs (cZ X scope N' C a b fp) ifs ft)(he:∀C a b fp E,DE ((cZ X scope N' C a b fp).wish E) elt fe)(hxi:X.N[i]?=Qa x:=by rfl)(hx:X.env.scope.names.lookup x=Qa .local:=by rfl)(L:wa (.ListComp elt [#[tg,iter,ifs,0]] scope pos) (Qa<|.Name x p) spos.line X.env=pure true:=by rfl)(hs:∀x,v6 iter X.env x=pure x:=by intro _;rfl):DS X (.Assign [.Name x p] (.ListComp elt [#[tg,iter,ifs,0]] scope pos) spos) (dA i<|a2l t cap fi ft fe):=#[by
 rintro B s U H D I⟨Z,o,H0,Gz,G,e,R,q⟩;have K:∀r,fK t cap fi ft fe Z=Qa r->a2l t cap fi ft fe Z=Qa r->wpAny (model X.prog X.w) X.A (exec (.Assign [.Name x p] (.ListComp elt [#[tg,iter,ifs,0]] scope pos) spos) X.env) (SP X B D) X.xe s:=λr e' er=>by refine(b3k i hN hc B0 hi hf hg ht (λC a b fp=>he C a b fp λ_ _=>False) hxi hx L hs).run B s U H D I #[Z,o,H0,Gz,G,?_,R,q];rw[<-e];show bns (fK t cap fi ft fe Z) Z _=bns (a2l t cap fi ft fe Z) Z _;rw[e',er]
 obtain⟨d0,M,_⟩|⟨c0,M,eo⟩:=sJ e
 .refine K _ ?_ M;obtain⟨O,A,f⟩|⟨c,A,f⟩:=cM M
  .split at f
   .rename_i hz;obtain⟨es,N,y⟩|⟨c,N,y⟩:=cM f;.cases y;unfold fK;rw[A,b3x,if_pos hz,a0M N];rfl
    .cases y
   .cases f
  .cases f
 .subst eo;obtain⟨O,A,f⟩|⟨c,A,f⟩:=cM M
  .split at f
   .rename_i hz;obtain⟨es,N,y⟩|⟨c,N,y⟩:=cM f;.cases y
    .cases y;have q:=q;let⟨j,d,post,e5,e6,e7,e8,e9⟩:=a4n N;rw[exec_Assign_Name_used _ _ _ _ L];refine j0 (yd<|j0 ?_);refine j0 (v0 (b0h (u:=assign (.Name x p) X.env) (Q:=λ_ _=>False) rfl hs (gY λp hp hk=>I.ok.has p.1<|.inl<|B0.free p hp hk) B0.kind B0.names ?_) (λ_ _ z=>z.elim) λ_ _ z=>z);refine thn (hi.run B s U H (λJ S=>∃F,Grow G H F S/\Walk X.K J F O) I #[Z,_,H0,Gz,G,A,R,λJ F S g w=>#[F,g,w]]) ?_;rintro v s1 h1;refine thn h1 ?_;rintro itv s2⟨it,fp,tn,J,H2,e',I2,T,st2,f2,G2,g2,wk⟩;subst e';have R2:=R.more g2;have P:cT t (cF cap Z) ft d=true:=by unfold cT;rw[e8]
     have k:∀x∈j++[d],tgD t (cF cap Z) x=Qa (cX t (cF cap Z) x)/\ft (cX t (cF cap Z) x)=Qa (.ok<|cT t (cF cap Z) ft x):=λx hx=>by
      obtain hx|hx:=qU.mp hx;.exact#[(e6 x hx).1,(e6 x hx).2.1]
      .cases qf.mp hx;exact#[e7,by rwa[P]]
     refine a2k (RR:=λacc C=>cpX (model X.prog X.w) X.A X.xe X.env (λ_ _=>False) acc C) (XE:=λC a b fp=>b9e X scope N' c0 G2 H2 C a b fp) (g:=gU X.K (j++[d]) (λx=>x) (cF cap Z)<|cX t<|cF cap Z) (tc:=tU X.K (j++[d]) (cX t<|cF cap Z)<|cT t (cF cap Z) ft)
      (Q:=λ_ _=>False) (te:=eX X.K (j++[d]) (cX t<|cF cap Z) fe c0 H2 G2) hc B0 I2 T st2 f2 (by rintro C a b fp B s U H v u Q I r⟨x,hx,q⟩;exact((hg C a b fp).run _ _ _ (k x hx).1).run B s U H v u Q I r q)
      (by rintro C a b fp B s U H Q I⟨x,hx,q⟩;exact((ht C a b fp).run _ _ (k x hx).2).run B s U H Q I q) (λC a b fp B s U H Q I⟨x,r,F,hx,er,R',q'⟩=>?_)
      (b5J R2 (e5▸wk) (.refl _) (λx hx=>a3c hf (k x hx).1) (e5▸fZ hz) (λx hx hcx=>(e6 x hx).2.2 hcx) P e9) (λD a b e s' I3 hf3 hD hH hsz z=>?_) (λD C s' S m' _ _ _ _ _ z=>z.elim);.refine(he C a b fp<|b9e X scope N' c0 G2 H2 C a b fp).run B s U H Q I #[_,r,H2,G2,F,er,R',?_];cases r with|ok d=>exact q'|ex c'=>cases q';exactλB s' U S G'' e I' R'' _ x=>#[B,U,S,G'',I'.unwish,R''.grow,x]
     .exact b5B hst hfr I3 hf3 R2 (q.mono g2.gg) z
   .cases f
  .cases f;refine K _ ?_ M;unfold fK;rw[A];rfl]
end
end L2.L3
namespace L2.L3
def tJ{c:Type}{l:List c}(h:l.length=1):∃a,l=[a]:=by cases l with|nil=>cases h|cons a l=>cases l with|nil=>exact#[a,rfl]|cons b l=>simp at h
def c0I{b:Type}{l:List b}{n:Nat}(h:l.length=n+1):∃a r,l=a::r/\r.length=n:=by cases l with|nil=>cases h|cons a r=>exact#[a,r,rfl,by simpa using h]
def wX{c:Type}{l:List c}(h:l.length=2):∃a b,l=[a,b]:=by let⟨a,r,rfl,k⟩:=c0I h;let⟨b,rfl⟩:=tJ k;exact#[a,b,rfl]
def a5A{d:Type}{l:List d}(h:l.length=3):∃a b c,l=[a,b,c]:=by let⟨a,r,rfl,k⟩:=c0I h;let⟨b,c,rfl⟩:=wX k;exact#[a,b,c,rfl]
def c4i{e:Type}{l:List e}(h:l.length=4):∃a b c d,l=[a,b,c,d]:=by let⟨a,r,rfl,k⟩:=c0I h;let⟨b,c,d,rfl⟩:=a5A k;exact#[a,b,c,d,rfl]
def c7O{f:Type}{l:List f}(h:l.length=5):∃a b c d e,l=[a,b,c,d,e]:=by let⟨a,r,rfl,k⟩:=c0I h;let⟨b,c,d,e,rfl⟩:=c4i k;exact#[a,b,c,d,e,rfl]
end L2.L3
namespace L2.L3
open PySem PySem.Spec PyProof.Rows
section
variable{sp:Pos}{x:Str}{k':Nat}{ps':T0q}{F F':List q8->Mm q8}{fa:AF}
end
noncomputable def top(i:Nat):Stmt:=PySem.Challenge.pw_daysheet_k86_whole_binder_texts_spoilt.main.body.getD i<|.Pass #[0,0,0,0]
structure Blt(mg:T0d):Prop where
 b_ValueError:mg "ValueError"=Qb
 b_all:mg "all"=Qb
 b_bool:mg "bool"=Qb
 b_dict:mg "dict"=Qb
 b_int:mg "int"=Qb
 b_isinstance:mg "isinstance"=Qb
 b_len:mg "len"=Qb
 b_range:mg "range"=Qb
 b_set:mg "set"=Qb
 b_sorted:mg "sorted"=Qb
 b_str:mg "str"=Qb
 b_tuple:mg "tuple"=Qb
 k_DAY:∃t:Tok,mg "DAY"=Qa (.int 48 t)k_LAST_END:∃t:Tok,mg "LAST_END"=Qa (.int 480 t)k_LONGEST_NAME:∃t:Tok,mg "LONGEST_NAME"=Qa (.int 4 t)k_MOST_MEETINGS:∃t:Tok,mg "MOST_MEETINGS"=Qa (.int 16 t)
theorem _root_.L2.Room.m(a:Room k A)(h:j<=k:=by decide):Room j A:=a.mono h
section
variable(P:Program)(w:World)(K:qB)(mg:T0d)(base:Heap)
abbrev b0v:Prop:=dU P w K mg base "day_of" 1 ["moment"] a5j
abbrev rX:Prop:=dU P w K mg base "moment_text" 2 ["moment"] iI
abbrev a6Z:Prop:=dU P w K mg base "line_of" 3 ["meeting"] a2x
abbrev a6X:Prop:=dU P w K mg base "written" 4 ["sheet"] yG
abbrev sM:Prop:=dU P w K mg base "is_name" 1 ["thing"] bC
abbrev a0u:Prop:=dU P w K mg base "is_whole" 1 ["thing"] gO
abbrev xO:Prop:=dU P w K mg base "are_times" 2 ["begin","end"] eO
abbrev gF:Prop:=CalleeX P w K mg base "refuse_wrong_times" 3 ["begin","end"] aT
abbrev pE:Prop:=dU P w K mg base "names_of" 1 ["sheet"] gN
abbrev uB:Prop:=CalleeX P w K mg base "with_meeting" 4 ["sheet","name","begin","end"] iP
abbrev yW:Prop:=CalleeX P w K mg base "meeting_of" 1 ["sheet","name"] mO
abbrev pD:Prop:=CalleeX P w K mg base "without_meeting" 2 ["sheet","name"] eV
abbrev yX:Prop:=CalleeX P w K mg base "meeting_at" 4 ["name","begin","end"] rW
abbrev b0t:Prop:=CalleeX P w K mg base "later" 2 ["moment","by"] a1r
abbrev a5m:Prop:=CalleeX P w K mg base "shifted" 5 ["sheet","by"] pA
abbrev yV:Prop:=dU P w K mg base "names_alone" 2 ["one","other"] mM
abbrev xL:Prop:=dU P w K mg base "unlike_names" 3 ["one","other"] lK
abbrev a6Y:Prop:=CalleeX P w K mg base "merged" 4 ["one","other"] yH
abbrev xN:Prop:=dU P w K mg base "is_rising" 1 ["row"] gP
abbrev a1w:Prop:=dU P w K mg base "is_meeting" 3 ["thing"] nZ
abbrev a0v:Prop:=dU P w K mg base "is_sheet" 4 ["thing"] cR
abbrev a5o:Prop:=dU P w K mg base "_law_cell" 1 ["_law_script","_law_k"] xK
abbrev a1v:Prop:=dU P w K mg base "_law_pick" 2 ["_law_script","_law_k","_law_many"] bR
abbrev a7a:Prop:=dU P w K mg base "_law_sheet" 3 ["_law_script","_law_at","_law_most"] a2y
abbrev b0u:Prop:=dU P w K mg base "_law_deed" 4 ["_law_script","_law_at"] a1t
abbrev a5n:Prop:=dU P w K mg base "_law_spoilt" 1 ["_law_text","_law_cell_here","_law_signs"] pB
abbrev b0s:Prop:=dU P w K mg base "row_of" 1 ["line","moments"] a5i
abbrev b3C:Prop:=CalleeX P w K mg base "read" 5 ["text"] iQ
abbrev xM:Prop:=CalleeX P w K mg base "named_sheet" 6 ["text"] fM
end
variable{c T fa:Addr}
section
variable(P:Program)(w:World){K:qB}(base:Heap)
def fS{P:T0q}{sc:Scope}(a:sc.kind=.function:=by rfl)(b:sc.isCoroutine=false:=by rfl)(c:sc.isGenerator=false:=by rfl)(d:N.Nodup:=by decide+kernel)(e:N.take P.length=P:=by rfl)(f:∀x∈P,sc.names.lookup x=Qa .local\/sc.names.lookup x=Qa .cell:=by decide+kernel)(g:∀y∈sc.names,y.2≠.free:=by decide+kernel):FnScope N P sc:=#[a,b,c,d,e,f,g]
def hM(r:Room k A)(h:j<=k:=by decide):Room j A:=r.mono h
abbrev a8Z:Stmt:=xG (top 43) 0
def b3Y:FnScope ["self"] ["self"] (aD a8Z):=fS
abbrev a3W:Stmt:=top 35
theorem b4d:FnScope ["moment"] ["moment"] (aD a3W):=fS
theorem b8R(D:Def K mg "day_of" a3W)(B0:Blt mg)(XF:ExG cD K):b0v P w K mg base:=by refine bV 1 1 D b4d rfl rfl (λ_ _ _ _ _ _ us hl=>by let⟨_,rfl⟩:=tJ hl;rfl) (λfa cdv A outer s H E hr=>?_);exact(aR<|aX<|aO a4J (aC 0)<|mX rfl<|B0.k_DAY)
abbrev pZ:Stmt:=top 37
noncomputable abbrev a5w:List Str:=["moment","day","place"]
theorem oG:FnScope a5w ["moment"] (aD pZ):=fS
theorem a5J(D:Def K mg "moment_text" pZ)(B0:Blt mg)(XF:ExG cD K)(YC:b0v P w K mg base):rX P w K mg base:=by refine bV 3 1 D oG rfl rfl (λ_ _ _ _ _ _ us hl=>by let⟨_,rfl⟩:=tJ hl;rfl) (λfa cdv A outer s H E hr=>?_);exact(aN (cG 1 oG.nd<|aU YC hr.m<|aA (aC 0) aE)<|aN (cG 2 oG.nd<|aO rH (aC 0)<|mX rfl<|B0.k_DAY)<|aR<|aX<|a2g<|gX (a0q<|aC 1)<|gX aL<|gX (a0q<|aC 2) b1K)
abbrev a1I:Stmt:=top 38
noncomputable abbrev b4t:List Str:=["meeting","name","begin","end"]
theorem sQ:FnScope b4t ["meeting"] (aD a1I):=fS
theorem b5n(D:Def K mg "line_of" a1I)(B0:Blt mg)(XF:ExG cD K)(Yh:rX P w K mg base):a6Z P w K mg base:=by refine bV 4 1 D sQ rfl rfl (λ_ _ _ _ _ _ us hl=>by let⟨_,rfl⟩:=tJ hl;rfl) (λfa cdv A outer s H E hr=>?_);exact(aN (cG 1 sQ.nd<|cB (aC 0) aH)<|aN (cG 2 sQ.nd<|aU Yh hr.m<|aA (cB (aC 0) aH) aE)<|aN (cG 3 sQ.nd<|aU Yh hr.m<|aA (cB (aC 0) aH) aE)<|aR<|aX<|a2g<|gX (a0q<|aC 1)<|gX aL<|gX (a0q<|aC 2)<|gX aL<|gX (a0q<|aC 3)<|gX aL b1K)
abbrev xS:Stmt:=top 39
theorem b0N:FnScope ["sheet"] ["sheet"] (aD xS):=fS
theorem b5i(D:Def K mg "written" xS)(B0:Blt mg)(XF:ExG cD K)(YS:a6Z P w K mg base):a6X P w K mg base:=by
 refine bV 1 1 D b0N rfl rfl (λ_ _ _ _ _ _ us hl=>by let⟨_,rfl⟩:=tJ hl;rfl) (λfa cdv A outer s H E hr=>?_);have nd1:(["meeting"]:T0q).Nodup:=by decide+kernel
 exact(aR<|aX<|a1b aL<|fW (N':=["meeting"]) (cap:=[Qb]) rfl (eT (so:=aD xS) (NN:=["sheet"]) rfl rfl<|by decide+kernel) (gL<|aC 0) rfl (λ_ _ _ _=>eA 0 nd1) (λ_ _ _ _=>gW)<|λ_ _ _ _=>(aU YS hr.m<|aA (aC 0) aE))
abbrev xU:Stmt:=top 16
theorem b0R:FnScope ["thing"] ["thing"] (aD xU):=fS
theorem b5q(D:Def K mg "is_name" xU)(B0:Blt mg)(XF:ExG cD K):sM P w K mg base:=by
 refine bV 1 1 D b0R rfl rfl (λ_ _ _ _ _ _ us hl=>by let⟨_,rfl⟩:=tJ hl;rfl) (λfa cdv A outer s H E hr=>?_);have nd1:(["letter"]:T0q).Nodup:=by decide+kernel
 exact(aN (eK (DW.dt<|yR (iB<|iA<|lZ B0.b_isinstance B0.b_str boot_str<|aC 0)<|rQ<|iB<|c4N a6z a6z aH (fB rJ B0.b_len yr<|aA (aC 0) aE)<|mX rfl<|B0.k_LONGEST_NAME) (aR<|aX pS) cH)<|aR<|aX<|fB (b8Z rfl) B0.b_all boot_all<|aA (fW (N':=["letter"]) (cap:=[Qb]) rfl (eT (so:=aD xU) (NN:=["thing"]) rfl rfl<|by decide+kernel) (c4f rfl<|aC 0) rfl (λ_ _ _ _=>eA 0 nd1) (λ_ _ _ _=>gW)<|λ_ _ _ _=>(c4V a6z a6z aL (aC 0) aL)) aE)
abbrev sW:Stmt:=xG (top 43) 4
theorem a5t:FnScope ["self","name"] ["self","name"] (aD sW):=fS
theorem a8u(D:MDef K "sheet_of" sW)(B0:Blt mg)(BC:BCls K)(XF:ExG cD K)(YE:sM P w K mg base):MethX P w K mg base "sheet_of" 2 ["self","name"] (spR K aJ):=by let⟨fa,fd,Fu,hm⟩:=D.ex;refine#[fa,fd,hm,Fu.binds (λ_ _ _ _ _ _ us hl=>by let⟨_,_,rfl⟩:=wX hl;rfl),a3o 2 1 Fu a5t rfl rfl<|λcdv A outer s H E hr=>?_];exact(aN (eK (DW.dt<|yR (iB<|iA<|aU YE hr.m<|aA (aC 1) aE)<|rQ<|c1l 0 BC hr.units<|aC 1) (aR<|dZ XF.l rfl) cH)<|aR<|aX<|c4T 0 BC<|aC 1)
abbrev sS:Stmt:=top 44
noncomputable abbrev a7E:List Str:=["binder","name","sheet"]
theorem yO:FnScope a7E ["binder","name"] (aD sS):=fS
theorem a8t(D:Def K mg "sheet_text" sS)(B0:Blt mg)(BC:BCls K)(XF:ExG cD K)(Ya:MethX P w K mg base "sheet_of" 2 ["self","name"] (spR K aJ))(Yu:a6X P w K mg base):FunX P w K mg base "sheet_text" 5 ["binder","name"] (spR K nY):=by let⟨fa,fd,Fu,hmg⟩:=D.ex;refine#[fa,fd,hmg,Fu.kp,Fu.binds (λ_ _ _ _ _ _ us hl=>by let⟨_,_,rfl⟩:=wX hl;rfl),a3o 3 1 Fu yO rfl rfl<|λcdv A outer s H E hr=>?_];exact(aN (cG 2 yO.nd<|aU Yu hr.m<|aA (oX 0 BC Ya hr.m<|aA (aC 1) aE) aE)<|aR<|aX<|a2g<|gX aL<|gX (a0q<|aC 1)<|gX aL<|gX (a0q<|aC 2) b1K)
abbrev a1G:Stmt:=xG (top 43) 10
theorem b0P:FnScope ["self"] ["self"] (aD a1G):=fS
theorem b5l(D:MDef K "names" a1G)(B0:Blt mg)(BC:BCls K)(XF:ExG cD K):MethX P w K mg base "names" 1 ["self"] (spR K mC):=by let⟨fa,fd,Fu,hm⟩:=D.ex;refine#[fa,fd,hm,Fu.binds (λ_ _ _ _ _ _ us hl=>by let⟨_,rfl⟩:=tJ hl;rfl),a3o 1 0 Fu b0P rfl rfl<|λcdv A outer s H E hr=>?_];exact(aR<|aX<|c1o 0 rfl BC B0.b_sorted)
abbrev mI:Stmt:=top 45
theorem a3O:FnScope ["binder"] ["binder"] (aD mI):=fS
theorem a5N(D:Def K mg "binder_text" mI)(B0:Blt mg)(BC:BCls K)(XF:ExG cD K)(YY:MethX P w K mg base "names" 1 ["self"] (spR K mC))(Yp:FunX P w K mg base "sheet_text" 5 ["binder","name"] (spR K nY)):FunX P w K mg base "binder_text" 6 ["binder"] (spR K bZ):=by
 let⟨fa,fd,Fu,hmg⟩:=D.ex;refine#[fa,fd,hmg,Fu.kp,Fu.binds (λ_ _ _ _ _ _ us hl=>by let⟨_,rfl⟩:=tJ hl;rfl),a3o 1 0 Fu a3O rfl rfl<|λcdv A outer s H E hr=>?_];have nd1:(["name","binder"]:T0q).Nodup:=by decide+kernel
 exact(aR<|aX<|a1b aL<|fW (N':=["name","binder"]) (cap:=[Qb,Qa 0]) rfl (eT (so:=aD mI) (NN:=["binder"]) rfl rfl<|by decide+kernel) (gL<|b5a 0 BC YY hr.m) rfl (λ_ _ _ _=>eA 0 nd1) (λ_ _ _ _=>gW)<|λ_ _ _ _=>(b0e 1 Yp hr.m<|aA (aC 0) aE))
abbrev a1K:Stmt:=top 52
noncomputable abbrev b4v:List Str:=["_law_kept","_law_kinds","_law_some"]
theorem oH:FnScope b4v ["_law_kept"] (aD a1K):=fS
theorem b5p(D:Def K mg "_law_class" a1K)(B0:Blt mg)(XF:ExG cD K):ClsOk P w K mg base "_law_class" 1 cJ:=by refine c1G 3 D oH rfl (λ_ _ _ _ _ _ us hl=>by let⟨_,rfl⟩:=tJ hl;rfl) (λfa cdv A outer s H hr=>?_);exact(aN (b1J 1 oH.nd<|aA (pR 0 XF B0.b_isinstance)<|aA (pR 0 XF B0.b_isinstance)<|aA (pR 0 XF B0.b_isinstance) aE)<|aN (a0X 1<|iD<|aA (pR 0 XF B0.b_isinstance) aE)<|a8j 1<|aN (a6K 1 oH.nd (aC 1)<|iD<|aA (pR 0 XF B0.b_isinstance)<|aA (pR 0 XF B0.b_isinstance)<|aA (pR 0 XF B0.b_isinstance) aE)<|a8j 1<|aN (a6K 1 oH.nd (aC 1)<|iD<|aA (pR 0 XF B0.b_isinstance) aE)<|aN (eK (c6G<|DW.dt<|yR (cA (a2E hr.units) (b8A (aC 1) pS) aH)<|rQ<|iB<|iA<|c1q 0 XF B0.b_isinstance B0.b_ValueError) (aR<|aX aL) cH)<|aN (cG 2 oH.nd<|iD<|aA aL<|aA aL<|aA aL<|aA aL<|aA aL<|aA aL<|aA aL<|aA aL aE)<|a8j 1<|aR<|aX<|cB (aC 2)<|b5b (aC 1) pS)
abbrev a3S:Stmt:=top 53
noncomputable abbrev b6Y:List Str:=["_law_deed_here","e"]
theorem b4b:FnScope b6Y ["_law_deed_here"] (aD a3S):=fS
theorem b8N(D:Def K mg "_law_told" a3S)(B0:Blt mg)(XF:ExG cD K)(YJ:ClsOk P w K mg base "_law_class" 1 cJ):ToldOkR P w K mg base "_law_told" cD cJ:=by let⟨S,h1,h2,h3⟩:=XF.l.she;exact b3H D b4b h1 h2 h3 YJ rfl (λ_ _ _ _ _ _ us hl=>by let⟨_,rfl⟩:=tJ hl;rfl) rfl rfl rfl rfl (by decide) (by decide) (by decide) (by decide) (by decide)
abbrev a7q:Stmt:=xG (top 43) 1
noncomputable abbrev c0v:List Str:=["self","name","sheet"]
theorem b5X:FnScope c0v ["self","name","sheet"] (aD a7q):=fS
theorem c1L(D:MDef K "put" a7q)(B0:Blt mg)(BC:BCls K)(XF:ExG cD K):MethX P w K mg base "put" 1 ["self","name","sheet"] (spO K a1p):=by let⟨fa,fd,Fu,hm⟩:=D.ex;refine#[fa,fd,hm,Fu.binds (λ_ _ _ _ _ _ us hl=>by let⟨_,_,_,rfl⟩:=a5A hl;rfl),pQ 3 2 Fu b5X rfl rfl<|λcdv A outer s H E hr=>?_];exact(hV<|b2O (a6q<|b1I<|aC 2) (hV<|b6E 0 BC<|aC 1)<|hV<|c0b 0 BC hr.units (aC 2)<|aC 1)
abbrev rD:Stmt:=xG (top 43) 2
abbrev a5z:List Str:=["self","word","name","sheet"]
theorem a3N:FnScope a5z ["self","word","name","sheet"] (aD rD):=fS
theorem a5M(D:MDef K "carry_out" rD)(B0:Blt mg)(BC:BCls K)(XF:ExG cD K)(YZ:MethX P w K mg base "put" 1 ["self","name","sheet"] (spO K a1p)):MethX P w K mg base "carry_out" 2 ["self","word","name","sheet"] (spO K bH):=by let⟨fa,fd,Fu,hm⟩:=D.ex;refine#[fa,fd,hm,Fu.binds (λ_ _ _ _ _ _ us hl=>by let⟨_,_,_,_,rfl⟩:=c4i hl;rfl),pQ 4 3 Fu a3N rfl rfl<|λcdv A outer s H E hr=>?_];exact(dC (c0d Qd 0 BC<|iC<|aA (aC 1)<|aA (aC 2)<|aA (c1r 0 BC hr.units<|aC 2)<|aA (aC 3) aE)<|dC (c0c 0 BC)<|dC (a3h<|gQ 0 BC YZ hr.m<|aA (aC 2)<|aA (aC 3) aE)<|hV<|lL<|aX<|aC 3)
abbrev a0f:Stmt:=top 15
theorem a8X:FnScope ["thing"] ["thing"] (aD a0f):=fS
theorem b1U(D:Def K mg "is_whole" a0f)(B0:Blt mg)(XF:ExG cD K):a0u P w K mg base:=by refine bV 1 1 D a8X rfl rfl (λ_ _ _ _ _ _ us hl=>by let⟨_,rfl⟩:=tJ hl;rfl) (λfa cdv A outer s H E hr=>?_);exact(aR<|aX<|a8i (lZ B0.b_isinstance B0.b_int boot_int<|aC 0)<|b1M<|c4S<|lZ B0.b_isinstance B0.b_bool boot_bool<|aC 0)
abbrev uV:Stmt:=top 18
theorem a7p:FnScope ["begin","end"] ["begin","end"] (aD uV):=fS
theorem b0n(D:Def K mg "are_times" uV)(B0:Blt mg)(XF:ExG cD K)(YH:a0u P w K mg base):xO P w K mg base:=by refine bV 2 2 D a7p rfl rfl (λ_ _ _ _ _ _ us hl=>by let⟨_,_,rfl⟩:=wX hl;rfl) (λfa cdv A outer s H E hr=>?_);exact(aR<|aX<|a8i (aU YH hr.m<|aA (aC 0) aE)<|a8i (aU YH hr.m<|aA (aC 1) aE)<|b1M<|c1t a6z a6w a6z aH (aC 0) (aC 1)<|mX rfl<|B0.k_LAST_END)
abbrev gD:Stmt:=top 23
theorem sP:FnScope ["begin","end"] ["begin","end"] (aD gD):=fS
theorem uH(D:Def K mg "refuse_wrong_times" gD)(B0:Blt mg)(XF:ExG cD K)(YA:xO P w K mg base):gF P w K mg base:=by refine eN 2 2 D sP rfl rfl (λ_ _ _ _ _ _ us hl=>by let⟨_,_,rfl⟩:=wX hl;rfl) (λfa cdv A outer s H E hr=>?_);exact(aR<|eK (iB<|iA<|aU YA hr.m<|aA (aC 0)<|aA (aC 1) aE) (aR<|dZ XF.l rfl) cH)
abbrev sU:Stmt:=top 21
theorem a8V:FnScope ["sheet"] ["sheet"] (aD sU):=fS
theorem b1S(D:Def K mg "names_of" sU)(B0:Blt mg)(XF:ExG cD K):pE P w K mg base:=by
 refine bV 1 1 D a8V rfl rfl (λ_ _ _ _ _ _ us hl=>by let⟨_,rfl⟩:=tJ hl;rfl) (λfa cdv A outer s H E hr=>?_);have nd1:(["meeting"]:T0q).Nodup:=by decide+kernel
 exact(aR<|aX<|fW (N':=["meeting"]) (cap:=[Qb]) rfl (eT (so:=aD sU) (NN:=["sheet"]) rfl rfl<|by decide+kernel) (gL<|aC 0) rfl (λ_ _ _ _=>eA 0 nd1) (λ_ _ _ _=>gW)<|λ_ _ _ _=>(cB (aC 0) aH))
abbrev nE:Stmt:=top 24
noncomputable abbrev a2X:List Str:=["sheet","name","begin","end"]
theorem a1E:FnScope a2X ["sheet","name","begin","end"] (aD nE):=fS
theorem a3b(D:Def K mg "with_meeting" nE)(B0:Blt mg)(XF:ExG cD K)(Yk:pE P w K mg base)(Yn:gF P w K mg base):uB P w K mg base:=by refine eN 4 4 D a1E rfl rfl (λ_ _ _ _ _ _ us hl=>by let⟨_,_,_,_,rfl⟩:=c4i hl;rfl) (λfa cdv A outer s H E hr=>?_);exact(aN (eK (cA (b1x hr.units1) (aC 1)<|aU Yk hr.m<|aA (aC 0) aE) (aR<|dZ XF.l rfl) cH)<|aN (b3l<|gB Yn hr.m<|aA (aC 2)<|aA (aC 3) aE)<|aN (eK (cA c6y (fB rJ B0.b_len yr<|aA (aC 0) aE)<|mX rfl<|B0.k_MOST_MEETINGS) (aR<|dZ XF.l rfl) cH)<|aR<|aX<|lH uJ B0.b_tuple ya<|aA (fB b2q B0.b_sorted boot_sorted<|aA (aO aV (aC 0)<|iC<|aA (iC<|aA (aC 1)<|aA (aC 2)<|aA (aC 3) aE) aE) aE) aE)
abbrev a7s:Stmt:=xG (top 43) 6
noncomputable abbrev c0x:List Str:=["self","name","label","begin","end"]
theorem b5Y:FnScope c0x ["self","name","label","begin","end"] (aD a7s):=fS
theorem c1N(D:MDef K "add" a7s)(B0:Blt mg)(BC:BCls K)(XF:ExG cD K)(YU:MethX P w K mg base "carry_out" 2 ["self","word","name","sheet"] (spO K bH))(Ya:MethX P w K mg base "sheet_of" 2 ["self","name"] (spR K aJ))(Ys:uB P w K mg base):MethX P w K mg base "add" 5 ["self","name","label","begin","end"] (spO K yI):=by let⟨fa,fd,Fu,hm⟩:=D.ex;refine#[fa,fd,hm,Fu.binds (λ_ _ _ _ _ _ us hl=>by let⟨_,_,_,_,_,rfl⟩:=c7O hl;rfl),pQ 5 4 Fu b5Y rfl rfl<|λcdv A outer s H E hr=>?_];exact(hV<|uY<|gQ 0 BC YU hr.m<|aA aL<|aA (aC 1)<|aA (gB Ys hr.m<|aA (oX 0 BC Ya hr.m<|aA (aC 1) aE)<|aA (aC 2)<|aA (aC 3)<|aA (aC 4) aE) aE)
abbrev rB:Stmt:=top 22
noncomputable abbrev a5x:List Str:=["sheet","name","meeting"]
theorem uT:FnScope a5x ["sheet","name"] (aD rB):=fS
theorem a5K(D:Def K mg "meeting_of" rB)(B0:Blt mg)(XF:ExG cD K):yW P w K mg base:=by refine eN 3 2 D uT rfl rfl (λ_ _ _ _ _ _ us hl=>by let⟨_,_,rfl⟩:=wX hl;rfl) (λfa cdv A outer s H E hr=>?_);exact(aN (c4O<|a8g vB rfl (gL<|aC 0) (eA 2 uT.nd)<|aR<|eK (cA (nQ hr.units) (cB (aC 2) aH)<|aC 1) (aR<|aX<|aC 2) cH)<|aR<|dZ XF.l rfl)
abbrev fT:Stmt:=top 25
noncomputable abbrev oP:List Str:=["sheet","name","gone"]
theorem nM:FnScope oP ["sheet","name"] (aD fT):=fS
theorem a0r(D:Def K mg "without_meeting" fT)(B0:Blt mg)(XF:ExG cD K)(Ye:yW P w K mg base):pD P w K mg base:=by
 refine eN 3 2 D nM rfl rfl (λ_ _ _ _ _ _ us hl=>by let⟨_,_,rfl⟩:=wX hl;rfl) (λfa cdv A outer s H E hr=>?_);have nd1:(["meeting","gone"]:T0q).Nodup:=by decide+kernel
 exact(aN (cG 2 nM.nd<|gB Ye hr.m<|aA (aC 0)<|aA (aC 1) aE)<|aR<|aX<|lH uJ B0.b_tuple ya<|aA (fW (N':=["meeting","gone"]) (cap:=[Qb,Qa 2]) rfl (eT (so:=aD fT) (NN:=oP) rfl rfl<|by decide+kernel) (gL<|aC 0) rfl (λ_ _ _ _=>eA 0 nd1) (λ_ _ _ _=>(a3q<|cA (a2E hr.units) (cB (aC 0) aH)<|cB (aC 1) aH))<|λ_ _ _ _=>aC 0) aE)
abbrev a3Q:Stmt:=xG (top 43) 7
noncomputable abbrev b6X:List Str:=["self","name","label"]
theorem b3Z:FnScope b6X ["self","name","label"] (aD a3Q):=fS
theorem b8L(D:MDef K "drop" a3Q)(B0:Blt mg)(BC:BCls K)(XF:ExG cD K)(YU:MethX P w K mg base "carry_out" 2 ["self","word","name","sheet"] (spO K bH))(Ya:MethX P w K mg base "sheet_of" 2 ["self","name"] (spR K aJ))(Yt:pD P w K mg base):MethX P w K mg base "drop" 3 ["self","name","label"] (spO K sL):=by let⟨fa,fd,Fu,hm⟩:=D.ex;refine#[fa,fd,hm,Fu.binds (λ_ _ _ _ _ _ us hl=>by let⟨_,_,_,rfl⟩:=a5A hl;rfl),pQ 3 2 Fu b3Z rfl rfl<|λcdv A outer s H E hr=>?_];exact(hV<|uY<|gQ 0 BC YU hr.m<|aA aL<|aA (aC 1)<|aA (gB Yt hr.m<|aA (oX 0 BC Ya hr.m<|aA (aC 1) aE)<|aA (aC 2) aE) aE)
abbrev rC:Stmt:=top 31
noncomputable abbrev a5y:List Str:=["name","begin","end"]
theorem a3M:FnScope a5y ["name","begin","end"] (aD rC):=fS
theorem a5L(D:Def K mg "meeting_at" rC)(B0:Blt mg)(XF:ExG cD K)(Yn:gF P w K mg base):yX P w K mg base:=by refine eN 3 3 D a3M rfl rfl (λ_ _ _ _ _ _ us hl=>by let⟨_,_,_,rfl⟩:=a5A hl;rfl) (λfa cdv A outer s H E hr=>?_);exact(aN (b3l<|gB Yn hr.m<|aA (aC 1)<|aA (aC 2) aE)<|aR<|aX<|iC<|aA (aC 0)<|aA (aC 1)<|aA (aC 2) aE)
abbrev a3R:Stmt:=top 26
theorem b4a:FnScope ["moment","by"] ["moment","by"] (aD a3R):=fS
theorem b8M(D:Def K mg "later" a3R)(B0:Blt mg)(XF:ExG cD K)(YH:a0u P w K mg base):b0t P w K mg base:=by refine eN 2 2 D b4a rfl rfl (λ_ _ _ _ _ _ us hl=>by let⟨_,_,rfl⟩:=wX hl;rfl) (λfa cdv A outer s H E hr=>?_);exact(aN (eK (iB<|iA<|aU YH hr.m<|aA (aC 1) aE) (aR<|dZ XF.l rfl) cH)<|aR<|aX<|aO aV (aC 0)<|aC 1)
abbrev sR:Stmt:=top 32
theorem a8U:FnScope ["sheet","by"] ["sheet","by"] (aD sR):=fS
theorem b1R(D:Def K mg "shifted" sR)(B0:Blt mg)(XF:ExG cD K)(YR:b0t P w K mg base)(Yd:yX P w K mg base):a5m P w K mg base:=by
 refine eN 2 2 D a8U rfl rfl (λ_ _ _ _ _ _ us hl=>by let⟨_,_,rfl⟩:=wX hl;rfl) (λfa cdv A outer s H E hr=>?_);have nd1:(["name","begin","end","by"]:T0q).Nodup:=by decide+kernel
 exact(aR<|aX<|lH uJ B0.b_tuple ya<|aA (b8B (N':=["name","begin","end","by"]) (cap:=[Qb,Qb,Qb,Qa 1]) rfl rfl rfl (eT (so:=aD sR) (NN:=["sheet","by"]) rfl rfl<|by decide+kernel) (gL<|aC 0) rfl (λ_ _ _ _=>(b8v rfl<|xB 0 nd1<|xB 1 nd1<|xB 2 nd1 b3n)) (λ_ _ _ _=>gW)<|λ_ _ _ _ _=>(gB Yd hr.m<|aA (aC 0)<|aA (gB YR hr.m<|aA (aC 1)<|aA (aC 3) aE)<|aA (gB YR hr.m<|aA (aC 2)<|aA (aC 3) aE) aE)) aE)
abbrev a1F:Stmt:=xG (top 43) 8
noncomputable abbrev b4r:List Str:=["self","name","by"]
theorem b0O:FnScope b4r ["self","name","by"] (aD a1F):=fS
theorem b5k(D:MDef K "shift" a1F)(B0:Blt mg)(BC:BCls K)(XF:ExG cD K)(YU:MethX P w K mg base "carry_out" 2 ["self","word","name","sheet"] (spO K bH))(Ya:MethX P w K mg base "sheet_of" 2 ["self","name"] (spR K aJ))(Yq:a5m P w K mg base):MethX P w K mg base "shift" 6 ["self","name","by"] (spO K oC):=by let⟨fa,fd,Fu,hm⟩:=D.ex;refine#[fa,fd,hm,Fu.binds (λ_ _ _ _ _ _ us hl=>by let⟨_,_,_,rfl⟩:=a5A hl;rfl),pQ 3 2 Fu b0O rfl rfl<|λcdv A outer s H E hr=>?_];exact(hV<|uY<|gQ 0 BC YU hr.m<|aA aL<|aA (aC 1)<|aA (gB Yq hr.m<|aA (oX 0 BC Ya hr.m<|aA (aC 1) aE)<|aA (aC 2) aE) aE)
abbrev mH:Stmt:=top 28
theorem a3K:FnScope ["one","other"] ["one","other"] (aD mH):=fS
theorem a5I(D:Def K mg "names_alone" mH)(B0:Blt mg)(XF:ExG cD K)(Yk:pE P w K mg base):yV P w K mg base:=by
 refine bV 2 2 D a3K rfl rfl (λ_ _ _ _ _ _ us hl=>by let⟨_,_,rfl⟩:=wX hl;rfl) (λfa cdv A outer s H E hr=>?_);have nd1:(["name","other"]:T0q).Nodup:=by decide+kernel
 exact(aR<|aX<|fW (N':=["name","other"]) (cap:=[Qb,Qa 1]) rfl (eT (so:=aD mH) (NN:=["one","other"]) rfl rfl<|by decide+kernel) (gL<|aU Yk hr.m<|aA (aC 0) aE) rfl (λ_ _ _ _=>eA 0 nd1) (λ_ _ _ _=>(a3q<|cA (a7B hr.units1) (aC 0)<|aU Yk hr.m<|aA (aC 1) aE))<|λ_ _ _ _=>aC 0)
abbrev iZ:Stmt:=top 29
noncomputable abbrev wU:List Str:=["one","other","unlike"]
theorem tR:FnScope wU ["one","other"] (aD iZ):=fS
theorem a5a(D:Def K mg "unlike_names" iZ)(B0:Blt mg)(XF:ExG cD K)(Yk:pE P w K mg base)(Yj:yV P w K mg base):xL P w K mg base:=by
 refine bV 3 2 D tR rfl rfl (λ_ _ _ _ _ _ us hl=>by let⟨_,_,rfl⟩:=wX hl;rfl) (λfa cdv A outer s H E hr=>?_);have nd1:(["meeting","other"]:T0q).Nodup:=by decide+kernel
 exact(aN (b3k 2 tR.nd (N':=["meeting","other"]) (cap:=[Qb,Qa 1]) rfl (eT (so:=aD iZ) (NN:=wU) rfl rfl<|by decide+kernel) (gL<|aC 0) rfl (λ_ _ _ _=>eA 0 nd1) (λ_ _ _ _=>(a3q<|DW.dt<|b8j (cA (a7B hr.units1) (aC 0)<|aC 1)<|b3j<|cA (b1x hr.units1) (cB (aC 0) aH)<|aU Yk hr.m<|aA (aC 1) aE))<|λ_ _ _ _=>(cB (aC 0) aH))<|aR<|aX<|iC<|aA (aU Yj hr.m<|aA (aC 0)<|aA (aC 1) aE)<|aA (aU Yj hr.m<|aA (aC 1)<|aA (aC 0) aE)<|aA (aC 2) aE)
abbrev xT:Stmt:=top 30
noncomputable abbrev a6t:List Str:=["one","other","together"]
theorem a3L:FnScope a6t ["one","other"] (aD xT):=fS
theorem b5j(D:Def K mg "merged" xT)(B0:Blt mg)(XF:ExG cD K)(Yr:xL P w K mg base):a6Y P w K mg base:=by
 refine eN 3 2 D a3L rfl rfl (λ_ _ _ _ _ _ us hl=>by let⟨_,_,rfl⟩:=wX hl;rfl) (λfa cdv A outer s H E hr=>?_);have nd1:(["meeting","one"]:T0q).Nodup:=by decide+kernel
 exact(aN (eK (iA<|cB (aU Yr hr.m<|aA (aC 0)<|aA (aC 1) aE) aH) (aR<|dZ XF.l rfl) cH)<|aN (cG 2 a3L.nd<|aO aV (aC 0)<|lH uJ B0.b_tuple ya<|aA (fW (N':=["meeting","one"]) (cap:=[Qb,Qa 0]) rfl (eT (so:=aD xT) (NN:=a6t) rfl rfl<|by decide+kernel) (gL<|aC 1) rfl (λ_ _ _ _=>eA 0 nd1) (λ_ _ _ _=>(a3q<|cA (a7B hr.units1) (aC 0)<|aC 1))<|λ_ _ _ _=>aC 0) aE)<|aN (eK (cA c2t (fB rJ B0.b_len yr<|aA (aC 2) aE)<|mX rfl<|B0.k_MOST_MEETINGS) (aR<|dZ XF.l rfl) cH)<|aR<|aX<|lH uJ B0.b_tuple ya<|aA (fB b2q B0.b_sorted boot_sorted<|aA (aC 2) aE) aE)
abbrev a1H:Stmt:=xG (top 43) 9
noncomputable abbrev b4s:List Str:=["self","name","other"]
theorem b0Q:FnScope b4s ["self","name","other"] (aD a1H):=fS
theorem b5m(D:MDef K "merge" a1H)(B0:Blt mg)(BC:BCls K)(XF:ExG cD K)(YU:MethX P w K mg base "carry_out" 2 ["self","word","name","sheet"] (spO K bH))(Ya:MethX P w K mg base "sheet_of" 2 ["self","name"] (spR K aJ))(Yf:a6Y P w K mg base):MethX P w K mg base "merge" 5 ["self","name","other"] (spO K mD):=by let⟨fa,fd,Fu,hm⟩:=D.ex;refine#[fa,fd,hm,Fu.binds (λ_ _ _ _ _ _ us hl=>by let⟨_,_,_,rfl⟩:=a5A hl;rfl),pQ 3 2 Fu b0Q rfl rfl<|λcdv A outer s H E hr=>?_];exact(hV<|uY<|gQ 0 BC YU hr.m<|aA aL<|aA (aC 1)<|aA (gB Yf hr.m<|aA (oX 0 BC Ya hr.m<|aA (aC 1) aE)<|aA (oX 0 BC Ya hr.m<|aA (aC 2) aE) aE) aE)
abbrev uU:Stmt:=top 17
theorem a7o:FnScope ["row"] ["row"] (aD uU):=fS
theorem b0m(D:Def K mg "is_rising" uU)(B0:Blt mg)(XF:ExG cD K):xN P w K mg base:=by refine bV 1 1 D a7o rfl rfl (λ_ _ _ _ _ _ us hl=>by let⟨_,rfl⟩:=tJ hl;rfl) (λfa cdv A outer s H E hr=>?_);exact(aR<|aX<|b8C (nQ hr.units) (aC 0)<|b8z rfl B0.b_sorted B0.b_set<|aC 0)
abbrev sZ:Stmt:=top 19
theorem a5u:FnScope ["thing"] ["thing"] (aD sZ):=fS
theorem a8v(D:Def K mg "is_meeting" sZ)(B0:Blt mg)(XF:ExG cD K)(YE:sM P w K mg base)(YA:xO P w K mg base):a1w P w K mg base:=by refine bV 1 1 D a5u rfl rfl (λ_ _ _ _ _ _ us hl=>by let⟨_,rfl⟩:=tJ hl;rfl) (λfa cdv A outer s H E hr=>?_);exact(aN (eK (DW.dt<|yR (iB<|iA<|lZ B0.b_isinstance B0.b_tuple ya<|aC 0)<|rQ<|cA (a2E hr.units) (fB rJ B0.b_len yr<|aA (aC 0) aE) aH) (aR<|aX pS) cH)<|aR<|aX<|a8i (aU YE hr.m<|aA (cB (aC 0) aH) aE)<|b1M<|aU YA hr.m<|aA (cB (aC 0) aH)<|aA (cB (aC 0) aH) aE)
abbrev sY:Stmt:=top 20
theorem a8Y:FnScope ["thing"] ["thing"] (aD sY):=fS
theorem b1V(D:Def K mg "is_sheet" sY)(B0:Blt mg)(XF:ExG cD K)(YD:a1w P w K mg base)(Yk:pE P w K mg base)(YF:xN P w K mg base):a0v P w K mg base:=by
 refine bV 1 1 D a8Y rfl rfl (λ_ _ _ _ _ _ us hl=>by let⟨_,rfl⟩:=tJ hl;rfl) (λfa cdv A outer s H E hr=>?_);have nd1:(["part"]:T0q).Nodup:=by decide+kernel
 exact(aN (eK (DW.dt<|yR (iB<|iA<|lZ B0.b_isinstance B0.b_tuple ya<|aC 0)<|rQ<|cA c2t (fB rJ B0.b_len yr<|aA (aC 0) aE)<|mX rfl<|B0.k_MOST_MEETINGS) (aR<|aX pS) cH)<|aN (eK (iB<|iA<|fB (b8Z rfl) B0.b_all boot_all<|aA (fW (N':=["part"]) (cap:=[Qb]) rfl (eT (so:=aD sY) (NN:=["thing"]) rfl rfl<|by decide+kernel) (gL<|aC 0) rfl (λ_ _ _ _=>eA 0 nd1) (λ_ _ _ _=>gW)<|λ_ _ _ _=>(aU YD hr.m<|aA (aC 0) aE)) aE) (aR<|aX pS) cH)<|aR<|aX<|aU YF hr.m<|aA (aU Yk hr.m<|aA (aC 0) aE) aE)
abbrev a7r:Stmt:=xG (top 43) 3
noncomputable abbrev c0w:List Str:=["self","name","sheet","had"]
theorem a8W:FnScope c0w ["self","name","sheet"] (aD a7r):=fS
theorem c1M(D:MDef K "lay" a7r)(B0:Blt mg)(BC:BCls K)(XF:ExG cD K)(YE:sM P w K mg base)(YG:a0v P w K mg base)(YU:MethX P w K mg base "carry_out" 2 ["self","word","name","sheet"] (spO K bH)):MethX P w K mg base "lay" 5 ["self","name","sheet"] (spO K a1q):=by let⟨fa,fd,Fu,hm⟩:=D.ex;refine#[fa,fd,hm,Fu.binds (λ_ _ _ _ _ _ us hl=>by let⟨_,_,_,rfl⟩:=a5A hl;rfl),pQ 4 2 Fu a8W rfl rfl<|λcdv A outer s H E hr=>?_];exact(dC (lL<|eK (DW.dt<|yR (iB<|iA<|aU YE hr.m<|aA (aC 1) aE)<|rQ<|iB<|iA<|aU YG hr.m<|aA (aC 2) aE) (aR<|dZ XF.l rfl) cH)<|dC (lL<|cG 3 a8W.nd<|c4U 0 BC hr.units<|aC 1)<|dC (a3h<|gQ 0 BC YU hr.m<|aA aL<|aA (aC 1)<|aA (aC 2) aE)<|hV<|lL<|aX<|aC 3)
abbrev a3P:Stmt:=xG (top 43) 5
noncomputable abbrev b6W:List Str:=["self","name","sheet"]
theorem a6i:FnScope b6W ["self","name"] (aD a3P):=fS
theorem b8K(D:MDef K "take" a3P)(B0:Blt mg)(BC:BCls K)(XF:ExG cD K)(Ya:MethX P w K mg base "sheet_of" 2 ["self","name"] (spR K aJ))(YU:MethX P w K mg base "carry_out" 2 ["self","word","name","sheet"] (spO K bH)):MethX P w K mg base "take" 3 ["self","name"] (spO K sK):=by let⟨fa,fd,Fu,hm⟩:=D.ex;refine#[fa,fd,hm,Fu.binds (λ_ _ _ _ _ _ us hl=>by let⟨_,_,rfl⟩:=wX hl;rfl),pQ 3 1 Fu a6i rfl rfl<|λcdv A outer s H E hr=>?_];exact(dC (lL<|cG 2 a6i.nd<|oX 0 BC Ya hr.m<|aA (aC 1) aE)<|dC (a3h<|gQ 0 BC YU hr.m<|aA aL<|aA (aC 1)<|aA a8h aE)<|hV<|lL<|aX<|aC 2)
abbrev sX:Stmt:=top 57
noncomputable abbrev a0J:List Str:=["_law_binder","_law_deed_here"]
theorem b5Z:FnScope a0J ["_law_binder","_law_deed_here"] (aD sX):=fS
theorem c1O(D:Def K mg "_law_did" sX)(B0:Blt mg)(kb:K.In base)(nb:base.Ns j6 mg)(M:BM mg base)(ht:jk K "_law_did"=Qa (c,T))(hC:kO K c T=Qc)(BC:BCls K)(XF:ExG cD K)(YW:MethX P w K mg base "lay" 5 ["self","name","sheet"] (spO K a1q))(Yc:MethX P w K mg base "take" 3 ["self","name"] (spO K sK))(YQ:ToldOkR P w K mg base "_law_told" cD cJ)(YT:MethX P w K mg base "add" 5 ["self","name","label","begin","end"] (spO K yI))(YV:MethX P w K mg base "drop" 3 ["self","name","label"] (spO K sL))(Yb:MethX P w K mg base "shift" 6 ["self","name","by"] (spO K oC))(YX:MethX P w K mg base "merge" 5 ["self","name","other"] (spO K mD)):FunX P w K mg base "_law_did" 10 ["_law_binder","_law_deed_here"] (spO K a1s):=by
 let⟨fa,fd,Fu,hmg⟩:=D.ex;refine#[fa,fd,hmg,Fu.kp,Fu.binds (λ_ _ _ _ _ _ us hl=>by let⟨_,_,rfl⟩:=wX hl;rfl),b7O 2 1 Fu b5Z rfl rfl kb nb hmg ht<|λA outer s H E hr=>?_];have nd1:(["_law_binder","_law_deed_here"]:T0q).Nodup:=by decide+kernel
 have nd2:(["_law_binder","_law_deed_here"]:T0q).Nodup:=by decide+kernel
 have nd3:(["_law_binder","_law_deed_here"]:T0q).Nodup:=by decide+kernel
 have nd4:(["_law_binder","_law_deed_here"]:T0q).Nodup:=by decide+kernel
 exact(dC (b2O (a6q<|cA (b1x hr.units1) (cB (aC 1) aH)<|iC<|aA aL<|aA aL aE) (hV<|uY<|a3i (q:="_law_did") (k:=5) (N':=["_law_binder","_law_deed_here"]) (cap:=[Qa 0,Qa 1]) YQ (by unfold eZ;simp) ht rfl rfl hC M hr.m (eT (so:=aD sX) (NN:=a0J) rfl rfl<|by decide+kernel) (by decide+kernel)<|λf c cl A outer s H E hr=>(c2k (a6q<|cA (nQ hr.units) (cB (aC 1) aH) aL) (gQ 0 BC YW hr.m<|aA (cB (aC 1) aH)<|aA (cB (aC 1) aH) aE)<|gQ 0 BC Yc hr.m<|aA (cB (aC 1) aH) aE)) b1c)<|dC (b2O (a6q<|cA (nQ hr.units) (cB (aC 1) aH) aL) (hV<|uY<|a3i (q:="_law_did") (k:=5) (N':=["_law_binder","_law_deed_here"]) (cap:=[Qa 0,Qa 1]) YQ (by unfold eZ;simp) ht rfl rfl hC M hr.m (eT (so:=aD sX) (NN:=a0J) rfl rfl<|by decide+kernel) (by decide+kernel)<|λf c cl A outer s H E hr=>(gQ 0 BC YT hr.m<|aA (cB (aC 1) aH)<|aA (cB (aC 1) aH)<|aA (cB (aC 1) aH)<|aA (cB (aC 1) aH) aE)) b1c)<|dC (b2O (a6q<|cA (nQ hr.units) (cB (aC 1) aH) aL) (hV<|uY<|a3i (q:="_law_did") (k:=3) (N':=["_law_binder","_law_deed_here"]) (cap:=[Qa 0,Qa 1]) YQ (by unfold eZ;simp) ht rfl rfl hC M hr.m (eT (so:=aD sX) (NN:=a0J) rfl rfl<|by decide+kernel) (by decide+kernel)<|λf c cl A outer s H E hr=>(gQ 0 BC YV hr.m<|aA (cB (aC 1) aH)<|aA (cB (aC 1) aH) aE)) b1c)<|hV<|uY<|a3i (q:="_law_did") (k:=6) (N':=["_law_binder","_law_deed_here"]) (cap:=[Qa 0,Qa 1]) YQ (by unfold eZ;simp) ht rfl rfl hC M hr.m (eT (so:=aD sX) (NN:=a0J) rfl rfl<|by decide+kernel) (by decide+kernel)<|λf c cl A outer s H E hr=>(c2k (a6q<|cA (nQ hr.units) (cB (aC 1) aH) aL) (gQ 0 BC Yb hr.m<|aA (cB (aC 1) aH)<|aA (cB (aC 1) aH) aE)<|gQ 0 BC YX hr.m<|aA (cB (aC 1) aH)<|aA (cB (aC 1) aH) aE))
abbrev a3V:Stmt:=top 49
noncomputable abbrev b7b:List Str:=["_law_script","_law_k"]
theorem b4c:FnScope b7b ["_law_script","_law_k"] (aD a3V):=fS
theorem b8Q(D:Def K mg "_law_cell" a3V)(B0:Blt mg)(XF:ExG cD K):a5o P w K mg base:=by refine bV 2 2 D b4c rfl rfl (λ_ _ _ _ _ _ us hl=>by let⟨_,_,rfl⟩:=wX hl;rfl) (λfa cdv A outer s H E hr=>?_);exact(aN (eK (cA a6w (aC 1)<|fB rJ B0.b_len yr<|aA (aC 0) aE) (aR<|aX<|cB (aC 0)<|aC 1) cH)<|aN (eK (cA (nQ hr.units) (aC 0)<|iD aE) (aR<|aX aH) cH)<|aR<|aX<|aO aV (aO tH (cB (aC 0)<|aO rH (aC 1)<|fB rJ B0.b_len yr<|aA (aC 0) aE) aH)<|aC 1)
abbrev a3T:Stmt:=top 50
noncomputable abbrev b6Z:List Str:=["_law_script","_law_k","_law_many","_law_drawn"]
theorem a6j:FnScope b6Z ["_law_script","_law_k","_law_many"] (aD a3T):=fS
theorem b8O(D:Def K mg "_law_pick" a3T)(B0:Blt mg)(XF:ExG cD K)(YI:a5o P w K mg base):a1v P w K mg base:=by refine bV 4 3 D a6j rfl rfl (λ_ _ _ _ _ _ us hl=>by let⟨_,_,_,rfl⟩:=a5A hl;rfl) (λfa cdv A outer s H E hr=>?_);exact(aN (cG 3 a6j.nd<|aO rH (aO tH (aO aV (aU YI hr.m<|aA (aC 0)<|aA (aC 1) aE)<|aO tH aH<|aO aV (aC 1) aH) aH) aH)<|aR<|aX<|aO rH (aO rH (aO aV (aO tH (aC 3)<|aC 3)<|aO a4J (aC 3) aH) aH)<|aC 2)
abbrev a1J:Stmt:=top 51
noncomputable abbrev b4u:List Str:=["_law_script","_law_at","_law_most","_law_span","_law_names","_law_made_here","_law_k","_law_begin","_law_size"]
theorem iS:FnScope b4u ["_law_script","_law_at","_law_most"] (aD a1J):=fS
theorem b5o(D:Def K mg "_law_sheet" a1J)(B0:Blt mg)(XF:ExG cD K)(YM:a1v P w K mg base):a7a P w K mg base:=by refine bV 9 3 D iS rfl rfl (λ_ _ _ _ _ _ us hl=>by let⟨_,_,_,rfl⟩:=a5A hl;rfl) (λfa cdv A outer s H E hr=>?_);exact(aN (cG 3 iS.nd<|cB (iD<|aA aH<|aA aH<|aA aH<|aA aH aE)<|aU YM hr.m<|aA (aC 0)<|aA (aC 1)<|aA aH aE)<|aN (cG 4 iS.nd<|iD<|aA aL<|aA aL<|aA aL<|aA aL<|aA aL<|aA aL<|aA aL<|aA aL<|aA aL<|aA aL aE)<|aN (b1J 5 iS.nd aE)<|aN (a8g vB rfl (a3r B0.b_range<|aU YM hr.m<|aA (aC 0)<|aA (aO aV (aC 1) aH)<|aA (aO aV (aC 2) aH) aE) (eA 6 iS.nd)<|aN (cG 7 iS.nd<|aU YM hr.m<|aA (aC 0)<|aA (aO aV (aO aV (aC 1) aH)<|aO tH aH<|aC 6)<|aA (aC 3) aE)<|aN (cG 8 iS.nd<|aO aV aH<|aU YM hr.m<|aA (aC 0)<|aA (aO aV (aO aV (aC 1) aH)<|aO tH aH<|aC 6)<|aA (cB (iD<|aA aH<|aA aH<|aA (aC 3) aE)<|aU YM hr.m<|aA (aC 0)<|aA (aO aV (aO aV (aC 1) aH)<|aO tH aH<|aC 6)<|aA aH aE) aE)<|aR<|a4T 5<|iC<|aA (cB (aC 4)<|aC 6)<|aA (aC 7)<|aA (aO aV (aC 7)<|aC 8) aE)<|a8j 5<|aR<|aX<|lH uJ B0.b_tuple ya<|aA (aC 5) aE)
abbrev a3U:Stmt:=top 54
noncomputable abbrev b7a:List Str:=["_law_script","_law_at","_law_names","_law_labels","_law_name","_law_way","_law_label","_law_begin"]
theorem sB:FnScope b7a ["_law_script","_law_at"] (aD a3U):=fS
theorem b8P(D:Def K mg "_law_deed" a3U)(B0:Blt mg)(XF:ExG cD K)(YM:a1v P w K mg base)(YN:a7a P w K mg base):b0u P w K mg base:=by refine bV 8 2 D sB rfl rfl (λ_ _ _ _ _ _ us hl=>by let⟨_,_,rfl⟩:=wX hl;rfl) (λfa cdv A outer s H E hr=>?_);exact(aN (cG 2 sB.nd<|iD<|aA aL<|aA aL<|aA aL<|aA aL aE)<|aN (cG 3 sB.nd<|iD<|aA aL<|aA aL<|aA aL<|aA aL<|aA aL<|aA aL aE)<|aN (b8n 4 5 rfl sB.nd (by decide)<|aA (cB (aC 2)<|aU YM hr.m<|aA (aC 0)<|aA (aC 1)<|aA aH aE)<|aA (aU YM hr.m<|aA (aC 0)<|aA (aO aV (aC 1) aH)<|aA aH aE) aE)<|aN (eK (cA a6w (aC 5) aH) (aR<|aX<|iC<|aA aL<|aA (aC 4)<|aA (aU YN hr.m<|aA (aC 0)<|aA (aO aV (aC 1) aH)<|aA aH aE) aE) cH)<|aN (eK (cA (nQ hr.units) (aC 5) aH) (aR<|aX<|iC<|aA aL<|aA (aC 4) aE) cH)<|aN (b8n 6 7 rfl sB.nd (by decide)<|aA (cB (aC 3)<|aU YM hr.m<|aA (aC 0)<|aA (aO aV (aC 1) aH)<|aA aH aE)<|aA (aO b5Q (aU YM hr.m<|aA (aC 0)<|aA (aO aV (aC 1) aH)<|aA aH aE) aH) aE)<|aN (eK (cA a6w (aC 5) aH) (aR<|aX<|iC<|aA aL<|aA (aC 4)<|aA (aC 6)<|aA (aC 7)<|aA (aO aV (aC 7)<|aU YM hr.m<|aA (aC 0)<|aA (aO aV (aC 1) aH)<|aA aH aE) aE) cH)<|aN (eK (cA (nQ hr.units) (aC 5) aH) (aR<|aX<|iC<|aA aL<|aA (aC 4)<|aA (aC 6) aE) cH)<|aN (eK (cA (nQ hr.units) (aC 5) aH) (aR<|aX<|iC<|aA aL<|aA (aC 4)<|aA (aO b5Q (aU YM hr.m<|aA (aC 0)<|aA (aO aV (aC 1) aH)<|aA aH aE) aH) aE) cH)<|aR<|aX<|iC<|aA aL<|aA (aC 4)<|aA (cB (aC 2)<|aU YM hr.m<|aA (aC 0)<|aA (aO aV (aC 1) aH)<|aA aH aE) aE)
abbrev a0e:Stmt:=top 59
noncomputable abbrev b1i:List Str:=["_law_text","_law_cell_here","_law_signs","_law_at","_law_sign","_law_on","_law_way"]
theorem mP:FnScope b1i ["_law_text","_law_cell_here","_law_signs"] (aD a0e):=fS
theorem b1T(D:Def K mg "_law_spoilt" a0e)(B0:Blt mg)(XF:ExG cD K):a5n P w K mg base:=by refine bV 7 3 D mP rfl rfl (λ_ _ _ _ _ _ us hl=>by let⟨_,_,_,rfl⟩:=a5A hl;rfl) (λfa cdv A outer s H E hr=>?_);exact(aN (cG 3 mP.nd<|aO rH (aC 1)<|aO aV (fB rJ B0.b_len yr<|aA (aC 0) aE) aH)<|aN (cG 4 mP.nd<|cB (aC 2)<|aO rH (aO a4J (aC 1) aH)<|fB rJ B0.b_len yr<|aA (aC 2) aE)<|aN (cG 5 mP.nd<|aO aV (aO aV (aC 3) aH)<|aO rH (aO a4J (aC 1) aH) aH)<|aN (cG 6 mP.nd<|aO rH (aO a4J (aC 1) aH) aH)<|aN (eK (cA a6w (aC 6) aH) (aR<|aX<|aO aV (aO aV (nK (aC 0) dH<|cQ<|aC 3)<|aC 4)<|nK (aC 0) (cQ<|aC 3) dH) cH)<|aN (eK (cA (nQ hr.units) (aC 6) aH) (aR<|aX<|aO aV (nK (aC 0) dH<|cQ<|aC 3)<|nK (aC 0) (cQ<|aO aV (aC 3) aH) dH) cH)<|aN (eK (cA a6w (aC 6) aH) (aR<|aX<|aO aV (aO aV (nK (aC 0) dH<|cQ<|aC 3)<|aC 4)<|nK (aC 0) (cQ<|aO aV (aC 3) aH) dH) cH)<|aN (eK (cA (nQ hr.units) (aC 6) aH) (aR<|aX<|aO aV (nK (aC 0) dH<|cQ<|aC 3)<|nK (aC 0) (cQ<|aC 5) dH) cH)<|aN (eK (cA (nQ hr.units) (aC 6) aH) (aR<|aX<|aO aV (nK (aC 0) dH<|cQ<|aC 5)<|nK (aC 0) (cQ<|aC 3) dH) cH)<|aR<|aX<|cB (iD<|aA (aO aV (aC 0) aL)<|aA (aO aV aL<|aC 0)<|aA (aO aV (nK (aC 0) (cQ<|aC 3) dH)<|nK (aC 0) dH<|cQ<|aC 3)<|aA aL<|aA (aO aV (aC 0)<|aC 0) aE)<|aO rH (aC 1) aH)
abbrev a0F:Stmt:=top 40
noncomputable abbrev a9y:List Str:=["line","moments","parts"]
theorem a6h:FnScope a9y ["line","moments"] (aD a0F):=fS
theorem b8J(D:Def K mg "row_of" a0F)(B0:Blt mg)(XF:ExG cD K):b0s P w K mg base:=by
 refine bV 3 2 D a6h rfl rfl (λ_ _ _ _ _ _ us hl=>by let⟨_,_,rfl⟩:=wX hl;rfl) (λfa cdv A outer s H E hr=>?_);have nd1:(["part","moments"]:T0q).Nodup:=by decide+kernel
 exact(aN (cG 2 a6h.nd<|a1a (aC 0) aL)<|aR<|aX<|lH uJ B0.b_tuple ya<|aA (aO aV (xF (aC 2) dH<|cQ aH)<|fW (N':=["part","moments"]) (cap:=[Qb,Qa 1]) rfl (eT (so:=aD a0F) (NN:=a9y) rfl rfl<|by decide+kernel) (gL<|xF (aC 2) (cQ aH) dH) rfl (λ_ _ _ _=>eA 0 nd1) (λ_ _ _ _=>gW)<|λ_ _ _ _=>(c1s hr.units (aC 1)<|aC 0)) aE)
abbrev a0G:Stmt:=top 41
noncomputable abbrev a7F:List Str:=["text","moments","lines","sheet"]
theorem a0E:FnScope a7F ["text"] (aD a0G):=fS
theorem c1K(D:Def K mg "read" a0G)(B0:Blt mg)(XF:ExG cD K)(Yh:rX P w K mg base)(Yo:b0s P w K mg base)(YG:a0v P w K mg base):b3C P w K mg base:=by
 refine eN 4 1 D a0E rfl rfl (λ_ _ _ _ _ _ us hl=>by let⟨_,rfl⟩:=tJ hl;rfl) (λfa cdv A outer s H E hr=>?_);have nd1:(["moment"]:T0q).Nodup:=by decide+kernel
 have nd2:(["line","moments"]:T0q).Nodup:=by decide+kernel
 exact(aN (eK (iB<|iA<|lZ B0.b_isinstance B0.b_str boot_str<|aC 0) (aR<|dZ XF.l rfl) cH)<|aN (cG 1 a0E.nd<|lH (c1n rfl) B0.b_dict boot_dict<|aA (fW (N':=["moment"]) (cap:=[Qb]) rfl (eT (so:=aD a0G) (NN:=a7F) rfl rfl<|by decide+kernel) (a3r B0.b_range<|aO aV (mX rfl<|B0.k_LAST_END) aH) rfl (λ_ _ _ _=>eA 0 nd1) (λ_ _ _ _=>gW)<|λ_ _ _ _=>(iC<|aA (aU Yh hr.m<|aA (aC 0) aE)<|aA (aC 0) aE)) aE)<|aN (cG 2 a0E.nd<|a1a (aC 0) aL)<|aN (cG 3 a0E.nd<|lH uJ B0.b_tuple ya<|aA (fW (N':=["line","moments"]) (cap:=[Qb,Qa 1]) rfl (eT (so:=aD a0G) (NN:=a7F) rfl rfl<|by decide+kernel) (gL<|xF (aC 2) dH<|cQ<|b1N aH) rfl (λ_ _ _ _=>eA 0 nd2) (λ_ _ _ _=>gW)<|λ_ _ _ _=>(aU Yo hr.m<|aA (aC 0)<|aA (aC 1) aE)) aE)<|aN (eK (DW.dt<|yR (cA (a2E hr.units) (cB (aC 2)<|b1N aH) aL)<|rQ<|iB<|iA<|aU YG hr.m<|aA (aC 3) aE) (aR<|dZ XF.l rfl) cH)<|aR<|aX<|aC 3)
abbrev oI:Stmt:=top 46
theorem tS:FnScope ["text","parts"] ["text"] (aD oI):=fS
theorem a5c(D:Def K mg "named_sheet" oI)(B0:Blt mg)(XF:ExG cD K)(YE:sM P w K mg base)(Yl:b3C P w K mg base):xM P w K mg base:=by refine eN 2 1 D tS rfl rfl (λ_ _ _ _ _ _ us hl=>by let⟨_,rfl⟩:=tJ hl;rfl) (λfa cdv A outer s H E hr=>?_);exact(aN (cG 1 tS.nd<|c1p (aC 0) aL)<|aN (eK (DW.dt<|yR (iB<|iA<|aU YE hr.m<|aA (cB (aC 1) aH) aE)<|rQ<|cA (nQ hr.units) (cB (aC 1) aH) aL) (aR<|dZ XF.l rfl) cH)<|aR<|aX<|iC<|aA (cB (aC 1) aH)<|aA (gB Yl hr.m<|aA (cB (aC 1) aH) aE) aE)
abbrev gJ:Stmt:=top 47
noncomputable abbrev oQ:List Str:=["text","parts","rows","binder"]
theorem iK:FnScope oQ ["text"] (aD gJ):=fS
theorem a5b(D:Def K mg "read_binder" gJ)(B0:Blt mg)(BC:BCls K)(Yg:BMk P w K mg base 1)(XF:ExG cD K)(YF:xN P w K mg base)(Yi:xM P w K mg base):FunX P w K mg base "read_binder" 7 ["text"] (spN K aQ):=by
 refine b7K 4 1 D iK rfl rfl (λ_ _ _ _ _ _ us hl=>by let⟨_,rfl⟩:=tJ hl;rfl) (λfa cdv A outer s H E hr=>?_);have nd1:(["name","sheet"]:T0q).Nodup:=by decide+kernel
 have nd2:(["part"]:T0q).Nodup:=by decide+kernel
 exact(a3j (eK (iB<|iA<|lZ B0.b_isinstance B0.b_str boot_str<|aC 0) (aR<|dZ XF.l rfl) cH)<|a3j (cG 1 iK.nd<|a1a (aC 0) aL)<|a3j (b8l 2 iK.nd (N':=["part"]) (cap:=[Qb]) rfl rfl rfl (eT (so:=aD gJ) (NN:=oQ) rfl rfl<|by decide+kernel) (gL<|xF (aC 1) (cQ aH) dH) rfl (λ_ _ _ _=>eA 0 nd2) (λ_ _ _ _=>gW)<|λ_ _ _ _ _=>(gB Yi hr.m<|aA (aC 0) aE))<|a3j (eK (DW.dt<|yR (cA (a2E hr.units) (cB (aC 1) aH) aL)<|rQ<|iB<|iA<|aU YF hr.m<|aA (fW (N':=["name","sheet"]) (cap:=[Qb,Qb]) rfl (eT (so:=aD gJ) (NN:=oQ) rfl rfl<|by decide+kernel) (gL<|aC 2) rfl (λ_ _ _ _=>(b8v rfl<|xB 0 nd1<|xB 1 nd1 b3n)) (λ_ _ _ _=>gW)<|λ_ _ _ _=>aC 0) aE) (aR<|dZ XF.l rfl) cH)<|c0t 3 2 rfl iK.nd BC Yg hr.m B0.b_dict)
abbrev tT:Stmt:=top 60
noncomputable abbrev b2S:List Str:=["_law_script","_law_binder","_law_k","_law_text","_law_rows","_law_some","_law_cell_here","_law_at","_law_two","_law_one","_law_told_here","_law_good","_law_bad"]
theorem lT:FnScope b2S ["_law_script"] (aD tT):=fS
theorem c6L(Fu:Fun K "law" "law" tT fa fd)(B0:Blt mg)(kb:K.In base)(nb:base.Ns j6 mg)(M:BM mg base)(hmg:mg "law"=Qa (.ref fa))(ht:jk K "law"=Qa (c,T))(hC:kO K c T=Qc)(BC:BCls K)(Yg:BMk P w K mg base 1)(XF:ExG cD K)(YK:b0u P w K mg base)(YL:FunX P w K mg base "_law_did" 10 ["_law_binder","_law_deed_here"] (spO K a1s))(YB:FunX P w K mg base "binder_text" 6 ["binder"] (spR K bZ))(YI:a5o P w K mg base)(YM:a1v P w K mg base)(YO:a5n P w K mg base)(Ym:FunX P w K mg base "read_binder" 7 ["text"] (spN K aQ))(YQ:ToldOkR P w K mg base "_law_told" cD cJ):FnOk P w K mg base CX0 11 fa fd ["_law_script"] (spD K λO d=>F_law O=Qa (.ok d)):=by
 refine b7N 13 1 Fu lT rfl rfl kb nb hmg ht (λA outer s H E hr=>?_);have nd1:(["_law_one"]:T0q).Nodup:=by decide+kernel
 have nd2:(["_law_one"]:T0q).Nodup:=by decide+kernel
 have nd3:(["_law_one"]:T0q).Nodup:=by decide+kernel
 have nd4:(["_law_one"]:T0q).Nodup:=by decide+kernel
 exact(c3U 1 lT.nd Yg hr.m<|dC (c3J vB rfl (a3r B0.b_range aH) (eA 2 lT.nd)<|hV<|a3h<|b6L 1 YL hr.m<|aA (aU YK hr.m<|aA (aC 0)<|aA (aO aV aH<|aO tH aH<|aC 2) aE) aE)<|dC (lL<|cG 3 lT.nd<|b0e 1 YB hr.m aE)<|dC (lL<|c1m 4 5 rfl lT.nd (by decide) (a1a (aC 3) aL)<|aA (aC 3) aE)<|dC (lL<|a8g vB rfl (a3r B0.b_range aH) (eA 2 lT.nd)<|aN (cG 6 lT.nd<|aO aV (aO tH (aU YI hr.m<|aA (aC 0)<|aA (aO aV aH<|aC 2) aE) aH)<|aU YM hr.m<|aA (aC 0)<|aA (aO aV aH<|aC 2)<|aA aH aE)<|aN (a4T 5<|aU YO hr.m<|aA (aC 3)<|aA (aC 6)<|aA aL aE)<|aN (cG 7 lT.nd<|aU YM hr.m<|aA (aC 0)<|aA (aO aV aH<|aC 2)<|aA (fB rJ B0.b_len yr<|aA (aC 4) aE) aE)<|aN (cG 8 lT.nd<|xF (aC 4) (cQ<|aC 7)<|cQ<|aO aV (aC 7) aH)<|aN (a4T 5<|a1b aL<|aO aV (xF (aC 4) dH<|cQ<|aC 7)<|xF (aC 4) (cQ<|aO aV (aC 7) aH) dH)<|aN (a4T 5<|a1b aL<|aO aV (xF (aC 4) dH<|cQ<|aO aV (aC 7) aH)<|xF (aC 4) (cQ<|aC 7) dH)<|aR<|a4T 5<|a1b aL<|aO aV (aO aV (xF (aC 4) dH<|cQ<|aC 7)<|c4P<|aC 8)<|xF (aC 4) (cQ<|aO aV (aC 7) aH) dH)<|b6M 5<|dC (lL<|a8g vB rfl (gL<|aC 5) (eA 9 lT.nd)<|aN (cG 10 lT.nd<|b3r (q:="law") (k:=7) (N':=["_law_one"]) (cap:=[Qa 9]) (ToldOkR.plain YQ) (by unfold eZ;simp) ht rfl rfl hC M hr.m (eT (so:=aD tT) (NN:=b2S) rfl rfl<|by decide+kernel) (by decide+kernel)<|λf c cl A outer s H E hr=>(c2y YB Ym hr.m hr.m<|aA (aC 0) aE))<|aR<|eK (DW.dt<|b8j (cA (a2E hr.units) (aC 10)<|aC 9)<|b3j<|DW.dt<|yR (cA (a2E hr.units) (aC 10) aL)<|rQ<|cA (nQ hr.units) (aC 9)<|aC 3) (aR<|aX pS) cH)<|dC (lL<|cG 11 lT.nd<|iD<|aA aL<|aA aL<|aA aL<|aA aL aE)<|dC (lL<|eK (cA (a2E hr.units) (fW (N':=["_law_one"]) (cap:=[Qb]) rfl (eT (so:=aD tT) (NN:=b2S) rfl rfl<|by decide+kernel) (gL<|aC 11) rfl (λ_ _ _ _=>eA 0 nd2) (λ_ _ _ _=>gW)<|λ_ _ _ _=>(c2y YB Ym hr.m hr.m<|aA (aC 0) aE))<|aC 11) (aR<|aX pS) cH)<|dC (lL<|b1J 12 lT.nd<|aA aL<|aA aL<|aA aL<|aA aL<|aA aL<|aA aL<|aA aL aE)<|dC (lL<|a0X 12<|iD<|aA aL<|aA aL<|aA aL<|aA aL aE)<|dC (lL<|a0X 12<|iD<|aA aL<|aA aL<|aA aL<|aA aL<|aA aL aE)<|dC (lL<|a0X 12<|iD<|aA aL<|aA a8h<|aA aH aE)<|dC (lL<|a0X 12<|iD<|aA (iC<|aA aL aE)<|aA aL<|aA aL<|aA aL<|aA aL<|aA aL aE)<|b6M 12<|hV<|lL<|aX<|b8C (nQ hr.units) (fW (N':=["_law_one"]) (cap:=[Qb]) rfl (eT (so:=aD tT) (NN:=b2S) rfl rfl<|by decide+kernel) (gL<|aC 12) rfl (λ_ _ _ _=>eA 0 nd3) (λ_ _ _ _=>gW)<|λ_ _ _ _=>(b3r (q:="law") (k:=7) (N':=["_law_one"]) (cap:=[Qa 0]) (ToldOkR.plain YQ) (by unfold eZ;simp) ht rfl rfl hC M hr.m (eT (NN:=["_law_one"]) rfl rfl<|by kernel_rfl) (by decide+kernel)<|λf c cl A outer s H E hr=>(c4R Ym hr.m<|aA (aC 0) aE)))<|c4Q (aA aL aE) aH)
end
theorem blt_mk{K:qB}{h:Heap}{t0:Tok}{t1:Tok}{t2:Tok}{t3:Tok}(X:K.In h)(G:h.Ns j6 mg)(z0:jF K j6 "ValueError"=Qa Qb)(z1:jF K j6 "all"=Qa Qb)(z2:jF K j6 "bool"=Qa Qb)(z3:jF K j6 "dict"=Qa Qb)(z4:jF K j6 "int"=Qa Qb)(z5:jF K j6 "isinstance"=Qa Qb)(z6:jF K j6 "len"=Qa Qb)(z7:jF K j6 "range"=Qa Qb)(z8:jF K j6 "set"=Qa Qb)(z9:jF K j6 "sorted"=Qa Qb)(z10:jF K j6 "str"=Qa Qb)(z11:jF K j6 "tuple"=Qa Qb)(y0:jF K j6 "DAY"=Qa (Qa<|.int 48 t0))(y1:jF K j6 "LAST_END"=Qa (Qa<|.int 480 t1))(y2:jF K j6 "LONGEST_NAME"=Qa (Qa<|.int 4 t2))(y3:jF K j6 "MOST_MEETINGS"=Qa (Qa<|.int 16 t3)):Blt mg:=#[jP X G z0,jP X G z1,jP X G z2,jP X G z3,jP X G z4,jP X G z5,jP X G z6,jP X G z7,jP X G z8,jP X G z9,jP X G z10,jP X G z11,#[_,kR X G y0],#[_,kR X G y1],#[_,kR X G y2],#[_,kR X G y3]]
theorem law_mk{l:PySem.W.OpenLaw}{K:qB}{h:Heap}{f4:Addr}(X:K.In h)(G:h.Ns j6 mg)(hfa:mg "law"=Qa (.ref fa)){od4 an4:T0k}{sl4:Array (Option Value)}{oc4 kV4 dc4 pm4 cd4 ct4:Value}(B0:Blt mg)(XF:ExG cD K)(D0:Def K mg "day_of" a3W)(D1:Def K mg "moment_text" pZ)(D2:Def K mg "line_of" a1I)(D3:Def K mg "written" xS)(D4:Def K mg "is_name" xU)(D5:MDef K "sheet_of" sW)(D6:Def K mg "sheet_text" sS)(D7:MDef K "names" a1G)(D8:Def K mg "binder_text" mI)(D9:Def K mg "_law_class" a1K)(D10:Def K mg "_law_told" a3S)(D11:MDef K "put" a7q)(D12:MDef K "carry_out" rD)(D13:Def K mg "is_whole" a0f)(D14:Def K mg "are_times" uV)(D15:Def K mg "refuse_wrong_times" gD)(D16:Def K mg "names_of" sU)(D17:Def K mg "with_meeting" nE)(D18:MDef K "add" a7s)(D19:Def K mg "meeting_of" rB)(D20:Def K mg "without_meeting" fT)(D21:MDef K "drop" a3Q)(D22:Def K mg "meeting_at" rC)(D23:Def K mg "later" a3R)(D24:Def K mg "shifted" sR)(D25:MDef K "shift" a1F)(D26:Def K mg "names_alone" mH)(D27:Def K mg "unlike_names" iZ)(D28:Def K mg "merged" xT)(D29:MDef K "merge" a1H)(D30:Def K mg "is_rising" uU)(D31:Def K mg "is_meeting" sZ)(D32:Def K mg "is_sheet" sY)(D33:MDef K "lay" a7r)(D34:MDef K "take" a3P)(D35:Def K mg "_law_did" sX)(D36:Def K mg "_law_cell" a3V)(D37:Def K mg "_law_pick" a3T)(D38:Def K mg "_law_sheet" a1J)(D39:Def K mg "_law_deed" a3U)(D40:Def K mg "_law_spoilt" a0e)(D41:Def K mg "row_of" a0F)(D42:Def K mg "read" a0G)(D43:Def K mg "named_sheet" oI)(D44:Def K mg "read_binder" gJ)(BC:BCls K)(BI:BIn K a8Z)(tb0:jk K "_law_did"=Qa (470,466))(hC0:kO K 470 466=Qc)(tb1:jk K "law"=Qa (487,485))(hC1:kO K 487 485=Qc)(a4:jF K j6 "law"=Qa (Qa<|.ref f4))(l4:K.lookup f4=Qa #[oc4,od4,.func<|jY "law" "law" (fV tT) (bU tT) (aD tT) .none kV4 dc4 pm4 an4 cd4 ct4,sl4])(c4:kz K cd4 "law"=Qc)(k4:jQ K (.ref f4)=Qc):∃fd:wj,(∀(s:Shared)(v:Value),BindsTo s fd #[[v],[]] [("_law_script",v)])/\∀base:Heap,K.In base->base.Ns j6 mg->BM mg base->FnOk l.prog w K mg base CX0 11 fa fd ["_law_script"] (spD K λO d=>F_law O=Qa (.ok d)):=by have e:=hfa.symm.trans<|kR X G a4;cases e;refine#[jY "law" "law" (fV tT) (bU tT) (aD tT) .none kV4 dc4 pm4 an4 cd4 ct4,λs v=>.of_eq rfl,λbase kb nb M=>?_];have Yg:BMk l.prog w K mg base 1:=c1P X G BC BI b3Y rfl rfl (λ_ _ _ _ _ _ us hl=>by let⟨_,rfl⟩:=tJ hl;rfl);have YC:=b8R l.prog w base D0 B0 XF;have Yh:=a5J l.prog w base D1 B0 XF YC;have YS:=b5n l.prog w base D2 B0 XF Yh;have Yu:=b5i l.prog w base D3 B0 XF YS;have YE:=b5q l.prog w base D4 B0 XF;have Ya:=a8u l.prog w base D5 B0 BC XF YE;have Yp:=a8t l.prog w base D6 B0 BC XF Ya Yu;have YY:=b5l l.prog w base D7 B0 BC XF;have YB:=a5N l.prog w base D8 B0 BC XF YY Yp;have YJ:=b5p l.prog w base D9 B0 XF;have YQ:=b8N l.prog w base D10 B0 XF YJ;have YZ:=c1L l.prog w base D11 B0 BC XF;have YU:=a5M l.prog w base D12 B0 BC XF YZ;have YH:=b1U l.prog w base D13 B0 XF;have YA:=b0n l.prog w base D14 B0 XF YH;have Yn:=uH l.prog w base D15 B0 XF YA;have Yk:=b1S l.prog w base D16 B0 XF;have Ys:=a3b l.prog w base D17 B0 XF Yk Yn;have YT:=c1N l.prog w base D18 B0 BC XF YU Ya Ys;have Ye:=a5K l.prog w base D19 B0 XF;have Yt:=a0r l.prog w base D20 B0 XF Ye;have YV:=b8L l.prog w base D21 B0 BC XF YU Ya Yt;have Yd:=a5L l.prog w base D22 B0 XF Yn;have YR:=b8M l.prog w base D23 B0 XF YH;have Yq:=b1R l.prog w base D24 B0 XF YR Yd;have Yb:=b5k l.prog w base D25 B0 BC XF YU Ya Yq;have Yj:=a5I l.prog w base D26 B0 XF Yk;have Yr:=a5a l.prog w base D27 B0 XF Yk Yj;have Yf:=b5j l.prog w base D28 B0 XF Yr;have YX:=b5m l.prog w base D29 B0 BC XF YU Ya Yf;have YF:=b0m l.prog w base D30 B0 XF;have YD:=a8v l.prog w base D31 B0 XF YE YA;have YG:=b1V l.prog w base D32 B0 XF YD Yk YF;have YW:=c1M l.prog w base D33 B0 BC XF YE YG YU;have Yc:=b8K l.prog w base D34 B0 BC XF Ya YU;have YL:=c1O l.prog w base D35 B0 kb nb M tb0 hC0 BC XF YW Yc YQ YT YV Yb YX;have YI:=b8Q l.prog w base D36 B0 XF;have YM:=b8O l.prog w base D37 B0 XF YI;have YN:=b5o l.prog w base D38 B0 XF YM;have YK:=b8P l.prog w base D39 B0 XF YM YN;have YO:=b1T l.prog w base D40 B0 XF;have Yo:=b8J l.prog w base D41 B0 XF;have Yl:=c1K l.prog w base D42 B0 XF Yh Yo YG;have Yi:=a5c l.prog w base D43 B0 XF YE Yl;have Ym:=a5b l.prog w base D44 B0 BC Yg XF YF Yi;exact c6L l.prog w base (a7Z (st:=tT) l4 c4 k4) B0 kb nb M hfa tb1 hC1 BC Yg XF YK YL YB YI YM YO Ym YQ
end L2.L3
open PySem PySem.W PyProof.Rows
structure PySem.W.Fast:Prop where(tw8554648646328946393 tw1734323728086835153 tw5438845827054661290 tw7063625348401243050 tw1911901993265625388 tw8331170237379716809 tw13290505891748605648 tw2559690675165565652 tw4487939285300826694 tw3074855226178757184 tw594267708706082771 tw16194579581545080593 tw15190858305242571273 tw2853549370734026310 tw12239916305055154746 tw5967421317014486178 tw12667009301001371433 tw5933531415260152287 tw9416751573158232657 tw11665633241140169862 tw2420340657105678648 tw11612635183609816249 tw7983957021871423228 tw16914603095688754317 tw18373634615439800487 tw10035732790062796477 tw13512751879257262760 tw11791464444044123873 tw2349363581318078301 tw4058029658199578942 tw10648196188867856720 tw5586603650487157890 tw549650762557945563 tw4997157809268238 tw13159863696062393995 tw17836727666840446928 tw1655535090747985310 tw2841685396092266589 tw9729758169701257640 tw8646742092306377478 tw846330716968614959 tw7908726999117009733 tw4108946240615612423 tw13590928147537311132 tw8791042117340493560 tw3740321679265458984 tw3385206902661105931 tw11816008323158625785 tw16011342441974912866 tw11371575185134272066 tw9520854323753095073 tw8299465473318527947 tw7006678116161276873 tw2976315756593635922 tw1537175230211182145 tw6888602858315779473 tw11295525271338261269 tw14500692332352993704 tw14670347983363203534 tw17868860759730651366 tw2911151027667228890 tw1033190217195614014 tw16016520936696764872 tw16921033442537716169 tw18170889946796472769 tw16303092333772351069 tw16386956841421491486 tw15105853902669958086 tw13464574008294553301 tw7545811849991564645 tw18370004595441308872 tw16429056076795543943 tw9899116405662893956 tw6868448782120697326 tw11260487665875094766 tw13670021680579145519 tw5814354479807412152 tw11831193781015107722 tw8340981814023882393 tw11133159347842596279 tw7236733980519107358 tw10164464952057102527 tw16424930484102672173 tw3630111326071487324 tw10700493823766499532 tw8872215354701396173 tw4091957516545138727 tw11251207199865336157 tw18063498001220421821 tw11208742831790201415 tw11060115974105313075 tw6062691784092188235 tw14388120982690883767 tw7037067332119397206 tw12699480221169855042 tw7519618783604175308 tw14934224315538437119 tw15751239003702212412 tw3872685851467250383 tw14330440470254968725 tw13473675601079925486 tw2042266915498821184 tw18445043647029028516 tw1142273626405574669 tw11038824886552745682 tw4220920071930240727 tw1899479267352358090 tw12816740480086257229:True)
set_option maxRecDepth 100000 in
set_option maxHeartbeats 0 in
theorem PySem.Challenge.cw_daysheet_k86_whole_binder_texts_spoilt_holds : PySem.Challenge.rw_daysheet_k86_whole_binder_texts_spoilt.Holds := by
 w_on;o_law;k_head;(case hw=>w_witness2);k_fill;refine L2.L3.walkL (l:=zW) (k:=11) (F:=L2.L3.F_law) (x:="_law_script") [(466,L2.L3.lamQ "_law_did"),(485,L2.L3.lamQ "law")] rfl rfl ⟨rfl,by decide,by decide⟩ (λw h Y0=>PySem.W.km_in_of Y0) (λw h Y0=>PySem.W.km_tabs_of Y0) ?cd ?ts ?F (λns hl=>L2.L3.e_law ns hl);case cd=>exactλw=>L2.L3.all_cons ⟨⟨470,by kernel_rfl⟩,by kernel_rfl⟩ (L2.L3.all_cons ⟨⟨487,by kernel_rfl⟩,by kernel_rfl⟩ (λ_ h=>nomatch h))
 case ts=>exactλw=>L2.L3.lam_all (by kernel_rfl)
 case F=>intro w mg fa h KX G hmg;refine' L2.L3.law_mk KX G hmg ?B0 ?XF ?D0 ?D1 ?D2 ?D3 ?D4 ?D5 ?D6 ?D7 ?D8 ?D9 ?D10 ?D11 ?D12 ?D13 ?D14 ?D15 ?D16 ?D17 ?D18 ?D19 ?D20 ?D21 ?D22 ?D23 ?D24 ?D25 ?D26 ?D27 ?D28 ?D29 ?D30 ?D31 ?D32 ?D33 ?D34 ?D35 ?D36 ?D37 ?D38 ?D39 ?D40 ?D41 ?D42 ?D43 ?D44 ?BC ?BI ?tb0 ?hC0 ?tb1 ?hC1 ?a4 ?l4 ?c4 ?k4;(case XF=>exact⟨by kernel_rfl⟩);(case tb0=>kernel_rfl);(case hC0=>kernel_rfl);(case tb1=>kernel_rfl);(case hC1=>kernel_rfl);(case a4=>k_is);(case l4=>k_is);(case c4=>k_is);(case k4=>k_is);(case B0=>(refine' L2.L3.blt_mk KX G ?z0 ?z1 ?z2 ?z3 ?z4 ?z5 ?z6 ?z7 ?z8 ?z9 ?z10 ?z11 ?y0 ?y1 ?y2 ?y3;(case z0=>k_is);(case z1=>k_is);(case z2=>k_is);(case z3=>k_is);(case z4=>k_is);(case z5=>k_is);(case z6=>k_is);(case z7=>k_is);(case z8=>k_is);(case z9=>k_is);(case z10=>k_is);(case z11=>k_is);(case y0=>k_is);(case y1=>k_is);(case y2=>k_is);(case y3=>k_is)));(case BC=>(refine' L2.L3.bcls_mk ?a0 ?c1 ?c2 ?c3 ?c4 ?n1 ?n2 ?n3;(case a0=>k_is);(case c1=>k_is);(case c2=>k_is);(case c3=>k_is);(case c4=>k_is);(case n1=>k_is);(case n2=>k_is);(case n3=>k_is)));(case BI=>(refine' L2.L3.bin_mk ?a0 ?k1 ?k2 ?k3 ?k4 ?l ?c ?k;(case a0=>k_is);(case k1=>k_is);(case k2=>k_is);(case k3=>k_is);(case k4=>k_is);(case l=>k_is);(case c=>k_is);(case k=>k_is)));(case D0|D1|D2|D3|D4|D6|D8|D9|D10|D13|D14|D15|D16|D17|D19|D20|D22|D23|D24|D26|D27|D28|D30|D31|D32|D35|D36|D37|D38|D39|D40|D41|D42|D43|D44=>(refine' L2.L3.def_mk KX G ?a ?l ?c ?k;(case a=>k_is);(case l=>k_is);(case c=>k_is);(case k=>k_is)));(case D5|D7|D11|D12|D18|D21|D25|D29|D33|D34=>(refine' L2.L3.mdef_mk ?a0 ?a ?i ?l ?c ?k;(case a0=>k_is);(case a=>k_is);(case i=>k_is);(case l=>k_is);(case c=>k_is);(case k=>k_is)));
