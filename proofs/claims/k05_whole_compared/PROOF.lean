import PyProof.Rows.All
import Wide.All
import OpenK.AllK
import Wide.FinOn
import Lean
import PyProof.EqAt
import PyProof.EqKinds
import PyProof.TupleCall
import PySem.Challenge.RW_daysheet_k05_whole_compared
set_option Elab.async false
set_option linter.all false
set_option maxRecDepth 100000
set_option maxHeartbeats 4000000
open Option.some renaming inj→qA
open PySem.W renaming Frag→qB,mg_none_of→qb,nsIn→qp,kia_one→jJ,fnOf→jd,tabIn→jq,keepIn→ju,subIn→kO,mg_of→kP,cellsFrom_some→kj,kitOne→zG,codeHdIn→zI,hideAll_none→zL,callWith_K→zY,findIn→zi,codeIn→zj,hideAll→vH,tabObj→vT,hideAll_get→vU,of_hideAll→vc,codeRec_of→vd,methodObj→vk,kitx_list→vm
open PySem.Heap renaming get?_push_of_some→qC,lt_size→qH,get?_push_size→qI,size_push→qz,get?_update_other→jB,get?_update_self→jj,get?_update_ne→kI,SameBut→km,get?_none_of_le→zc
open List renaming length_map→qD,mem_cons_of_mem→qE,mem_cons→qF,map_cons→qG,size_toArray→qL,getElem?_eq_getElem→qM,getElem?_map→qP,getElem?_eq_some_iff→qS,mem_cons_self→qT,mem_map→qU,map_map→qV,getElem?_eq_none→qY,pairwise_cons→qc,range→qd,not_mem_nil→qe,mem_singleton→qf,filter_cons_of_pos→qg,length_cons→qi,map_append→qj,getElem?_set_ne→qk,mem_append_right→qm,filter_cons_of_neg→qo,getElem?_toArray→qt,mem_filter→qv,getD_eq_getElem?_getD→qx,length_append→jA,mem_append→jE,lookup_cons→jF,foldl_cons→jG,getElem?_append_left→jL,getElem_mem→jM,all_eq_true→jN,mem_map_of_mem→jP,map_congr_left→jQ,nodup_cons→jV,getElem?_append_right→jW,ext_getElem?→ja,length_take→ji,any_cons→jk,pairwise_map→jl,length_range→jm,mem_append_left→jw,getElem?_take_of_lt→jy,getElem?_replicate→kC,getElem?_set_self→kD,length_filter_le→kJ,find?_cons→kK,append_nil→kM,mem_of_getElem?→kR,mem_range→kS,getElem?_range→kT,take_of_length_le→kl,reverse_cons→kr,nodup_append→kt,getElem?_set→ku,filter_congr→ky,append_assoc→kz,replicate→zH,filter_cons→zJ,mem_of_mem_take→zM,mem_iff_getElem→zN,sum_cons→zS,of_mem_zip→zT,nil_append→zU,length→zV,perm_ext_iff_of_nodup→zX,lookup_append→zZ,getElem?_zip_eq_some→zm,take_sublist→zr,getD→zt,pairwise_mergeSort→zy,all_cons→zz,length_drop→vC,filter_eq_nil_iff→vE,filter_map→vK,toList_toArray→vV,mergeSort_perm→vW,filter_sublist→vX,filterMap_cons→vY,mem_filterMap→ve,getElem?_drop→vf,foldl_append→vo,eraseIdx_eq_take_drop_succ→vp,take_length→wB,ext_getElem→wC
open Bool renaming and_eq_true→qJ,false_ne_true→qX,not_eq_true'→jz,false_eq_true→kG,eq_iff_iff→kN,noConfusion→zK,or_eq_true→vP,or_false→vi
open Option renaming map_eq_some_iff→qK,isSome_map→vn
open Nat renaming le_refl→qN,lt_of_lt_of_le→qR,ne_of_lt→qW,le_trans→ql,le_of_lt→qr,ne_of_gt→jK,lt_irrefl→jU,lt_succ_of_lt→jZ,zero_le→jn,le_succ→kB,lt_of_le_of_lt→kF,le_add_right→vB,zero_add→vJ,lt_trans→vt,not_lt_of_lt→vz,lt_succ_self→wA
open Array renaming length_toList→qO,getElem?_eq_getElem→qu,getElem?_toList→je,getD→zF,any_toList→vD,toList→vx
open PySem.SeqAt renaming shaped→qQ,canLay_of_shaped→jc
open PySem.SetTable renaming below→qZ,grown→kZ
open PySem renaming mem_of_lookup→qa,strKind→zQ
open PySem.PyData renaming strOk→qh,eqvAll→qw,eqv→jC,depth→jb,str→jg,int→jv,canLay0→kA,bool→zR,depthAll→zp,list→vy
open PySem.Value renaming ref→qy,bool→jR,none→jf,type→zO,builtin→vQ,str→va,int→vb
open False renaming elim→jD
open Int renaming toNat_natCast→jH,le_refl→jo,le_of_lt→kX,emod_lt_of_pos→vg
open PySem.Builtin.SmallTypes renaming nextOf→jI,ownedTupleIsFree→jt,ownedTupleHandOut→vw
open PySem.Around renaming under_plainId→jO
open PyProof.Rows renaming callWith_type1→jS,slot_tuple_getitem→kq
open PySem.Obj renaming mapSeq→jT,data_mapFields→vA
open Or renaming inr→jX,inl→jx
open PySem.Builtin.List renaming listExtendWith→jY,listTooLong→vO
open Ne renaming symm→jh
open Sum renaming inr→jp
open PySem.Str renaming ofString→kE
open PySem.NameKind renaming free→kH,cell→vS
open PySem.Calls renaming spliced_cons→kQ,spliced_nil→kU,call_function_entry→vF,callWith_builtin→vZ,evalArgs_plain→vq
open True renaming intro→kW
open PySem.F renaming slot_tuple_iterator_next→kY,called_set→kn,slot_dict_pop→vI,slot_list_getattribute→vL,slot_list_count→vM,plain_list_iadd→vN,slot_zip_next→vh
open PySem.Builtin.Slice renaming slicePlaces→ki,sliceAdjust→vG
open PySem.Builtin.Tuple renaming tupleExact→ko
open PySem.SetTable.below renaming go→zP
open List.cons renaming injEq→zW
open Classical renaming byContradiction→zn
open PySem.Challenge renaming rw_daysheet_k05_whole_compared→zo
open PySem.PassesOwn renaming never→zq
open PySem.Heap.SameBut renaming update→zu
open Function renaming comp_def→zw
open Sum.inr renaming inj→zx
open PySem.Shared renaming TypeIs→vR
open PySem.SeqAt.EqAt renaming bool_bool→vj
open PyProof.Rows.F renaming plain_set_update_loop→vv
namespace L2
open PySem PySem.Spec PyProof.Rows
abbrev Key:=Sum Int Str
def uW:Key→Value→Bool
 | .inl k,v=>Value.isInt k v
 | .inr x,v=>Value.isStrOf x v
def b8n (w:World):Key→Int
 | .inl k=>hashInt k
 | .inr x=>hashStr w x
theorem bW:∀ {k:Key} {v:Value},uW k v=true→(∃ i t,k=Sum.inl i∧v=vb i t)∨(∃ x t,k=jp x∧v=va x t)
 | .inl i,v,h=>by
  obtain ⟨t,e⟩:=Value.isInt_shape (k:=i) (v:=v) h
  exact .inl ⟨i,t,rfl,e⟩
 | .inr x,v,h=>by
  obtain ⟨t,e⟩:=Value.isStrOf_shape (x:=x) (v:=v) h
  exact .inr ⟨x,t,rfl,e⟩
theorem a7V (i:Int) (t:Tok):uW (.inl i) (.int i t)=true:=by simp [uW,Value.isInt]
theorem a7U (x:Str) (t:Tok):uW (.inr x) (.str x t)=true:=by simp [uW,Value.isStrOf]
theorem b5s (a b:Int):decide ((Sum.inl a:Key)=Sum.inl b)=(a==b):=by
 by_cases e:a=b
 ·subst e;simp
 ·have h:¬(Sum.inl a:Key)=Sum.inl b:=fun q=>e (Sum.inl.inj q)
  rw [decide_eq_false h]
  exact (beq_eq_false_iff_ne.mpr e).symm
theorem b5p (a b:Str):decide ((jp a:Key)=jp b)=decide (a=b):=by
 by_cases e:a=b
 ·subst e;simp
 ·have h:¬(jp a:Key)=jp b:=fun q=>e (zx q)
  rw [decide_eq_false h,decide_eq_false e]
theorem b5r (a:Int) (b:Str):decide ((Sum.inl a:Key)=jp b)=false:=decide_eq_false (fun q=>nomatch q)
theorem b5q (a:Str) (b:Int):decide ((jp a:Key)=Sum.inl b)=false:=decide_eq_false (fun q=>nomatch q)
def bF (prog:Program) (w:World):PySem.KeyKind prog w Key where
 is:=uW
 hash:=b8n w
 inj:=fun v a b ha hb=>by
  rcases bW ha with ⟨i,t,rfl,rfl⟩ | ⟨x,t,rfl,rfl⟩
  ·rcases bW hb with ⟨j,u,rfl,e⟩ | ⟨y,u,rfl,e⟩
   ·injection e with e1 _;rw [e1]
   ·exact nomatch e
  ·rcases bW hb with ⟨j,u,rfl,e⟩ | ⟨y,u,rfl,e⟩
   ·exact nomatch e
   ·injection e with e1 _;rw [e1]
 byValue:=fun k v h=>by
  rcases bW h with ⟨i,t,rfl,rfl⟩ | ⟨x,t,rfl,rfl⟩<;>rfl
 pyHash:=fun hv h=>by
  rcases bW hv with ⟨i,t,rfl,rfl⟩ | ⟨x,t,rfl,rfl⟩
  ·exact wpAny_pyHash_int h
  ·exact wpAny_pyHash_str h
 eqBool:=fun hu hv h=>by
  rcases bW hu with ⟨i,t,rfl,rfl⟩ | ⟨x,t,rfl,rfl⟩
  ·rcases bW hv with ⟨j,u,rfl,rfl⟩ | ⟨y,u,rfl,rfl⟩
   ·rw [b5s] at h;exact wpAny_eqBool_int h
   ·rw [b5r] at h;exact SeqAt.EqAt.int_str i t y u _ _ _ _ h
  ·rcases bW hv with ⟨j,u,rfl,rfl⟩ | ⟨y,u,rfl,rfl⟩
   ·rw [b5q] at h;exact SeqAt.EqAt.str_int x t j u _ _ _ _ h
   ·rw [b5p] at h;exact wpAny_eqBool_str h
 «strs»:=fun k x t v h=>by
  rcases bW h with ⟨i,u,rfl,e⟩ | ⟨y,u,rfl,e⟩
  ·exact nomatch e
  ·injection e with e1 _
   subst e1
   cases v<;>rfl
theorem a4Q (prog:Program) (w:World) (k:Key) (v:Value):(bF prog w).is k v=uW k v:=rfl
theorem uU (prog:Program) (w:World) (i:Int) (t:Tok):(bF prog w).is (.inl i) (.int i t)=true:=a7V i t
theorem uT (prog:Program) (w:World) (x:Str) (t:Tok):(bF prog w).is (.inr x) (.str x t)=true:=a7U x t
inductive V where
 | non | bl (b:Bool) | int (i:Int) | str (x:Str) | byt (b:Array UInt8) | flt (b:UInt64) | ref (a:Addr) | ty (n:String)
 deriving DecidableEq
def RelV:V→Value→Prop
 | .non,u=>u=jf
 | .bl b,u=>u=jR b
 | .int i,u=>∃ t,u=vb i t
 | .str x,u=>∃ t,u=va x t
 | .byt b,u=>∃ t,u=Value.bytes b t
 | .flt b,u=>∃ t,u=Value.float b t
 | .ref a,u=>u=qy a
 | .ty n,u=>u=zO n
abbrev aX:List V→List Value→Prop:=Paired RelV
theorem aX.length {xs:List V} {us:List Value} (r:aX xs us):xs.length=us.length:=Paired.length r
theorem aX.get:∀ {xs:List V} {us:List Value} {i:Nat} {x:V},aX xs us→xs[i]?=some x→∃ u,us[i]?=some u∧RelV x u
 | _,_,_,_,.nil,e=>by simp at e
 | _,_,0,_,.cons r _,e=>by simp at e;subst e;exact ⟨_,rfl,r⟩
 | _,_,i+1,x,.cons _ t,e=>by
  obtain ⟨u,h1,h2⟩:=aX.get (i:=i) (x:=x) t (by simpa using e)
  exact ⟨u,by simpa using h1,h2⟩
theorem aX.set {x:V} {u:Value} (r:RelV x u):∀ {xs:List V} {us:List Value} (i:Nat),aX xs us→aX (xs.set i x) (us.set i u)
 | _,_,_,.nil=>.nil
 | _,_,0,.cons _ t=>.cons r t
 | _,_,i+1,.cons q t=>.cons q (aX.set r i t)
theorem aX.append:∀ {xs ys:List V} {us ws:List Value},aX xs us→aX ys ws→aX (xs++ys) (us++ws)
 | _,_,_,_,.nil,s=>s
 | _,_,_,_,.cons r t,s=>.cons r (aX.append t s)
theorem aX.take:∀ {xs:List V} {us:List Value} (n:Nat),aX xs us→aX (xs.take n) (us.take n)
 | _,_,0,_=>.nil
 | _,_,_+1,.nil=>.nil
 | _,_,n+1,.cons r t=>.cons r (aX.take n t)
theorem aX.drop:∀ {xs:List V} {us:List Value} (n:Nat),aX xs us→aX (xs.drop n) (us.drop n)
 | _,_,0,r=>r
 | _,_,_+1,.nil=>.nil
 | _,_,n+1,.cons _ t=>aX.drop n t
def uM:Option V→Option Value→Prop
 | some v,some u=>RelV v u
 | none,none=>True
 | _,_=>False
def KV {κ:Type}:List (κ×V)→List (κ×Value)→Prop:=Paired fun (p:κ×V) (q:κ×Value)=>p.1=q.1∧RelV p.2 q.2
def kV:Key→V
 | .inl i=>.int i
 | .inr x=>.str x
inductive HO where
 | lst (xs:List V)
 | tup (xs:List V)
 | dK (kvs:List (Key×V)) | dT (kvs:List (List Key×V))
 | set (S:Int→Bool) (n:Nat)
 | ins (C dx:Addr) (fs:List (Str×V))
 | own (x:Addr)
 | xd (fs:List (Str×V))
 | met (f x:Addr)
 | rng (lo hi:Int)
 | frz (o:Obj) (u:HO)
 | tbl (ps:Str×Array Value)
 | ext (φ:Heap→Prop)
abbrev Hp:=Addr→Option HO
def upd (H:Hp) (a:Addr) (o:HO):Hp:=fun b=>if b=a then some o else H b
theorem aL {H:Hp} {a:Addr} {o:HO}:upd H a o a=some o:=by unfold upd;rw [if_pos rfl]
theorem aH {H:Hp} {a b:Addr} {o:HO} (h:b≠a):upd H a o b=H b:=by unfold upd;rw [if_neg h]
theorem eV {H:Hp} {a b:Addr} {o u:HO} (h:H a=some o) (h':H b=some u) (d:o≠u):a≠b:=by
 intro e;subst e;rw [h] at h';exact d (qA h')
theorem aW {H:Hp} {a b:Addr} {o:HO} (h:H a=some o) (h':H b=none):a≠b:=by
 intro e;subst e;rw [h] at h';cases h'
section
variable (P:Program) (w:World)
def bY (H:Hp) (h:Heap) (a:Addr):HO→Prop
 | .lst xs=>xs.length≤sizeLine∧∃ (its:List Value) (n:Nat),aX xs its∧h.get? a=some { cls:=.type "list", data:=.seq its.toArray n }
 | .tup xs=>xs.length≤sizeLine∧∃ its:List Value,aX xs its∧IsTup h a its.toArray
 | .dK kvs=>kvs.length≤sizeLine∧(a==sysModules)=false∧∃ vs,KV kvs vs∧h.DictOf (bF P w) a vs
 | .dT kvs=>kvs.length≤sizeLine∧(a==sysModules)=false∧∃ xs:List (List Key×Addr×Value),
   Paired (fun (p:List Key×V) (q:List Key×Addr×Value)=>p.1=q.1∧H q.2.1=some (.tup (p.1.map kV))∧RelV p.2 q.2.2) kvs xs ∧
   ∃ o es ep,h.get? a=some o∧o.ExactDict∧o.data=.dict es ep∧es.toList=xs.map (entryOfKey (tupleKind (bF P w)))∧(xs.map (·.1)).Nodup
 | .set S n=>h.SetOf (intKind P w) a S n
 | .ins C dx fs=>H dx=some (.own a)∧fs.length≤1000∧dx≠a∧h.get? a=some (PySem.W.instObj C dx) ∧
   ∃ mA,h.Ns1 dx mA∧(∀ f,uM (fs.lookup f) (mA f))∧PySem.Within mA (fs.map (·.1))
 | .own _=>∃ o,h.get? a=some o
 | .xd fs=>∃ mA,h.Ns1 a mA∧∀ f,uM (fs.lookup f) (mA f)
 | .rng lo hi=>∃ t u v,h.get? a=some { cls:=.type "range", data:=.fields #[.int lo t,.int hi u,.int 1 v] }
 | .frz o u=>h.get? a=some o∧bY H h a u
 | .tbl ps=>h.get? a=some { cls:=.none,data:=.fields ps.2 }
 | .met f x=>h.get? a=some (vk (.ref f) (.ref x))
 | .ext φ=>φ h∧(∃ o,h.get? a=some o)∧∀ h1 h2:Heap,φ h1→(∀ o,h1.get? a=some o→h2.get? a=some o)→φ h2
def HOk (H:Hp) (h:Heap):Prop:=∀ a o,H a=some o→bY P w H h a o
end
section
variable {P:Program} {w:World} {H H':Hp} {h h':Heap} {a:Addr} {o:HO}
theorem bY.lt (x:bY P w H h a o):a<h.objs.size:=by
 cases o with
 | lst xs=>obtain ⟨_,_,_,_,e⟩:=x;exact qH e
 | tup xs=>obtain ⟨_,_,_,p⟩:=x;exact p.lt
 | dK kvs=>obtain ⟨_,_,_,_,o,_,_,e,_⟩:=x;exact qH e
 | dT kvs=>obtain ⟨_,_,_,_,o,_,_,e,_⟩:=x;exact qH e
 | set S n=>obtain ⟨o,_,_,_,e,_⟩:=x;exact qH e
 | ins C dx fs=>obtain ⟨_,_,_,e,_⟩:=x;exact qH e
 | own y=>obtain ⟨_,e⟩:=x;exact qH e
 | xd fs=>obtain ⟨_,⟨_,_,_,e,_⟩,_⟩:=x;exact qH e
 | rng lo hi=>obtain ⟨_,_,_,e⟩:=x;exact qH e
 | frz ob u=>obtain ⟨e,_⟩:=x;exact qH e
 | tbl ps=>exact qH (show h.get? a=some _ from x)
 | met f y=>exact qH (show h.get? a=some _ from x)
 | ext φ=>obtain ⟨_,⟨_,e⟩,_⟩:=x;exact qH e
theorem Paired.mapP {α β:Type} {F G:α→β→Prop}:∀ {l₁:List α} {l₂:List β},Paired F l₁ l₂→(∀ a b,F a b→G a b)→Paired G l₁ l₂
 | _,_,.nil,_=>.nil
 | _,_,.cons r t,f=>.cons (f _ _ r) (Paired.mapP t f)
theorem bY.stay (x:bY P w H h a o) (k:∀ b u,(b=a∨H b=some (.own a))→h.get? b=some u→h'.get? b=some u)
  (ho:∀ b,H b=some (.own a)→H' b=some (.own a)) (ht:∀ b xs,H b=some (.tup xs)→H' b=some (.tup xs)):bY P w H' h' a o:=by
 induction o with
 | lst xs=>obtain ⟨z,its,n,r,e⟩:=x;exact ⟨z,its,n,r,k _ _ (.inl rfl) e⟩
 | tup xs=>obtain ⟨z,its,r,ob,e,c⟩:=x;exact ⟨z,its,r,ob,k _ _ (.inl rfl) e,c⟩
 | dK kvs=>obtain ⟨z,y,vs,r,ob,es,ep,e,c⟩:=x;exact ⟨z,y,vs,r,ob,es,ep,k _ _ (.inl rfl) e,c⟩
 | dT kvs=>
  obtain ⟨z,y,xs,r,ob,es,ep,e,c⟩:=x
  exact ⟨z,y,xs,Paired.mapP r fun p q z=>⟨z.1,ht _ _ z.2.1,z.2.2⟩,ob,es,ep,k _ _ (.inl rfl) e,c⟩
 | set S n=>obtain ⟨ob,es,ep,t,e,c⟩:=x;exact ⟨ob,es,ep,t,k _ _ (.inl rfl) e,c⟩
 | ins C dx fs=>
  obtain ⟨d,z,ne,e,mA,⟨od,es,ep,e2,c⟩,r⟩:=x
  exact ⟨ho _ d,z,ne,k _ _ (.inl rfl) e,mA,⟨od,es,ep,k _ _ (.inr d) e2,c⟩,r⟩
 | own y=>obtain ⟨ob,e⟩:=x;exact ⟨ob,k _ _ (.inl rfl) e⟩
 | xd fs=>obtain ⟨mA,⟨od,es,ep,e,c⟩,r⟩:=x;exact ⟨mA,⟨od,es,ep,k _ _ (.inl rfl) e,c⟩,r⟩
 | rng lo hi=>obtain ⟨t,u,v,e⟩:=x;exact ⟨t,u,v,k _ _ (.inl rfl) e⟩
 | frz ob u ih=>obtain ⟨e,q⟩:=x;exact ⟨k _ _ (.inl rfl) e,ih q⟩
 | tbl ps=>
  have e:h.get? a=some { cls:=.none,data:=.fields ps.2 }:=x
  show h'.get? a=some { cls:=.none,data:=.fields ps.2 }
  exact k a _ (.inl rfl) e
 | met f y=>
  have e:h.get? a=some (vk (.ref f) (.ref y)):=x
  show h'.get? a=some (vk (.ref f) (.ref y))
  exact k a _ (.inl rfl) e
 | ext φ=>obtain ⟨p,⟨o,e⟩,st⟩:=x;exact ⟨st _ _ p fun o q=>k _ _ (.inl rfl) q,⟨o,k _ _ (.inl rfl) e⟩,st⟩
theorem HOk.lt (x:HOk P w H h) (e:H a=some o):a<h.objs.size:=(x a o e).lt
theorem HOk.fresh (x:HOk P w H h) (e:h.objs.size≤a):H a=none:=by
 cases q:H a with
 | none=>rfl
 | some u=>exact absurd (qR (x.lt q) e) (jU _)
theorem HOk.kept (x:HOk P w H h) (k:∀ b u,h.get? b=some u→h'.get? b=some u):HOk P w H h':=fun a o e=>
 (x a o e).stay (fun b u _ q=>k b u q) (fun _ q=>q) fun _ _ q=>q
theorem HOk.laid (x:HOk P w H h) (k:∀ b u,h.get? b=some u→h'.get? b=some u) (hp:h.objs.size≤a) (new:bY P w (upd H a o) h' a o):HOk P w (upd H a o) h':=fun b u e=>by
 have hn:=x.fresh hp
 by_cases hb:b=a
 ·subst hb;rw [aL] at e;cases e;exact new
 ·rw [aH hb] at e
  exact (x b u e).stay (fun c v _ q=>k c v q) (fun c q=>by rw [aH (aW q hn)];exact q) fun c xs q=>by rw [aH (aW q hn)];exact q
end
def Rd (H:Hp) (a:Addr) (u:HO):Prop:=H a=some u∨∃ o,H a=some (.frz o u)
theorem Rd.ok {P:Program} {w:World} {H:Hp} {h:Heap} {a:Addr} {u:HO} (r:Rd H a u) (x:HOk P w H h):bY P w H h a u:=by
 rcases r with r | ⟨o,r⟩
 ·exact x a u r
 ·obtain ⟨_,q⟩:=x a _ r
  exact q
def Mut:Option HO→Prop
 | some (.lst _)=>True
 | some (.dK _)=>True
 | some (.dT _)=>True
 | some (.set _ _)=>True
 | some (.ins _ _ _)=>True
 | some (.ext _)=>True
 | _=>False
section
variable {P:Program} {w:World} {H:Hp} {h h':Heap} {x e:Addr} {o':HO}
theorem HOk.write (ok:HOk P w H h) (mu:Mut (H x)) (he:e=x∨H e=some (.own x)) (k:∀ b u,b≠e→h.get? b=some u→h'.get? b=some u) (heo:∃ u,h'.get? e=some u)
  (new:bY P w (upd H x o') h' x o'):HOk P w (upd H x o') h':=fun b u q=>by
 have nown:∀ c y,H c=some (.own y)→c≠x:=fun c y r z=>by subst z;rw [r] at mu;exact mu
 have ntup:∀ c xs,H c=some (.tup xs)→c≠x:=fun c xs r z=>by subst z;rw [r] at mu;exact mu
 by_cases hb:b=x
 ·subst hb;rw [aL] at q;cases q;exact new
 ·rw [aH hb] at q
  by_cases hbe:b=e
  ·have q':H b=some (.own x):=by
    rcases he with z | z
    ·exact absurd (hbe.trans z) hb
    ·rw [hbe];exact z
   rw [q] at q';cases q'
   obtain ⟨v,hv⟩:=heo
   exact ⟨v,by rw [hbe];exact hv⟩
  ·refine (ok b u q).stay (fun c v hc r=>k c v ?_ r) (fun c r=>by rw [aH (nown c b r)];exact r) fun c xs r=>by rw [aH (ntup c xs r)];exact r
   rcases hc with rfl | hc
   ·exact hbe
   ·rintro rfl
    rcases he with z | z
    ·exact nown c b hc z
    ·rw [hc] at z;cases z;exact hb rfl
end
structure Un (fs ex:List Addr) (H H':Hp) (h h':Heap):Prop where
 keep:∀ b o,h.get? b=some o→H b=none→b∉fs→b∉ex→h'.get? b=some o
 slot:∀ b o,h.get? b=some o→H b=none→b∈fs→b∉ex→∃ sl,h'.get? b=some { o with slots:=sl }
 free:∀ b o,h.get? b=some o→H b=none→b∉ex→H' b=none
 there:∀ b o,h.get? b=some o→b∉ex→∃ o',h'.get? b=some o'
 tups:∀ b xs,H b=some (.tup xs)→H' b=some (.tup xs)
 frzs:∀ b o u,H b=some (.frz o u)→H' b=some (.frz o u)
 tbls:∀ b ps,H b=some (.tbl ps)→∃ more,H' b=some (.tbl (ps.1,ps.2++more))
section
variable {fs fs' ex ex':List Addr} {H H1 H2:Hp} {h h1 h2 h':Heap} {a x e:Addr} {o:HO}
theorem Un.any (u:Un fs ex H H1 h h1) {b:Addr} {ob:Obj} (q:h.get? b=some ob) (n:H b=none) (hx:b∉ex):∃ sl,h1.get? b=some { ob with slots:=sl }:=by
 by_cases hb:b∈fs
 ·exact u.slot b ob q n hb hx
 ·exact ⟨ob.slots,u.keep b ob q n hb hx⟩
theorem Un.trans (a:Un fs ex H H1 h h1) (b:Un fs ex H1 H2 h1 h2):Un fs ex H H2 h h2 where
 keep:=fun c ob q n hc hx=>b.keep c ob (a.keep c ob q n hc hx) (a.free c ob q n hx) hc hx
 slot:=fun c ob q n hc hx=>by
  obtain ⟨sl,e1⟩:=a.slot c ob q n hc hx
  obtain ⟨sl',e2⟩:=b.slot c _ e1 (a.free c ob q n hx) hc hx
  exact ⟨sl',e2⟩
 free:=fun c ob q n hx=>by
  obtain ⟨o',e1⟩:=a.there c ob q hx
  exact b.free c o' e1 (a.free c ob q n hx) hx
 there:=fun c ob q hx=>by
  obtain ⟨o',e1⟩:=a.there c ob q hx
  exact b.there c o' e1 hx
 tups:=fun c xs q=>b.tups c xs (a.tups c xs q)
 frzs:=fun c ob xs q=>b.frzs c ob xs (a.frzs c ob xs q)
 tbls:=fun c ps q=>by
  obtain ⟨m1,e1⟩:=a.tbls c ps q
  obtain ⟨m2,e2⟩:=b.tbls c _ e1
  exact ⟨m1++m2,by rw [e2];simp [Array.append_assoc]⟩
theorem Un.kept (k:∀ b u,h.get? b=some u→h'.get? b=some u):Un fs ex H H h h':=
 ⟨fun b ob q _ _ _=>k b ob q,fun b ob q _ _ _=>⟨ob.slots,k b ob q⟩,fun _ _ _ n _=>n,fun b ob q _=>⟨ob,k b ob q⟩,fun _ _ q=>q,fun _ _ _ q=>q,fun _ ps q=>⟨#[],by rw [q];simp⟩⟩
theorem Un.refl:Un fs ex H H h h:=Un.kept fun _ _ q=>q
theorem Un.laid (k:∀ b u,h.get? b=some u→h'.get? b=some u) (hp:h.objs.size≤a) (hn:H a=none):Un fs ex H (upd H a o) h h' where
 keep:=fun b u q _ _ _=>k b u q
 slot:=fun b u q _ _ _=>⟨u.slots,k b u q⟩
 free:=fun b u q n _=>by rw [aH (qW (qR (qH q) hp))];exact n
 there:=fun b u q _=>⟨u,k b u q⟩
 tups:=fun b xs q=>by rw [aH (aW q hn)];exact q
 frzs:=fun b u xs q=>by rw [aH (aW q hn)];exact q
 tbls:=fun b ps q=>⟨#[],by rw [aH (aW q hn),q];simp⟩
theorem Un.write (mu:Mut (H x)) (he:e=x∨H e=some (.own x)) (k:∀ b u,b≠e→h.get? b=some u→h'.get? b=some u) (heo:∃ u,h'.get? e=some u):Un fs ex H (upd H x o) h h':=by
 have hx:∀ b,H b=none→b≠x:=fun b n z=>by subst z;rw [n] at mu;exact mu
 have hb:∀ b,H b=none→b≠e:=fun b n z=>by
  subst z
  rcases he with r | r
  ·exact hx b n r
  ·rw [n] at r;cases r
 have hm:∀ b u,H b=some u→¬Mut (some u)→b≠x:=fun b u q nm z=>by subst z;rw [q] at mu;exact nm mu
 refine ⟨fun b u q n _ _=>k b u (hb b n) q,fun b u q n _ _=>⟨u.slots,k b u (hb b n) q⟩,fun b u q n _=>by rw [aH (hx b n)];exact n,fun b u q _=>?_,
  fun b xs q=>by rw [aH (hm b _ q fun z=>z)];exact q,fun b u xs q=>by rw [aH (hm b _ q fun z=>z)];exact q,fun b ps q=>⟨#[],by rw [aH (hm b _ q fun z=>z),q];simp⟩⟩
 by_cases hbe:b=e
 ·subst hbe;exact heo
 ·exact ⟨u,k b u hbe q⟩
theorem Un.mono (u:Un fs ex H H1 h h1) (hs:∀ b∈fs,b∈fs') (hx:∀ b∈ex,b∈ex'):Un fs' ex' H H1 h h1:=
 ⟨fun b ob q n hb he=>u.keep b ob q n (fun z=>hb (hs b z)) fun z=>he (hx b z),fun _ _ q n _ he=>u.any q n fun z=>he (hx _ z),fun b ob q n he=>u.free b ob q n fun z=>he (hx b z),fun b ob q he=>u.there b ob q fun z=>he (hx b z),u.tups,u.frzs,u.tbls⟩
end
def trk (h:Heap) (H:Hp):List Addr:=(qd h.objs.size).filter fun a=>(H a).isSome
def a0x (h:Heap) (H:Hp):Heap:=vH h (trk h H)
theorem a7X (h:Heap) (H:Hp):(a0x h H).objs.size=h.objs.size:=PySem.W.hideAll_size _ _
theorem b0y {h:Heap} {H:Hp} {b:Addr} {o:Obj} (e:h.get? b=some o) (n:H b=none):(a0x h H).get? b=some o:=
 vU _ e fun hm=>by
  have q:(H b).isSome=true:=(qv.mp hm).2
  rw [n] at q;simp at q
theorem b2w {h:Heap} {H:Hp} {b:Addr} {o:Obj} (e:(a0x h H).get? b=some o):h.get? b=some o∧H b=none:=by
 have e':h.get? b=some o:=vc (trk h H) e
 refine ⟨e',?_⟩
 cases q:H b with
 | none=>rfl
 | some x=>
  have hm:b∈trk h H:=qv.mpr ⟨kS.mpr (qH e'),by simp [q]⟩
  have z:(a0x h H).get? b=none:=zL (trk h H) hm
  rw [z] at e;cases e
def b3C (g h:Heap) (L:Addr):List (Addr×Obj):=(qd h.objs.size).filterMap fun a=>if a=L∨(g.get? a).isSome=true then none else (h.get? a).map fun o=>(a,o)
def rest (g h:Heap) (L d:Addr):List (Addr×Obj):=(b3C g h L).filter fun p=>decide (p.1≠d)
structure Mod (K:qB) (mg:Str→Option Value) (base:Heap):Prop where
 kin:K.In base
 glob:base.Ns mainGlobals mg
 blt:∃ mb,base.Ns builtinsNs mb∧∀ x:Str,x ≠ "__name__" → mb x=bootBuiltins x
 nolimit:base.NoLimit
structure Cx where
 prog:Program
 w:World
 K:qB
 mg:Str→Option Value
 base:Heap
 A:Around
 N:List Str
 s₀:Shared
 H₀:Hp
 env:Env
 outer:List Env
 stack:List Env
 ex:List Addr
 fn:Str→Bool
 calm:Bool
 pn:List (Addr×Obj)
 xe:Value→Shared→Prop
def frs (l:List Env):List Addr:=l.filterMap (·.frame)
abbrev Cx.fs (X:Cx):List Addr:=frs X.outer
def Vis (sc:Scope) (x:Str):Prop:=sc.names.lookup x=some .local∨sc.names.lookup x=some .cell∨sc.names.lookup x=some .free
def Loc (sc:Scope) (x:Str):Prop:=sc.names.lookup x=some .local∨sc.names.lookup x=some .cell
def Look (env:Env) (h:Heap) (m:Str→Option Value) (x:Str) (u:Value):Prop:=
 (env.kindOf x=some .local∧m x=some u)∨((env.kindOf x=some .cell∨env.kindOf x=some .free)∧∃ c,env.cells.lookup x=some c∧h.IsCell c (some u))
structure Cx.Ok (X:Cx):Prop where
 mod:Mod X.K X.mg X.base
 kind:X.env.scope.kind=.function
 glob:X.env.globals=mainGlobals
 blt:X.env.builtins=builtinsNs
 above:X.s₀.heap.objs.size≤X.env.locals
 inj:∀ x y c,X.env.cells.lookup x=some c→X.env.cells.lookup y=some c→x=y
 has:∀ x,(X.env.kindOf x=some .cell∨X.env.kindOf x=some .free)→∃ c,X.env.cells.lookup x=some c
 cab:∀ x c,X.fn x=true→X.env.cells.lookup x=some c→X.s₀.heap.objs.size≤c
 hd:X.calm=true→X.A.handled=none
 frames:X.A.frames=some X.stack
 stk:X.stack=X.outer∨(X.stack=X.env::X.outer∧X.env.frame=some X.env.locals)
 exf:∀ b∈X.ex,b≠X.env.locals∧∀ x c,X.env.cells.lookup x=some c→c≠b
 bs:∀ b o,X.base.get? b=some o→X.s₀.heap.get? b=some o∧X.H₀ b=none
 bsz:X.base.objs.size≤X.s₀.heap.objs.size
 noex:∀ b o,X.base.get? b=some o→b∉X.ex
 exfs:∀ b∈X.ex,b∉X.fs
 funs:X.s₀.heap.FunFrames X.base X.outer
 frf:∀ b∈X.fs,X.H₀ b=none
structure Inv (X:Cx) (pins:List (Addr×Obj)) (σ:List (Option V)) (H:Hp) (s:Shared):Prop where
 ok:X.Ok
 os:s.os=X.s₀.os
 bare:AllBare s.gens
 base:Un X.fs X.ex X.H₀ H X.s₀.heap s.heap
 loc:∃ m,s.heap.Ns X.env.locals m∧∀ (i:Nat) (x:Str) (v:V),X.N[i]?=some x→σ[i]?=some (some v)→Vis X.env.scope x→∃ u,RelV v u∧Look X.env s.heap m x u
 cell:∀ x c,X.env.cells.lookup x=some c→∃ v,s.heap.IsCell c v
 free:H X.env.locals=none
 freeC:∀ x c,X.env.cells.lookup x=some c→H c=none
 pin:∀ p∈X.pn++pins,s.heap.get? p.1=some p.2∧H p.1=none∧p.1≠X.env.locals∧p.1∉X.fs∧∀ v,p.2.data≠.cell v
 hok:HOk X.prog X.w H s.heap
 len:σ.length=X.N.length
section
variable {X:Cx} {pins:List (Addr×Obj)} {σ:List (Option V)} {H H':Hp} {s:Shared} {h':Heap}
theorem Cx.Ok.nofr (ok:X.Ok) {b:Addr} {o:Obj} (e:X.base.get? b=some o):b∉X.fs:=fun hb=>by
 have:=(ok.funs.mem hb).1
 rw [e] at this;cases this
theorem Inv.bs (I:Inv X pins σ H s):∀ b o,X.base.get? b=some o→s.heap.get? b=some o∧H b=none:=fun b o e=>
 ⟨I.base.keep b o (I.ok.bs b o e).1 (I.ok.bs b o e).2 (I.ok.nofr e) (I.ok.noex b o e),I.base.free b o (I.ok.bs b o e).1 (I.ok.bs b o e).2 (I.ok.noex b o e)⟩
theorem Inv.bk (I:Inv X pins σ H s):∀ b o,X.base.get? b=some o→s.heap.get? b=some o:=fun b o e=>(I.bs b o e).1
theorem Inv.mod (I:Inv X pins σ H s):Mod X.K X.mg X.base:=I.ok.mod
theorem Inv.kIn (I:Inv X pins σ H s):X.K.In s.heap:=I.ok.mod.kin.keeps I.bk
theorem Inv.lt (I:Inv X pins σ H s):X.env.locals<s.heap.objs.size:=let ⟨_,hn,_⟩:=I.loc;hn.lt
theorem Inv.sz (I:Inv X pins σ H s):X.s₀.heap.objs.size≤s.heap.objs.size:=ql I.ok.above (qr I.lt)
theorem Inv.nofs (I:Inv X pins σ H s) {a:Addr} (h:s.heap.objs.size≤a):a∉X.fs:=fun hb=>by
 obtain ⟨_,o,ho,_⟩:=I.ok.funs.mem hb
 exact absurd (qR (qH ho) (ql I.sz h)) (jU _)
theorem Inv.cne (I:Inv X pins σ H s):∀ x c,X.env.cells.lookup x=some c→c≠X.env.locals:=fun x c e z=>by
 obtain ⟨v,o,ho,hd⟩:=I.cell x c e
 obtain ⟨m,⟨o',es,ep,ho',hd',_⟩,_⟩:=I.loc
 rw [z,ho'] at ho;cases ho;rw [hd'] at hd;cases hd
theorem Inv.funs (I:Inv X pins σ H s):s.heap.FunFrames X.base X.outer:=by
 have all:∀ (l:List Env),(∀ b∈frs l,b∈X.fs)→X.s₀.heap.FunFrames X.base l→s.heap.FunFrames X.base l:=by
  intro l
  induction l with
  | nil=>intro _ _;trivial
  | cons env r ih=>
   intro hs hl
   obtain ⟨hk,⟨L,o,hf,hn,ho,hd⟩,hr⟩:=hl
   have hL:L∈X.fs:=hs L (by unfold frs;rw [vY,hf];exact qT)
   obtain ⟨sl,e⟩:=I.base.slot L o ho (I.ok.frf L hL) hL fun z=>I.ok.exfs L z hL
   exact ⟨hk,⟨L,_,hf,hn,e,hd⟩,ih (fun b hb=>hs b (by unfold frs;rw [vY,hf];exact qE _ hb)) hr⟩
 exact all X.outer (fun _ hb=>hb) I.ok.funs
theorem Inv.stack (I:Inv X pins σ H s):s.heap.FunFrames X.base X.stack:=by
 rcases I.ok.stk with e | ⟨e,hf⟩
 ·rw [e];exact I.funs
 ·rw [e]
  obtain ⟨m,hn,_⟩:=I.loc
  refine .cons (by rw [I.ok.kind];decide) hf hn ?_ I.funs
  exact zc (ql I.ok.bsz I.ok.above)
theorem Inv.stkSub (I:Inv X pins σ H s):∀ b∈frs X.stack,b∈X.env.locals::X.fs:=fun b hb=>by
 rcases I.ok.stk with e | ⟨e,hf⟩
 ·rw [e] at hb;exact qE _ hb
 ·rw [e] at hb
  unfold frs at hb
  rw [vY,hf] at hb
  exact hb
theorem Inv.stkFree (I:Inv X pins σ H s):∀ b∈frs X.stack,H b=none:=fun b hb=>by
 rcases qF.mp (I.stkSub b hb) with e | hb
 ·rw [e];exact I.free
 ·obtain ⟨_,o,ho,_⟩:=I.ok.funs.mem hb
  exact I.base.free b o ho (I.ok.frf b hb) fun z=>I.ok.exfs b z hb
theorem Inv.step {g':Array GenState} {t':Nat} {d':Drawn} {ch:List Addr} (I:Inv X pins σ H s)
  (hch:∀ b∈ch,(b∈X.ex∨X.s₀.heap.objs.size≤b)∧b≠X.env.locals∧(∀ x c,X.env.cells.lookup x=some c→c≠b)∧∀ p∈X.pn++pins,p.1≠b)
  (keep:∀ b o,b≠X.env.locals→b∉X.fs→b∉ch→s.heap.get? b=some o→H b=none→h'.get? b=some o)
  (slot:∀ b o,b≠X.env.locals→b∈X.fs→b∉ch→s.heap.get? b=some o→H b=none→∃ sl,h'.get? b=some { o with slots:=sl }) (free:∀ b o,b∉ch→s.heap.get? b=some o→H b=none→H' b=none)
  (there:∀ b o,b∉ch→s.heap.get? b=some o→∃ o',h'.get? b=some o')
  (tups:∀ b xs,H b=some (.tup xs)→H' b=some (.tup xs)) (frzs:∀ b o u,H b=some (.frz o u)→H' b=some (.frz o u)) (tbls:∀ b ps,H b=some (.tbl ps)→∃ more,H' b=some (.tbl (ps.1,ps.2++more)))
  (ns:∀ m,s.heap.Ns X.env.locals m→h'.Ns X.env.locals m) (hok:HOk X.prog X.w H' h') (hg:AllBare g') :
  Inv X pins σ H' { s with heap:=h',gens:=g',drawn:=d',toks:=t' }:=by
 have neL:∀ b o,X.s₀.heap.get? b=some o→b≠X.env.locals:=fun b o e=>qW (qR (qH e) I.ok.above)
 have neC:∀ b o,X.s₀.heap.get? b=some o→b∉X.ex→b∉ch:=fun b o e hx hb=>by
  rcases (hch b hb).1 with z | z
  ·exact hx z
  ·exact absurd (qR (qH e) z) (jU _)
 have cellK:∀ x c,X.env.cells.lookup x=some c→∀ v,s.heap.IsCell c v→h'.IsCell c v:=fun x c e v ⟨o,ho,hd⟩=>by
  have nch:c∉ch:=fun z=>(hch c z).2.2.1 x c e rfl
  by_cases hc:c∈X.fs
  ·obtain ⟨sl,q⟩:=slot c o (I.cne x c e) hc nch ho (I.freeC x c e)
   exact ⟨_,q,hd⟩
  ·exact ⟨o,keep c o (I.cne x c e) hc nch ho (I.freeC x c e),hd⟩
 refine ⟨I.ok,I.os,hg,⟨fun b o e n hb hx=>?_,fun b o e n hb hx=>?_,fun b o e n hx=>?_,fun b o e hx=>?_,fun b xs e=>tups b xs (I.base.tups b xs e),fun b o xs e=>frzs b o xs (I.base.frzs b o xs e),fun b ps e=>?_⟩,?_,fun x c e=>?_,?_,fun x c e=>?_,fun p hp=>?_,hok,I.len⟩
 ·exact keep b o (neL b o e) hb (neC b o e hx) (I.base.keep b o e n hb hx) (I.base.free b o e n hx)
 ·obtain ⟨sl,e1⟩:=I.base.slot b o e n hb hx
  obtain ⟨sl',e2⟩:=slot b _ (neL b o e) hb (neC b o e hx) e1 (I.base.free b o e n hx)
  exact ⟨sl',e2⟩
 ·obtain ⟨o',e1⟩:=I.base.there b o e hx
  exact free b o' (neC b o e hx) e1 (I.base.free b o e n hx)
 ·obtain ⟨o',e1⟩:=I.base.there b o e hx
  exact there b o' (neC b o e hx) e1
 ·obtain ⟨m1,e1⟩:=I.base.tbls b ps e
  obtain ⟨m2,e2⟩:=tbls b _ e1
  exact ⟨m1++m2,by rw [e2];simp [Array.append_assoc]⟩
 ·obtain ⟨m,hn,hl⟩:=I.loc
  refine ⟨m,ns m hn,fun i x v e1 e2 e3=>?_⟩
  obtain ⟨u,r,l⟩:=hl i x v e1 e2 e3
  refine ⟨u,r,?_⟩
  rcases l with l | ⟨k,c,e,z⟩
  ·exact .inl l
  ·exact .inr ⟨k,c,e,cellK x c e _ z⟩
 ·obtain ⟨v,z⟩:=I.cell x c e
  exact ⟨v,cellK x c e v z⟩
 ·obtain ⟨m,⟨o,_,_,ho,_⟩,_⟩:=I.loc
  exact free _ o (fun z=>(hch _ z).2.1 rfl) ho I.free
 ·obtain ⟨v,o,ho,hd⟩:=I.cell x c e
  exact free c o (fun z=>(hch c z).2.2.1 x c e rfl) ho (I.freeC x c e)
 ·obtain ⟨e,n,ne,nf,d⟩:=I.pin p hp
  have nch:p.1∉ch:=fun z=>(hch p.1 z).2.2.2 p hp rfl
  exact ⟨keep p.1 p.2 ne nf nch e n,free p.1 p.2 nch e n,ne,nf,d⟩
theorem Inv.un {t':Nat} (I:Inv X pins σ H s) (u:Un X.fs [] H H' s.heap h') (hok:HOk X.prog X.w H' h'):Inv X pins σ H' { s with heap:=h',toks:=t' }:=by
 obtain ⟨m,⟨o,es,ep,ho,r⟩,_⟩:=id I.loc
 obtain ⟨sl,hL⟩:=u.any ho I.free (by simp)
 exact I.step (g':=s.gens) (d':=s.drawn) (ch:=[]) (fun _ z=>nomatch z) (fun b o _ hb _ e n=>u.keep b o e n hb (by simp)) (fun b o _ hb _ e n=>u.slot b o e n hb (by simp)) (fun b o _ e n=>u.free b o e n (by simp)) (fun b o _ e=>u.there b o e (by simp)) u.tups u.frzs u.tbls (fun m' hm=>by
  obtain ⟨o',es',ep',ho',r'⟩:=hm
  rw [ho] at ho';cases ho'
  exact ⟨_,es',ep',hL,r'⟩) hok I.bare
theorem Inv.call {g':Array GenState} {t':Nat} {d':Drawn} {ch:List Addr} (I:Inv X pins σ H s) (u:Un (frs X.stack) ch H H' s.heap h') (hok:HOk X.prog X.w H' h') (hg:AllBare g')
  (hch:∀ b∈ch,(b∈X.ex∨X.s₀.heap.objs.size≤b)∧b≠X.env.locals∧(∀ x c,X.env.cells.lookup x=some c→c≠b)∧∀ p∈X.pn++pins,p.1≠b) :
  Inv X pins σ H' { s with heap:=h',gens:=g',drawn:=d',toks:=t' }:=by
 obtain ⟨m,⟨o,es,ep,ho,r⟩,_⟩:=id I.loc
 obtain ⟨sl,hL⟩:=u.any ho I.free fun z=>(hch _ z).2.1 rfl
 exact I.step (ch:=ch) hch (fun b o hL hb hc e n=>u.keep b o e n (fun z=>(qF.mp (I.stkSub b z)).elim hL hb) hc) (fun b o _ _ hc e n=>u.any e n hc) (fun b o hc e n=>u.free b o e n hc) (fun b o hc e=>u.there b o e hc) u.tups u.frzs u.tbls (fun m' hm=>by
  obtain ⟨o',es',ep',ho',r'⟩:=hm
  rw [ho] at ho';cases ho'
  exact ⟨_,es',ep',hL,r'⟩) hok hg
theorem Inv.turned {t':Nat} {it:Addr} (I:Inv X pins σ H s) (k:∀ b o,b≠it→s.heap.get? b=some o→h'.get? b=some o) (hn:H it=none) (hL:it≠X.env.locals)
  (h1:it∈X.ex∨X.s₀.heap.objs.size≤it) (h2:∀ x c,X.env.cells.lookup x=some c→c≠it) (h3:∀ p∈X.pn++pins,p.1≠it):Inv X pins σ H { s with heap:=h',toks:=t' }:=by
 have nit:∀ b u,H b=some u→b≠it:=fun b u e z=>by rw [z,hn] at e;cases e
 refine I.step (g':=s.gens) (d':=s.drawn) (ch:=[it]) (fun b hb=>?_) (fun b o _ _ hc e _=>k b o (fun z=>hc (by simp [z])) e) (fun b o _ _ hc e _=>⟨o.slots,k b o (fun z=>hc (by simp [z])) e⟩) (fun _ _ _ _ n=>n)
  (fun b o hc e=>⟨o,k b o (fun z=>hc (by simp [z])) e⟩) (fun _ _ e=>e) (fun _ _ _ e=>e) (fun b ps e=>⟨#[],by rw [e];simp⟩) (fun m hm=>?_) (fun b u e=>?_) I.bare
 ·have e:b=it:=by simpa using hb
  subst e
  exact ⟨h1,hL,h2,h3⟩
 ·obtain ⟨o,es,ep,ho,r⟩:=hm
  exact ⟨o,es,ep,k _ o (jh hL) ho,r⟩
 ·refine (I.hok b u e).stay (fun c v hc q=>k c v ?_ q) (fun _ q=>q) fun _ _ q=>q
  rcases hc with z | z
  ·rw [z];exact nit b u e
  ·exact nit c _ z
theorem Inv.tok (I:Inv X pins σ H s) (t:Nat):Inv X pins σ H { s with toks:=t }:=I.un (h':=s.heap) (t':=t) Un.refl I.hok
theorem Inv.kept {t':Nat} (I:Inv X pins σ H s) (k:∀ b u,s.heap.get? b=some u→h'.get? b=some u):Inv X pins σ H { s with heap:=h',toks:=t' }:=I.un (Un.kept k) (I.hok.kept k)
theorem Inv.laid {a:Addr} {o:HO} {t':Nat} (I:Inv X pins σ H s) (k:∀ b u,s.heap.get? b=some u→h'.get? b=some u) (hp:s.heap.objs.size≤a) (new:bY X.prog X.w (upd H a o) h' a o) :
  Inv X pins σ (upd H a o) { s with heap:=h',toks:=t' }:=I.un (Un.laid k hp (I.hok.fresh hp)) (I.hok.laid k hp new)
theorem Inv.write {x e:Addr} {o:HO} {t':Nat} (I:Inv X pins σ H s) (mu:Mut (H x)) (he:e=x∨H e=some (.own x)) (k:∀ b u,b≠e→s.heap.get? b=some u→h'.get? b=some u) (heo:∃ u,h'.get? e=some u)
  (new:bY X.prog X.w (upd H x o) h' x o):Inv X pins σ (upd H x o) { s with heap:=h',toks:=t' }:=I.un (Un.write mu he k heo) (I.hok.write mu he k heo new)
theorem Inv.pins_of {pins':List (Addr×Obj)} (I:Inv X pins σ H s) (h:∀ p∈pins',s.heap.get? p.1=some p.2∧H p.1=none∧p.1≠X.env.locals∧p.1∉X.fs∧∀ v,p.2.data≠.cell v):Inv X pins' σ H s:=
 ⟨I.ok,I.os,I.bare,I.base,I.loc,I.cell,I.free,I.freeC,fun p hp=>(jE.mp hp).elim (fun z=>I.pin p (jw _ z)) (h p),I.hok,I.len⟩
theorem xS {N:List Str} (hN:N.Nodup) {i j:Nat} {x:Str} (a:N[i]?=some x) (b:N[j]?=some x):i=j:=by
 obtain ⟨h1,e1⟩:=qS.mp a
 obtain ⟨h2,e2⟩:=qS.mp b
 exact (List.getElem_inj hN).mp (e1.trans e2.symm)
theorem a0J {M:Model} {A:Around} {E:Value→Shared→Prop} {i:Nat} {x:Str} {v:V} {u:Value} {Q:Unit→Shared→Prop} (I:Inv X pins σ H s) (hN:X.N.Nodup) (hi:X.N[i]?=some x) (hx:Loc X.env.scope x) (r:RelV v u)
  (h:∀ s',Inv X pins (σ.set i (some v)) H s'→(∃ a,km a s.heap s'.heap∧(a=X.env.locals∨X.env.cells.lookup x=some a))→Q () s') (hf:X.fn x=true∨X.env.scope.names.lookup x=some .local:=by first | exact .inl rfl | exact .inr rfl | assumption):wpAny M A (storeName X.env x u) Q E s:=by
 obtain ⟨m,hn,hl⟩:=id I.loc
 have hcls:(X.env.scope.kind==.class || (X.env.scope.kind==.module&&X.env.locals != X.env.globals))=false:=by rw [I.ok.kind];rfl
 have hiσ:i<σ.length:=by rw [I.len];exact (qS.mp hi).1
 have cne:=I.cne
 have tracked:∀ {a:Addr} {h':Heap},(∃ o,s.heap.get? a=some o∧H a=none)→km a s.heap h'→HOk X.prog X.w H h':=fun {a h'} ha hs b ob e=>by
  obtain ⟨_,_,hfree⟩:=ha
  refine (I.hok b ob e).stay (fun c w' hc q=>(hs.2 c ?_).trans q) (fun _ q=>q) fun _ _ q=>q
  rintro rfl
  rcases hc with rfl | hc
  ·rw [hfree] at e;cases e
  ·rw [hfree] at hc;cases hc
 rcases hx with hk | hk
 ·refine wpAny_storeName_local hk hn (fun h' hn' hs=>?_) hcls
  obtain ⟨oL,_,_,hoL,_⟩:=id hn
  refine h _ ⟨I.ok,I.os,I.bare,⟨fun b o e n hb hx=>?_,fun b o e n hb hx=>?_,I.base.free,fun b o e hx=>?_,I.base.tups,I.base.frzs,I.base.tbls⟩,⟨_,hn',fun j y v' e1 e2 e3=>?_⟩,fun y c e=>?_,I.free,I.freeC,fun p hp=>?_,tracked ⟨oL,hoL,I.free⟩ hs,by simpa using I.len⟩ ⟨_,hs,.inl rfl⟩
  ·exact (hs.2 b (qW (qR (qH e) I.ok.above))).trans (I.base.keep b o e n hb hx)
  ·obtain ⟨sl,e1⟩:=I.base.slot b o e n hb hx
   exact ⟨sl,(hs.2 b (qW (qR (qH e) I.ok.above))).trans e1⟩
  ·obtain ⟨o',e1⟩:=I.base.there b o e hx
   exact ⟨o',(hs.2 b (qW (qR (qH e) I.ok.above))).trans e1⟩
  ·by_cases hj:j=i
   ·subst hj
    rw [hi] at e1;cases e1
    rw [kD hiσ] at e2
    cases e2
    exact ⟨u,r,.inl ⟨hk,by simp⟩⟩
   ·rw [qk (jh hj)] at e2
    obtain ⟨u',r',q⟩:=hl j y v' e1 e2 e3
    refine ⟨u',r',?_⟩
    rcases q with ⟨k,e⟩ | ⟨k,c,e,z⟩
    ·refine .inl ⟨k,?_⟩
     have:y≠x:=fun e=>hj (xS hN e1 (e▸hi))
     simp [this,e]
    ·exact .inr ⟨k,c,e,z.sameBut hs (cne y c e)⟩
  ·obtain ⟨w',z⟩:=I.cell y c e
   exact ⟨w',z.sameBut hs (cne y c e)⟩
  ·obtain ⟨e,n,ne,nf,d⟩:=I.pin p hp
   exact ⟨(hs.2 p.1 ne).trans e,n,ne,nf,d⟩
 ·have hfn:X.fn x=true:=by
   rcases hf with z | z
   ·exact z
   ·rw [z] at hk;cases hk
  obtain ⟨c,hc⟩:=I.ok.has x (.inl hk)
  obtain ⟨w',z⟩:=I.cell x c hc
  refine wpAny_storeName_cell I.ok.kind hk hc z (fun h' hc' hs=>?_)
  obtain ⟨oc,hoc,hocd⟩:=id z
  refine h { s with heap:=h' } ⟨I.ok,I.os,I.bare,⟨fun b o e n hb hx=>?_,fun b o e n hb hx=>?_,I.base.free,fun b o e hx=>?_,I.base.tups,I.base.frzs,I.base.tbls⟩,⟨m,hn.sameBut hs (jh (cne x c hc)),fun j y v' e1 e2 e3=>?_⟩,fun y c' e=>?_,I.free,I.freeC,fun p hp=>?_,tracked ⟨oc,hoc,I.freeC x c hc⟩ hs,by simpa using I.len⟩ ⟨c,hs,.inr hc⟩
  ·exact (hs.2 b (qW (qR (qH e) (I.ok.cab x c hfn hc)))).trans (I.base.keep b o e n hb hx)
  ·obtain ⟨sl,e1⟩:=I.base.slot b o e n hb hx
   exact ⟨sl,(hs.2 b (qW (qR (qH e) (I.ok.cab x c hfn hc)))).trans e1⟩
  ·obtain ⟨o',e1⟩:=I.base.there b o e hx
   exact ⟨o',(hs.2 b (qW (qR (qH e) (I.ok.cab x c hfn hc)))).trans e1⟩
  ·by_cases hj:j=i
   ·subst hj
    rw [hi] at e1;cases e1
    rw [kD hiσ] at e2
    cases e2
    exact ⟨u,r,.inr ⟨.inl hk,c,hc,hc'⟩⟩
   ·rw [qk (jh hj)] at e2
    obtain ⟨u',r',q⟩:=hl j y v' e1 e2 e3
    refine ⟨u',r',?_⟩
    rcases q with q | ⟨k,c',e,z'⟩
    ·exact .inl q
    ·refine .inr ⟨k,c',e,z'.sameBut hs ?_⟩
     rintro rfl
     exact hj (xS hN e1 (I.ok.inj _ _ _ e hc▸hi))
  ·by_cases hcc:c'=c
   ·subst hcc;exact ⟨_,hc'⟩
   ·obtain ⟨w2,z2⟩:=I.cell y c' e
    exact ⟨w2,z2.sameBut hs hcc⟩
  ·obtain ⟨e,n,ne,nf,d⟩:=I.pin p hp
   refine ⟨(hs.2 p.1 ?_).trans e,n,ne,nf,d⟩
   intro q
   rw [q,hoc] at e
   have q':oc=p.2:=qA e
   exact d w' (by rw [←q'];exact hocd)
theorem rC {M:Model} {A:Around} {E:Value→Shared→Prop} {i:Nat} {x:Str} {v:V} {u:Value} {Q:Unit→Shared→Prop} (I:Inv X pins σ H s) (hN:X.N.Nodup) (hi:X.N[i]?=some x) (hx:Loc X.env.scope x) (r:RelV v u)
  (h:∀ s',Inv X pins (σ.set i (some v)) H s'→Q () s') (hf:X.fn x=true∨X.env.scope.names.lookup x=some .local:=by first | exact .inl rfl | exact .inr rfl | assumption):wpAny M A (storeName X.env x u) Q E s:=
 a0J I hN hi hx r (fun s' I' _=>h s' I') hf
theorem Inv.call' {s':Shared} {ch:List Addr} (I:Inv X pins σ H s) (ho:s'.os=s.os) (u:Un (frs X.stack) ch H H' s.heap s'.heap) (hok:HOk X.prog X.w H' s'.heap) (hg:AllBare s'.gens)
  (hch:∀ b∈ch,(b∈X.ex∨X.s₀.heap.objs.size≤b)∧b≠X.env.locals∧(∀ x c,X.env.cells.lookup x=some c→c≠b)∧∀ p∈X.pn++pins,p.1≠b):Inv X pins σ H' s':=by
 obtain ⟨h',g',d',t',o'⟩:=s'
 have e:o'=s.os:=ho
 subst e
 exact I.call (g':=g') (t':=t') (d':=d') u hok hg hch
end
abbrev XK:=Value→Option Addr→Hp→Prop
abbrev St:=List (Option V)
abbrev VK:=V→Hp→Prop
abbrev TE:=St→Hp→VK→Prop
abbrev TT:=St→Hp→(Bool→Hp→Prop)→Prop
abbrev TA:=St→Hp→(List V→Hp→Prop)→Prop
structure Ends where
 nx:St→Hp→Prop
 rt:VK
 bk:St→Hp→Prop:=fun _ _=>False
 ct:St→Hp→Prop:=fun _ _=>False
abbrev TS:=Ends→St→Hp→Prop
def EP (X:Cx) (pins:List (Addr×Obj)) (σ:St) (Q:VK) (u:Value) (s':Shared):Prop:=∃ v H',Inv X pins σ H' s'∧RelV v u∧Q v H'
def TP (X:Cx) (pins:List (Addr×Obj)) (σ:St) (Q:Bool→Hp→Prop) (b:Bool) (s':Shared):Prop:=∃ H',Inv X pins σ H' s'∧Q b H'
def AP (X:Cx) (pins:List (Addr×Obj)) (σ:St) (Q:List V→Hp→Prop) (us:List Value) (s':Shared):Prop:=∃ vs H',Inv X pins σ H' s'∧aX vs us∧Q vs H'
def SP (X:Cx) (pins:List (Addr×Obj)) (D:Ends) (f:Flow) (s':Shared):Prop:=
 match f with
 | .next=>∃ σ' H',Inv X pins σ' H' s'∧D.nx σ' H'
 | .brk=>∃ σ' H',Inv X pins σ' H' s'∧D.bk σ' H'
 | .cont=>∃ σ' H',Inv X pins σ' H' s'∧D.ct σ' H'
 | .ret u=>∃ v σ' H',Inv X pins σ' H' s'∧RelV v u∧D.rt v H'
def PE (X:Cx) (e:Expr) (t:TE):Prop:=
 ∀ (pins:List (Addr×Obj)) (s:Shared) (σ:St) (H:Hp) (Q:VK),Inv X pins σ H s→t σ H Q→wpAny (model X.prog X.w) X.A (eval e X.env) (EP X pins σ Q) X.xe s
def PT (X:Cx) (e:Expr) (t:TT):Prop:=
 ∀ (pins:List (Addr×Obj)) (s:Shared) (σ:St) (H:Hp) (Q:Bool→Hp→Prop),Inv X pins σ H s→t σ H Q→wpAny (model X.prog X.w) X.A (isTrue e X.env (eval e X.env)) (TP X pins σ Q) X.xe s
def PW (X:Cx) (e:Expr) (t:TT):Prop:=
 ∀ (whole:Sem Value) (pins:List (Addr×Obj)) (s:Shared) (σ:St) (H:Hp) (Q:Bool→Hp→Prop),Inv X pins σ H s→t σ H Q→wpAny (model X.prog X.w) X.A (isTrue e X.env whole) (TP X pins σ Q) X.xe s
def PA (X:Cx) (es:List Expr) (t:TA):Prop:=
 ∀ (pos:Pos) (pins:List (Addr×Obj)) (s:Shared) (σ:St) (H:Hp) (Q:List V→Hp→Prop),Inv X pins σ H s→t σ H Q→wpAny (model X.prog X.w) X.A (spliced (backTo pos (starEach es X.env))) (AP X pins σ Q) X.xe s
def PS (X:Cx) (st:Stmt) (t:TS):Prop:=
 ∀ (pins:List (Addr×Obj)) (s:Shared) (σ:St) (H:Hp) (D:Ends),Inv X pins σ H s→t D σ H→wpAny (model X.prog X.w) X.A (exec st X.env) (SP X pins D) X.xe s
def PSs (X:Cx) (st:List Stmt) (t:TS):Prop:=
 ∀ (pins:List (Addr×Obj)) (s:Shared) (σ:St) (H:Hp) (D:Ends),Inv X pins σ H s→t D σ H→wpAny (model X.prog X.w) X.A (execs st X.env) (SP X pins D) X.xe s
theorem thn {α:Type} {t:Sem α} {Q Q':α→Shared→Prop} {M:Model} {A:Around} {E:Value→Shared→Prop} {s:Shared} (h:wpAny M A t Q E s) (hQ:∀ a s,Q a s→Q' a s):wpAny M A t Q' E s:=wpAny_mono h hQ fun _ _ x=>x
section
variable {X:Cx}
def b6r (i:Nat):TE:=fun σ H Q=>∃ v,σ[i]?=some (some v)∧Q v H
def tC (v:V):TE:=fun _ H Q=>Q v H
theorem gZ {i:Nat} {x:Str} {pos:Pos} (hN:X.N[i]?=some x) (hv:Vis X.env.scope x) (hd:(x==("__debug__" : Str))=false:=by decide) (hcd:(x==("__classdict__" : Str))=false:=by decide):PE X (.Name x pos) (b6r i):=by
 intro pins s σ H Q I h
 obtain ⟨v,e,h⟩:=h
 obtain ⟨m,hn,hl⟩:=I.loc
 obtain ⟨u,r,l⟩:=hl i x v hN e hv
 have fin:EP X pins σ Q u s:=⟨v,H,I,r,h⟩
 rcases l with ⟨hk,hm⟩ | ⟨hk,c,hc,hcell⟩
 ·exact wpAny_Name (wpAny_loadName_local I.ok.kind hk hn hm fin) hd
 ·rcases hk with hk | hk
  ·exact wpAny_Name (wpAny_loadName_cell I.ok.kind hk hc hcell fin) hd
  ·exact wpAny_Name (wpAny_loadName_free I.ok.kind hk hc hcell fin hcd) hd
theorem b4M {i j pos}:PE X (.Constant (.int i) j pos) (tC (.int i)):=fun _ _ _ H _ I h=>wpAny_Constant_int ⟨.int i,H,I.tok _,⟨_,rfl⟩,h⟩
theorem b6P {b j pos}:PE X (.Constant (.bool b) j pos) (tC (.bl b)):=fun _ _ _ H _ I h=>Constant_bool ⟨.bl b,H,I,rfl,h⟩
theorem b4L {j pos}:PE X (.Constant .none j pos) (tC .non):=fun _ _ _ H _ I h=>Constant_none ⟨.non,H,I,rfl,h⟩
theorem a9w {x j pos}:PE X (.Constant (.str x) j pos) (tC (.str x)):=fun _ _ _ H _ I h=>Calls.Constant_str ⟨.str x,H,I.tok _,⟨_,rfl⟩,h⟩
def Gl (X:Cx) (x:Str):Prop:=X.env.kindOf x=some .globalImplicit
theorem mK {E:Value→Shared→Prop} {pins:List (Addr×Obj)} {s:Shared} {σ:St} {H:Hp} {x:Str} {u:Value} {pos:Pos} {Q:Value→Shared→Prop} (I:Inv X pins σ H s) (hg:Gl X x) (hm:X.mg x=some u) (h:Q u s)
  (hd:(x==("__debug__" : Str))=false:=by decide):wpAny (model X.prog X.w) X.A (eval (.Name x pos) X.env) Q E s:=
 Calls.Name_function_global I.ok.kind hg (Calls.loadGlobal_global (by rw [I.ok.glob];exact I.mod.glob.keeps I.bk) hm h) hd
theorem iZ {E:Value→Shared→Prop} {pins:List (Addr×Obj)} {s:Shared} {σ:St} {H:Hp} {x:Str} {u:Value} {pos:Pos} {Q:Value→Shared→Prop} (I:Inv X pins σ H s) (hg:Gl X x) (hm:X.mg x=none) (hv:bootBuiltins x=some u) (h:Q u s)
  (hn:x ≠ "__name__":=by decide) (hd:(x==("__debug__" : Str))=false:=by decide):wpAny (model X.prog X.w) X.A (eval (.Name x pos) X.env) Q E s:=by
 obtain ⟨mb,h1,h2⟩:=I.mod.blt
 exact Calls.Name_function_global I.ok.kind hg (Calls.loadGlobal_builtin (by rw [I.ok.glob];exact I.mod.glob.keeps I.bk) hm (by rw [I.ok.blt];exact h1.keeps I.bk) ((h2 x hn).trans hv) h) hd
theorem a6c {x:Str} {v:V} {u:Value} {pos:Pos} (hg:Gl X x) (hm:X.mg x=some u) (r:RelV v u) (hd:(x==("__debug__" : Str))=false:=by decide):PE X (.Name x pos) (tC v):=
 fun _ _ _ H _ I h=>mK I hg hm ⟨v,H,I,r,h⟩ hd
theorem a6e {x:Str} {v:V} {u:Value} {pos:Pos} (hg:Gl X x) (hm:X.mg x=none) (hv:bootBuiltins x=some u) (r:RelV v u) (hn:x ≠ "__name__":=by decide) (hd:(x==("__debug__" : Str))=false:=by decide):PE X (.Name x pos) (tC v):=
 fun _ _ _ H _ I h=>iZ I hg hm hv ⟨v,H,I,r,h⟩ hn hd
variable {a b:Expr} {ta tb:TE} {pos:Pos}
def PC (X:Cx) (op:CmpOp) (a b:Expr) (t:TE):Prop:=
 ∀ (pins:List (Addr×Obj)) (s:Shared) (σ:St) (H:Hp) (Q:VK),Inv X pins σ H s→t σ H Q →
  wpAny (model X.prog X.w) X.A (eval a X.env) (fun v s₁=>wpAny (model X.prog X.w) X.A (eval b X.env) (fun u s₂=>wpAny (model X.prog X.w) X.A (compareOp op v u) (EP X pins σ Q) X.xe s₂) X.xe s₁) X.xe s
theorem a9N (b:Expr) {op:CmpOp} (h:op≠.In) (h2:op≠.NotIn):behindInMarks op b=false:=by
 have e1:(op==CmpOp.In)=false:=by cases op<;>first | rfl | exact absurd rfl h
 have e2:(op==CmpOp.NotIn)=false:=by cases op<;>first | rfl | exact absurd rfl h2
 cases b<;>simp [behindInMarks,e1,e2]
def tB (t:TE):TT:=fun σ H Q=>t σ H fun x H1=>∃ c,x=.bl c∧Q c H1
theorem a9o {op:CmpOp} {t:TE} (h:PC X op a b t) (h1:behindInMarks op b=false:=by first | exact a9N _ (by decide) (by decide) | rfl):PT X (.Compare a [op] [b] pos) (tB t):=by
 intro pins s σ H Q I hw
 refine wpAny_isTrue_Compare1 (thn (h pins s σ H _ I hw) fun v s1 h1=>thn h1 fun u s2 h2=>thn h2 fun c s3 ⟨x,H1,I1,r1,q1⟩=>?_) h1
 obtain ⟨d,rfl,q⟩:=q1
 cases r1
 exact wpAny_truthy_bool ⟨H1,I1,q⟩
variable {tA tB':TT} {rest:List Expr}
def b7X (t u:TT):TT:=fun σ H Q=>t σ H fun c H1=>if c=true then u σ H1 Q else Q false H1
def tOr (t u:TT):TT:=fun σ H Q=>t σ H fun c H1=>if c=true then Q true H1 else u σ H1 Q
def b7P (t:TT):TT:=fun σ H Q=>t σ H fun c H1=>Q (!c) H1
theorem b1T (ha:PT X a tA):PW X (.BoolOp .And [a] pos) tA:=by
 intro wh pins s σ H Q I h
 refine isTrue_and (thn (ha pins s σ H Q I h) fun c s1 e=>?_)
 cases c with
 | true=>exact isTrue_and_nil e
 | false=>exact e
theorem b4A (ha:PT X a tA):PW X (.BoolOp .Or [a] pos) tA:=by
 intro wh pins s σ H Q I h
 refine isTrue_or (thn (ha pins s σ H Q I h) fun c s1 e=>?_)
 cases c with
 | false=>exact isTrue_or_nil e
 | true=>exact e
theorem b4B (ha:PT X a tA) (hb:PW X (.BoolOp .And (b::rest) pos) tB'):PW X (.BoolOp .And (a::b::rest) pos) (b7X tA tB'):=by
 intro wh pins s σ H Q I h
 refine isTrue_and (thn (ha pins s σ H _ I h) fun c s1 ⟨H1,I1,q1⟩=>?_)
 cases c with
 | true=>exact hb wh pins s1 σ H1 Q I1 q1
 | false=>exact ⟨H1,I1,q1⟩
theorem b6M (ha:PT X a tA) (hb:PW X (.BoolOp .Or (b::rest) pos) tB'):PW X (.BoolOp .Or (a::b::rest) pos) (tOr tA tB'):=by
 intro wh pins s σ H Q I h
 refine isTrue_or (thn (ha pins s σ H _ I h) fun c s1 ⟨H1,I1,q1⟩=>?_)
 cases c with
 | true=>exact ⟨H1,I1,q1⟩
 | false=>exact hb wh pins s1 σ H1 Q I1 q1
theorem b4C (ha:PT X a tA):PT X (.UnaryOp .Not a pos) (b7P tA):=by
 intro pins s σ H Q I h
 exact isTrue_not (ha pins s σ H (fun c H1=>Q (!c) H1) I h)
def b6z (ta tb:TE):TE:=fun σ H Q=>ta σ H fun x H1=>∃ c,x=.bl c∧if c=true then tb σ H1 Q else Q (.bl false) H1
def b6u (ta:TE):TE:=fun σ H Q=>ta σ H fun x H1=>∃ c,x=.bl c∧Q (.bl (!c)) H1
theorem b4J {op} {t:TE} (h:PE X a t):PE X (.BoolOp op [a] pos) t:=fun pins s σ H Q I hw=>BoolOp_one (h pins s σ H Q I hw)
theorem b4N (ha:PE X a ta) (hb:PE X (.BoolOp .And (b::rest) pos) tb):PE X (.BoolOp .And (a::b::rest) pos) (b6z ta tb):=by
 intro pins s σ H Q I h
 refine BoolOp_and (thn (ha pins s σ H _ I h) fun v s1 ⟨x,H1,I1,r1,q1⟩=>?_)
 obtain ⟨c,rfl,q1⟩:=q1
 cases r1
 refine wpAny_truthy_bool ?_
 cases c with
 | true=>exact hb pins s1 σ H1 Q I1 q1
 | false=>exact ⟨.bl false,H1,I1,rfl,q1⟩
theorem b4K (ha:PE X a ta):PE X (.UnaryOp .Not a pos) (b6u ta):=by
 intro pins s σ H Q I h
 refine UnaryOp_ (thn (ha pins s σ H _ I h) fun v s1 ⟨x,H1,I1,r1,q1⟩=>?_)
 obtain ⟨c,rfl,q1⟩:=q1
 cases r1
 exact not_of (wpAny_truthy_bool ⟨.bl (!c),H1,I1,rfl,q1⟩)
end
def SqL (K:qB) (H:Hp) (a:Addr) (xs:List V):Prop:=
 Rd H a (.lst xs) ∨
  ∃ (o:Obj) (its:Array Value) (n:Nat),K.lookup a=some o∧o.cls=.type "list" ∧ o.dict=none∧o.data=.seq its n∧its.size≤sizeLine∧aX xs its.toList
def SqT (K:qB) (H:Hp) (a:Addr) (xs:List V):Prop:=
 Rd H a (.tup xs) ∨
  ∃ (o:Obj) (its:Array Value) (n:Nat),K.lookup a=some o∧o.cls=.type "tuple" ∧ o.data=.seq its n∧its.size≤sizeLine∧aX xs its.toList
def b8G:Value→Option V
 | .none=>some .non
 | .bool b=>some (.bl b)
 | .int i _=>some (.int i)
 | .str x _=>some (.str x)
 | .bytes b _=>some (.byt b)
 | .float b _=>some (.flt b)
 | .ref a=>some (.ref a)
 | .type n=>some (.ty n)
 | _=>none
theorem RelV.abs {x:V} {u:Value} (r:RelV x u):b8G u=some x:=by
 cases x with
 | non=>cases r;rfl
 | bl _=>cases r;rfl
 | int _=>obtain ⟨t,rfl⟩:=r;rfl
 | str _=>obtain ⟨t,rfl⟩:=r;rfl
 | byt _=>obtain ⟨t,rfl⟩:=r;rfl
 | flt _=>obtain ⟨t,rfl⟩:=r;rfl
 | ref _=>cases r;rfl
 | ty _=>cases r;rfl
theorem RelV.inj {x y:V} {u:Value} (r:RelV x u) (q:RelV y u):x=y:=qA (r.abs.symm.trans q.abs)
theorem aX.inj:∀ {xs ys:List V} {us:List Value},aX xs us→aX ys us→xs=ys
 | _,_,_,.nil,.nil=>rfl
 | _,_,_,.cons r t,.cons r' t'=>by rw [r.inj r',aX.inj t t']
section
variable {X:Cx} {pins:List (Addr×Obj)} {σ:St} {H:Hp} {s:Shared} {a:Addr} {xs ys:List V}
theorem SqL.of {K:qB} (h:H a=some (.lst xs)):SqL K H a xs:=.inl (.inl h)
theorem SqT.of {K:qB} (h:H a=some (.tup xs)):SqT K H a xs:=.inl (.inl h)
theorem Inv.list (I:Inv X pins σ H s) (h:SqL X.K H a xs):∃ its:List Value,aX xs its∧PlainL s.heap a its.toArray∧xs.length≤sizeLine:=by
 rcases h with h | ⟨o,its,n,hk,hc,hd,hs,hz,r⟩
 ·obtain ⟨z,its,n,r,e⟩:=h.ok I.hok
  exact ⟨its,r,⟨_,n,e,rfl,rfl,rfl⟩,z⟩
 ·refine ⟨its.toList,r,⟨o,n,I.kIn a o hk,hc,hd,by simpa using hs⟩,?_⟩
  have e:=r.length
  simp only [qO] at e
  omega
theorem Inv.tuple (I:Inv X pins σ H s) (h:SqT X.K H a xs):∃ its:List Value,aX xs its∧IsTup s.heap a its.toArray∧xs.length≤sizeLine:=by
 rcases h with h | ⟨o,its,n,hk,hc,hs,hz,r⟩
 ·obtain ⟨z,its,r,p⟩:=h.ok I.hok
  exact ⟨its,r,p,z⟩
 ·refine ⟨its.toList,r,⟨o,I.kIn a o hk,hc,n,by simpa using hs⟩,?_⟩
  have e:=r.length
  simp only [qO] at e
  omega
theorem Inv.list_inj (I:Inv X pins σ H s) (h:SqL X.K H a xs) (h':SqL X.K H a ys):xs=ys:=by
 obtain ⟨its,r,⟨o,n,e,_,_,d⟩,_⟩:=I.list h
 obtain ⟨its',r',⟨o',n',e',_,_,d'⟩,_⟩:=I.list h'
 rw [e] at e';cases e'
 rw [d] at d'
 injection d' with d1 _
 have:its=its':=by simpa using congrArg vx d1
 subst this
 exact r.inj r'
theorem Inv.tuple_inj (I:Inv X pins σ H s) (h:SqT X.K H a xs) (h':SqT X.K H a ys):xs=ys:=by
 obtain ⟨its,r,⟨o,e,_,n,d⟩,_⟩:=I.tuple h
 obtain ⟨its',r',⟨o',e',_,n',d'⟩,_⟩:=I.tuple h'
 rw [e] at e';cases e'
 rw [d] at d'
 injection d' with d1 _
 have:its=its':=by simpa using congrArg vx d1
 subst this
 exact r.inj r'
end
abbrev Cx.wish (X:Cx) (E:Value→Shared→Prop):Cx:={ X with xe:=E }
abbrev Cx.nox (X:Cx):Cx:=X.wish fun _ _=>False
theorem Cx.Ok.wish {X:Cx} (ok:X.Ok) (E:Value→Shared→Prop):(X.wish E).Ok:=
 ⟨ok.mod,ok.kind,ok.glob,ok.blt,ok.above,ok.inj,ok.has,ok.cab,ok.hd,ok.frames,ok.stk,ok.exf,ok.bs,ok.bsz,ok.noex,ok.exfs,ok.funs,ok.frf⟩
theorem Cx.Ok.unwish {X:Cx} {E:Value→Shared→Prop} (ok:(X.wish E).Ok):X.Ok:=
 ⟨ok.mod,ok.kind,ok.glob,ok.blt,ok.above,ok.inj,ok.has,ok.cab,ok.hd,ok.frames,ok.stk,ok.exf,ok.bs,ok.bsz,ok.noex,ok.exfs,ok.funs,ok.frf⟩
section
variable {X:Cx} {pins:List (Addr×Obj)} {σ:St} {H:Hp} {s:Shared} {E:Value→Shared→Prop}
theorem Inv.wish (I:Inv X pins σ H s) (E:Value→Shared→Prop):Inv (X.wish E) pins σ H s:=⟨I.ok.wish E,I.os,I.bare,I.base,I.loc,I.cell,I.free,I.freeC,I.pin,I.hok,I.len⟩
theorem Inv.unwish (I:Inv (X.wish E) pins σ H s):Inv X pins σ H s:=⟨I.ok.unwish,I.os,I.bare,I.base,I.loc,I.cell,I.free,I.freeC,I.pin,I.hok,I.len⟩
theorem SP.unwish {D:Ends} {f:Flow} {s':Shared} (h:SP (X.wish E) pins D f s'):SP X pins D f s':=by
 cases f with
 | next=>obtain ⟨σ',H',I,q⟩:=h;exact ⟨σ',H',I.unwish,q⟩
 | brk=>obtain ⟨σ',H',I,q⟩:=h;exact ⟨σ',H',I.unwish,q⟩
 | cont=>obtain ⟨σ',H',I,q⟩:=h;exact ⟨σ',H',I.unwish,q⟩
 | ret u=>obtain ⟨v,σ',H',I,r,q⟩:=h;exact ⟨v,σ',H',I.unwish,r,q⟩
theorem PSs.nox {st:List Stmt} {t:TS} (h:PSs X.nox st t):PSs X st t:=fun pins s σ H D I hw=>
 wpAny_mono (h pins s σ H D (I.wish _) hw) (fun _ _ q=>q.unwish) fun _ _ z=>jD z
end
section
variable {X:Cx} {st:Stmt} {rest:List Stmt} {t u:TS} {e:Expr} {te:TE} {pos:Pos}
def b6v:TS:=fun D σ H=>D.nx σ H
theorem b1Z:PSs X [] b6v:=fun _ _ σ H _ I h=>wpAny_execs_nil ⟨σ,H,I,h⟩
theorem b1Y (h1:PS X st t):PSs X [st] t:=by
 intro pins s σ H D I h
 refine wpAny_execs_cons (thn (h1 pins s σ H D I h) fun f s1 q=>?_)
 cases f with
 | next=>exact wpAny_execs_nil q
 | ret v=>exact q
 | brk=>exact q
 | cont=>exact q
theorem Inv.quiet {pins:List (Addr×Obj)} {σ:St} {H:Hp} {s:Shared} (I:Inv X pins σ H s):interactive X.env=false:=by simp [interactive,I.ok.kind]
def b6w (te:TE):TS:=fun D σ H=>te σ H fun _ H1=>D.nx σ H1
theorem a1X (he:PE X e te) (hs:swapsWith e none pos.line X.env=pure false:=by rfl):PS X (.Expr e pos) (b6w te):=by
 intro pins s σ H D I h
 exact wpAny_Expr_any (thn (he pins s σ H _ I h) fun v s1 ⟨x,H1,I1,r1,q1⟩=>⟨σ,H1,I1,q1⟩) I.quiet hs
def b7O (te:TE):TS:=fun D σ H=>te σ H D.rt
theorem b4D (he:PE X e te):PS X (.Return (some e) pos) (b7O te):=by
 intro pins s σ H D I h
 exact wpAny_Return_some (thn (he pins s σ H _ I h) fun v s1 ⟨x,H1,I1,r1,q1⟩=>⟨x,σ,H1,I1,r1,q1⟩)
def b7S (c:TT) (t u:TS):TS:=fun D σ H=>c σ H fun b H1=>if b=true then t D σ H1 else u D σ H1
theorem b6N {c:Expr} {a b:List Stmt} {tc:TT} (hc:PT X c tc) (ha:PSs X a t) (hb:PSs X b u):PS X (.If c a b pos) (b7S tc t u):=by
 intro pins s σ H D I h
 refine wpAny_If (thn (hc pins s σ H _ I h) fun d s1 ⟨H1,I1,q1⟩=>?_)
 cases d with
 | true=>exact ha pins s1 σ H1 D I1 q1
 | false=>exact hb pins s1 σ H1 D I1 q1
end
abbrev TG:=V→St→Hp→(St→Hp→Prop)→Prop
abbrev TGs:=List V→St→Hp→(St→Hp→Prop)→Prop
def PG (X:Cx) (target:Expr) (t:TG):Prop:=
 ∀ (pins:List (Addr×Obj)) (s:Shared) (σ:St) (H:Hp) (v:V) (u:Value) (Q:St→Hp→Prop),Inv X pins σ H s→RelV v u→t v σ H Q →
  wpAny (model X.prog X.w) X.A (assign target X.env u) (fun _ s'=>∃ σ' H',Inv X pins σ' H' s'∧Q σ' H') X.xe s
def PGs (X:Cx) (ts:List Expr) (t:TGs):Prop:=
 ∀ (pins:List (Addr×Obj)) (s:Shared) (σ:St) (H:Hp) (vs:List V) (us:List Value) (Q:St→Hp→Prop),Inv X pins σ H s→aX vs us→t vs σ H Q →
  wpAny (model X.prog X.w) X.A (assignInOrder ((assignEach ts X.env).map (·.2)) us) (fun _ s'=>∃ σ' H',Inv X pins σ' H' s'∧Q σ' H') X.xe s
abbrev b6i:=V→V→V→Hp→(Hp→Prop)→Prop
def b7y (X:Cx) (t:b6i):Prop:=
 ∀ (pins:List (Addr×Obj)) (s:Shared) (σ:St) (H:Hp) (o i v:V) (ov iv u:Value) (Q:Hp→Prop),Inv X pins σ H s→RelV o ov→RelV i iv→RelV v u→t o i v H Q →
  wpAny (model X.prog X.w) X.A (setItem ov iv u) (fun _ s'=>∃ H',Inv X pins σ H' s'∧Q H') X.xe s
abbrev TIp:=V→V→Hp→VK→Prop
def PIp (X:Cx) (op:Operator) (t:TIp):Prop:=
 ∀ (pins:List (Addr×Obj)) (s:Shared) (σ:St) (H:Hp) (x y:V) (v u:Value) (Q:VK),Inv X pins σ H s→RelV x v→RelV y u→t x y H Q →
  wpAny (model X.prog X.w) X.A (inplaceOp op v u) (EP X pins σ Q) X.xe s
section
variable {X:Cx} {pos:Pos}
def b0H (i:Nat):TG:=fun v σ H Q=>Q (σ.set i (some v)) H
theorem b2g {i:Nat} {x:Str} (hN:X.N.Nodup) (hi:X.N[i]?=some x) (hx:Loc X.env.scope x) (hf:X.fn x=true∨X.env.scope.names.lookup x=some .local:=by first | exact .inl rfl | exact .inr rfl | assumption):PG X (.Name x pos) (b0H i):=by
 intro pins s σ H v u Q I r h
 exact wpAny_assign_Name (rC I hN hi hx r (fun s' I'=>⟨_,H,I',h⟩) hf)
def b8z:TGs:=fun vs σ H Q=>vs=[]∧Q σ H
def b7n (t:TG) (u:TGs):TGs:=fun vs σ H Q=>∃ v r,vs=v::r∧t v σ H fun σ' H'=>u r σ' H' Q
theorem b2f:PGs X [] b8z:=by
 intro pins s σ H vs us Q I r h
 obtain ⟨e,h⟩:=h
 subst e
 cases r
 exact assignInOrder_nil ⟨σ,H,I,h⟩
theorem a9v {e:Expr} {es:List Expr} {t:TG} {u:TGs} (h1:PG X e t) (h2:PGs X es u)
  (hs:(assignEach (e::es) X.env).map (·.2)=assign e X.env::(assignEach es X.env).map (·.2):=by rfl):PGs X (e::es) (b7n t u):=by
 intro pins s σ H vs us Q I r h
 obtain ⟨v,vr,e1,h⟩:=h
 subst e1
 cases r with
 | cons r rr=>
  rw [hs]
  refine assignInOrder_cons (thn (h1 pins s σ H _ _ _ I r h) fun _ s1 ⟨σ1,H1,I1,q1⟩=>?_)
  exact h2 pins s1 σ1 H1 _ _ Q I1 rr q1
def b8x (K:qB) (n:Nat) (t:TGs):TG:=fun v σ H Q=>∃ a xs,v=.ref a∧SqT K H a xs∧xs.length=n∧t xs σ H Q
theorem b4G {es:List Expr} {k:Nat} {t:TGs} {n:Nat} (hc:X.calm=true) (h:PGs X es t)
  (hn:(assignEach es X.env).length=n:=by rfl) (hst:(assignEach es X.env).findIdx? (·.1)=none:=by rfl):PG X (.Tuple es k pos) (b8x X.K n t):=by
 intro pins s σ H v u Q I r hw
 obtain ⟨a,xs,e1,hq,hl,hw⟩:=hw
 subst e1
 cases r
 obtain ⟨its,rv,ht,hz⟩:=I.tuple hq
 refine assign_Tuple_tuple (I.ok.hd hc) ht (by simp [hn,←hl,rv.length]) hst fun h' hx=>?_
 have I1:Inv X pins σ H { s with heap:=h' }:=I.kept (t':=s.toks) fun b o e=>hx b o (qW (qH e)) e
 exact h pins _ σ H xs _ Q I1 (by simpa using rv) hw
def b8y (to ti:TE) (t:b6i):TG:=fun v σ H Q=>to σ H fun o H1=>ti σ H1 fun i H2=>t o i v H2 fun H3=>Q σ H3
theorem b4H {o i:Expr} {to ti:TE} {t:b6i} (ho:PE X o to) (hi:PE X i ti) (hs:b7y X t)
  (ha:∀ v,assign (.Subscript o i pos) X.env v=(do
   let ov ←holding [v] (eval o X.env)
   let iv ←holding [v,ov] (eval i X.env)
   standAt pos
   holding [v,ov,iv] (setItem ov iv v)
   release [v,ov,iv] []):=by intro _;rfl):PG X (.Subscript o i pos) (b8y to ti t):=by
 intro pins s σ H v u Q I r h
 rw [ha]
 refine wpAny_bind (wpAny_holding (thn (ho pins s σ H _ I h) fun ov s1 ⟨x,H1,I1,r1,q1⟩=>?_))
 refine wpAny_bind (wpAny_holding (thn (hi pins s1 σ H1 _ I1 q1) fun iv s2 ⟨y,H2,I2,r2,q2⟩=>?_))
 refine wpAny_bind (wpAny_standAt (wpAny_bind (wpAny_holding (thn (hs pins s2 σ H2 x y v ov iv u _ I2 r1 r2 r q2) fun _ s3 ⟨H3,I3,q3⟩=>?_))))
 exact wpAny_release ⟨σ,H3,I3,q3⟩
def b4r (te:TE) (g:TG):TS:=fun D σ H=>te σ H fun x H1=>g x σ H1 D.nx
theorem a9s {tg e:Expr} {te:TE} {g:TG} (he:PE X e te) (hg:PG X tg g) (hs:swapsWithSole [tg] e pos.line X.env=pure false:=by rfl) (hw:swappedStores [tg] e X.env=pure none:=by rfl)
  (h1:(assignEach [tg] X.env).map (·.2)=[assign tg X.env]:=by rfl):PS X (.Assign [tg] e pos) (b4r te g):=by
 intro pins s σ H D I h
 refine wpAny_Assign_stores (thn (he pins s σ H _ I h) fun v s1 ⟨x,H1,I1,r1,q1⟩=>?_) hs hw
 rw [h1]
 exact thn (hg pins s1 σ H1 x v _ I1 r1 q1) fun _ s2 q=>q
theorem a1W {i:Nat} {x:Str} {e:Expr} {te:TE} {pos':Pos} (hN:X.N.Nodup) (hi:X.N[i]?=some x) (hx:Loc X.env.scope x) (he:PE X e te) (hs:swapsWith e (some (.Name x pos')) pos.line X.env=pure false:=by rfl) (hf:X.fn x=true∨X.env.scope.names.lookup x=some .local:=by first | exact .inl rfl | exact .inr rfl | assumption) :
  PS X (.Assign [.Name x pos'] e pos) (b4r te (b0H i)):=by
 intro pins s σ H D I h
 refine wpAny_Assign_Name (thn (he pins s σ H _ I h) fun v s1 ⟨y,H1,I1,r1,q1⟩=>?_) hs
 exact rC I1 hN hi hx r1 (fun s2 I2=>⟨_,H1,I2,q1⟩) hf
def b7W (i:Nat) (te:TE) (ti:TIp):TS:=fun D σ H=>∃ x,σ[i]?=some (some x)∧te σ H fun y H1=>ti x y H1 fun z H2=>D.nx (σ.set i (some z)) H2
theorem a9r {i:Nat} {x:Str} {e:Expr} {te:TE} {op:Operator} {ti:TIp} {pos':Pos} (hN:X.N.Nodup) (hi:X.N[i]?=some x) (hx:Loc X.env.scope x) (he:PE X e te) (ho:PIp X op ti) (hf:X.fn x=true∨X.env.scope.names.lookup x=some .local:=by first | exact .inl rfl | exact .inr rfl | assumption) :
  PS X (.AugAssign (.Name x pos') op e pos) (b7W i te ti):=by
 intro pins s σ H D I h
 obtain ⟨v,e1,h⟩:=h
 obtain ⟨m,hn,hl⟩:=I.loc
 have vis:Vis X.env.scope x:=by rcases hx with k | k;exact .inl k;exact .inr (.inl k)
 obtain ⟨u,r,l⟩:=hl i x v hi e1 vis
 refine wpAny_AugAssign_Name ?_
 have go:wpAny (model X.prog X.w) X.A (eval e X.env) (fun w s₂=>wpAny (model X.prog X.w) X.A (inplaceOp op u w) (fun r s₃=>wpAny (model X.prog X.w) X.A (storeName X.env x r) (fun _=>SP X pins D .next) X.xe s₃) X.xe s₂) X.xe s:=by
  refine thn (he pins s σ H _ I h) fun w s1 ⟨y,H1,I1,r1,q1⟩=>?_
  refine thn (ho pins s1 σ H1 v y u w _ I1 r r1 q1) fun z s2 ⟨zv,H2,I2,r2,q2⟩=>?_
  exact rC I2 hN hi hx r2 (fun s3 I3=>⟨_,H2,I3,q2⟩) hf
 rcases l with ⟨hk,hm⟩ | ⟨hk,c,hc,hcell⟩
 ·exact wpAny_loadName_local I.ok.kind hk hn hm go
 ·rcases hk with hk | hk
  ·exact wpAny_loadName_cell I.ok.kind hk hc hcell go
  ·rcases hx with k | k
   ·have:X.env.scope.names.lookup x=some .free:=hk
    rw [k] at this;cases this
   ·have:X.env.scope.names.lookup x=some .free:=hk
    rw [k] at this;cases this
def ipI (f:Int→Int→Int):TIp:=fun x y H Q=>∃ i j,x=.int i∧y=.int j∧Q (.int (f i j)) H
theorem b5B:PIp X .Add (ipI fun i j=>i+j):=by
 intro pins s σ H x y v u Q I r1 r2 h
 obtain ⟨i,j,e1,e2,q⟩:=h
 subst e1;subst e2
 obtain ⟨t,rfl⟩:=r1
 obtain ⟨t',rfl⟩:=r2
 exact iadd_int ⟨.int _,H,I.tok _,⟨_,rfl⟩,q⟩
theorem b5A:PIp X .Sub (ipI fun i j=>i - j):=by
 intro pins s σ H x y v u Q I r1 r2 h
 obtain ⟨i,j,e1,e2,q⟩:=h
 subst e1;subst e2
 obtain ⟨t,rfl⟩:=r1
 obtain ⟨t',rfl⟩:=r2
 exact isub_int ⟨.int _,H,I.tok _,⟨_,rfl⟩,q⟩
end
section
variable {X:Cx} {pos:Pos}
end
structure It where
 go:Nat→Hp→Prop
 yld:Nat→Hp→V→Hp→Prop
 stop:Nat→Hp→Prop
def sP (X:Cx) (pins:List (Addr×Obj)) (H:Hp) (b:Addr):Prop:=
 H b=none∧b≠X.env.locals∧b∉X.fs∧(b∈X.ex∨X.s₀.heap.objs.size≤b)∧(∀ x c,X.env.cells.lookup x=some c→c≠b)∧∀ p∈X.pn++pins,p.1≠b
theorem Inv.fpOk {X:Cx} {pins:List (Addr×Obj)} {σ:St} {H H':Hp} {s:Shared} {b:Addr} (I:Inv X pins σ H s) (hb:s.heap.objs.size≤b) (hn:H' b=none):sP X pins H' b:=by
 refine ⟨hn,jK (qR I.lt hb),I.nofs hb,.inr (ql I.sz hb),fun x c e z=>?_,fun p hp z=>?_⟩
 ·obtain ⟨v,q⟩:=I.cell x c e
  exact absurd (qR q.lt (by rw [z];exact hb)) (jU _)
 ·exact absurd (qR (qH (I.pin p hp).1) (by rw [z];exact hb)) (jU _)
structure Turn (P:Program) (w:World) (K:qB) (tg:Expr) (J:It) (fp:List Addr) (it:Addr) (tn:Nat→Heap→Prop):Prop where
 mem:it∈fp
 obj:∀ i h,tn i h→∀ b∈fp,∃ o,h.get? b=some o∧∀ v,o.data≠.cell v
 keep:∀ i h h',tn i h→(∀ b∈fp,∀ o,h.get? b=some o→h'.get? b=some o)→tn i h'
 item:∀ (X:Cx),X.prog=P→X.w=w→X.K=K→X.calm=true→∀ (i:Nat) (pins:List (Addr×Obj)) (s:Shared) (σ:St) (H:Hp) (E:Value→Shared→Prop),Inv X pins σ H s→(∀ b∈fp,sP X pins H b)→tn i s.heap→J.go i H →
  wpAny (model P w) X.A (pyNext (.ref it)) (fun r s1=>∃ u,r=some u ∧
   wpAny (model P w) X.A (letOwnedTupleGo tg (.ref it) u) (fun _ s2=>∃ x H',Inv X pins σ H' s2∧RelV x u∧J.yld i H x H'∧tn (i+1) s2.heap∧∀ b∈fp,H' b=none) E s1) E s
 done:∀ (X:Cx),X.prog=P→X.w=w→X.K=K→X.calm=true→∀ (i:Nat) (pins:List (Addr×Obj)) (s:Shared) (σ:St) (H:Hp) (E:Value→Shared→Prop),Inv X pins σ H s→(∀ b∈fp,sP X pins H b)→tn i s.heap→J.stop i H →
  wpAny (model P w) X.A (pyNext (.ref it)) (fun r s1=>r=none∧Inv X pins σ H s1) E s
 self:∀ (A:Around) (i:Nat) (s:Shared) (Q:Value→Shared→Prop) (E:Value→Shared→Prop),tn i s.heap→Q (.ref it) s→wpAny (model P w) A (pyIter (.ref it)) Q E s
abbrev TI:=St→Hp→(It→Hp→Prop)→Prop
def PIE (X:Cx) (pins:List (Addr×Obj)) (σ:St) (tg:Expr) (R:It→Hp→Prop) (itv:Value) (s2:Shared):Prop:=
 ∃ (it:Addr) (fp:List Addr) (tn:Nat→Heap→Prop) (J:It) (H':Hp),itv=.ref it∧Inv X pins σ H' s2∧Turn X.prog X.w X.K tg J fp it tn∧tn 0 s2.heap∧(∀ b∈fp,sP X pins H' b)∧R J H'
def PI (X:Cx) (tg iter:Expr) (wi:TI):Prop:=
 ∀ (pins:List (Addr×Obj)) (s:Shared) (σ:St) (H:Hp) (R:It→Hp→Prop),Inv X pins σ H s→wi σ H R →
  wpAny (model X.prog X.w) X.A (eval iter X.env) (fun v s1=>wpAny (model X.prog X.w) X.A (pyIter v) (PIE X pins σ tg R) X.xe s1) X.xe s
theorem b0E {M:Model} {A:Around} {E:Value→Shared→Prop} {s:Shared} {tg:Expr} {it:Addr} {u:Value} {o:Obj} {n:String} {vs:Array Value} {Q:Unit→Shared→Prop} (ho:s.heap.get? it=some o) (hc:o.cls=.type n) (hd:o.data=.fields vs)
  (hn:["enumerate", "zip", "dict_itemiterator", "dict_reverseitemiterator", "odict_iterator", "itertools.zip_longest", "itertools.pairwise"].contains n=false) (hQ:Q () s):wpAny M A (letOwnedTupleGo tg (.ref it) u) Q E s:=by
 unfold letOwnedTupleGo
 cases tg<;>first
  | exact wpAny_pure hQ
  | (cases u<;>first
    | exact wpAny_pure hQ
    | (refine wpAny_bind (wpAny_load ho ?_);rw [hc,hd];show wpAny M A (if (["enumerate", "zip", "dict_itemiterator", "dict_reverseitemiterator", "odict_iterator", "itertools.zip_longest", "itertools.pairwise"].contains n&&vs[0]?==some (rawInt _))=true then _ else _) Q E s;rw [if_neg (by intro h;rw [hn,Bool.false_and] at h;cases h)];exact wpAny_pure hQ))
def Itl (K:qB) (a:Addr):It:=
 ⟨fun i H=>∃ xs x,SqL K H a xs∧xs[i]?=some x,fun i H x H'=>H'=H∧∀ xs,SqL K H a xs→xs[i]?=some x,fun i H=>∃ xs,SqL K H a xs∧xs.length≤i⟩
def Itt (K:qB) (a:Addr):It:=
 ⟨fun i H=>∃ xs x,SqT K H a xs∧xs[i]?=some x,fun i H x H'=>H'=H∧∀ xs,SqT K H a xs→xs[i]?=some x,fun i H=>∃ xs,SqT K H a xs∧xs.length≤i⟩
def Itr (lo:Int) (n:Nat):It:=⟨fun i _=>i<n,fun i H x H'=>H'=H∧x=.int (lo+i),fun i _=>n≤i⟩
theorem a7d {P:Program} {w:World} {K:qB} {tg:Expr} (a it:Addr):Turn P w K tg (Itl K a) [it] it (fun i h=>h.IsListIter it a i) where
 mem:=by simp
 obj:=fun i h st b hb=>by
  have e:b=it:=by simpa using hb
  subst e
  obtain ⟨o,e,c,d⟩:=st
  exact ⟨o,e,fun v z=>by rw [d] at z;cases z⟩
 keep:=fun i h h' st k=>st.at fun o e=>k it (by simp) o e
 item:=by
  intro X hP hw hK hc i pins s σ H E I hf st hg
  subst hP hw hK
  obtain ⟨xs,x,hq,hx⟩:=hg
  obtain ⟨its,rv,p,hz⟩:=I.list hq
  obtain ⟨u,hu,ru⟩:=rv.get hx
  obtain ⟨f0,f1,f2,f3,f4,f5⟩:=hf it (by simp)
  refine wpAny_pyNext_list_item st p.isList (x:=u) (by simpa using hu) fun h' st' sb=>?_
  have I1:Inv X pins σ H { s with heap:=h' }:=I.turned (t':=s.toks) (fun b o hb e=>(sb.2 b hb).trans e) f0 f1 f3 f4 f5
  obtain ⟨o,e,c,d⟩:=id st'
  exact ⟨u,rfl,b0E (s:={ s with heap:=h' }) e c d (by decide) ⟨x,H,I1,ru,⟨rfl,fun ys hy=>by rw [I.list_inj hy hq];exact hx⟩,st',fun b hb=>(hf b hb).1⟩⟩
 done:=by
  intro X hP hw hK hc i pins s σ H E I hf st hg
  subst hP hw hK
  obtain ⟨xs,hq,hx⟩:=hg
  obtain ⟨its,rv,p,hz⟩:=I.list hq
  obtain ⟨f0,f1,f2,f3,f4,f5⟩:=hf it (by simp)
  have hl:=rv.length
  exact wpAny_pyNext_list_end (I.ok.hd hc) st p.isList (by simp;omega) fun h' eb=>⟨rfl,I.turned (t':=s.toks) (fun b o hb e=>eb b o hb e) f0 f1 f3 f4 f5⟩
 self:=fun _ _ _ _ _ st h=>wpAny_pyIter_listiter st h
theorem a4o {P:Program} {w:World} {K:qB} {tg:Expr} (a it:Addr):Turn P w K tg (Itt K a) [it] it (fun i h=>h.IsTupleIter it a i) where
 mem:=by simp
 obj:=fun i h st b hb=>by
  have e:b=it:=by simpa using hb
  subst e
  obtain ⟨o,e,c,d⟩:=st
  exact ⟨o,e,fun v z=>by rw [d] at z;cases z⟩
 keep:=fun i h h' st k=>st.at fun o e=>k it (by simp) o e
 item:=by
  intro X hP hw hK hc i pins s σ H E I hf st hg
  subst hP hw hK
  obtain ⟨xs,x,hq,hx⟩:=hg
  obtain ⟨its,rv,p,hz⟩:=I.tuple hq
  obtain ⟨u,hu,ru⟩:=rv.get hx
  obtain ⟨f0,f1,f2,f3,f4,f5⟩:=hf it (by simp)
  refine wpAny_pyNext_tuple_item st (show s.heap.IsTuple a its.toArray from p) (x:=u) (by simpa using hu) fun h' st' sb=>?_
  have I1:Inv X pins σ H { s with heap:=h' }:=I.turned (t':=s.toks) (fun b o hb e=>(sb.2 b hb).trans e) f0 f1 f3 f4 f5
  obtain ⟨o,e,c,d⟩:=id st'
  exact ⟨u,rfl,b0E (s:={ s with heap:=h' }) e c d (by decide) ⟨x,H,I1,ru,⟨rfl,fun ys hy=>by rw [I.tuple_inj hy hq];exact hx⟩,st',fun b hb=>(hf b hb).1⟩⟩
 done:=by
  intro X hP hw hK hc i pins s σ H E I hf st hg
  subst hP hw hK
  obtain ⟨xs,hq,hx⟩:=hg
  obtain ⟨its,rv,p,hz⟩:=I.tuple hq
  obtain ⟨f0,f1,f2,f3,f4,f5⟩:=hf it (by simp)
  have hl:=rv.length
  exact wpAny_pyNext_tuple_end (I.ok.hd hc) st (show s.heap.IsTuple a its.toArray from p) (by simp;omega) fun h' eb=>⟨rfl,I.turned (t':=s.toks) (fun b o hb e=>eb b o hb e) f0 f1 f3 f4 f5⟩
 self:=fun _ _ _ _ _ st h=>wpAny_pyIter_tupleiter st h
theorem a4p {P:Program} {w:World} {K:qB} {tg:Expr} (it:Addr) (lo:Int) (n:Nat):Turn P w K tg (Itr lo n) [it] it (fun i h=>IsRangeIter h it (lo+(i:Nat)*1) ((n:Int) - (i:Nat)) 1) where
 mem:=by simp
 obj:=fun i h st b hb=>by
  have e:b=it:=by simpa using hb
  subst e
  exact ⟨_,st,fun v z=>by
   have z':Data.fields _=Data.cell v:=z
   cases z'⟩
 keep:=fun i h h' st k=>k it (by simp) _ st
 item:=by
  intro X hP hw hK hc i pins s σ H E I hf st hg
  subst hP hw hK
  obtain ⟨f0,f1,f2,f3,f4,f5⟩:=hf it (by simp)
  have W:=Walks.range (prog:=X.prog) (w:=X.w) (I.ok.hd hc) it lo 1 n
  refine W.item i s _ _ hg st fun v h' tk hv st' kk=>?_
  obtain ⟨t,rfl⟩:=hv
  have I1:Inv X pins σ H { s with heap:=h',toks:=tk }:=I.turned (fun b o hb e=>kk b o (by simpa using hb) e) f0 f1 f3 f4 f5
  refine ⟨_,rfl,b0E (s:={ s with heap:=h',toks:=tk }) (n := "range_iterator") st' rfl rfl (by decide) ⟨.int (lo+i),H,I1,⟨t,?_⟩,⟨rfl,rfl⟩,st',fun b hb=>(hf b hb).1⟩⟩
  rw [Int.mul_one]
 done:=by
  intro X hP hw hK hc i pins s σ H E I hf st hg
  subst hP hw hK
  obtain ⟨f0,f1,f2,f3,f4,f5⟩:=hf it (by simp)
  exact wpAny_pyNext_range_end (I.ok.hd hc) st (by have:n≤i:=hg;omega) fun h' eb=>⟨rfl,I.turned (t':=s.toks) (fun b o hb e=>eb b o hb e) f0 f1 f3 f4 f5⟩
 self:=fun _ _ _ _ _ st h=>wpAny_pyIter_rangeiter st h
section
variable {X:Cx} {tg:Expr}
def b7l (K:qB) (tl:TE):TI:=fun σ H R=>tl σ H fun x H1=>∃ a,x=.ref a∧(∃ xs,SqL K H1 a xs)∧R (Itl K a) H1
def b8w (K:qB) (tl:TE):TI:=fun σ H R=>tl σ H fun x H1=>∃ a,x=.ref a∧(∃ xs,SqT K H1 a xs)∧R (Itt K a) H1
theorem a2a {l:Expr} {tl:TE} (hl:PE X l tl):PI X tg l (b7l X.K tl):=by
 intro pins s σ H R I h
 refine thn (hl pins s σ H _ I h) fun v s1 ⟨x,H1,I1,r1,q1⟩=>?_
 obtain ⟨a,e,⟨xs,hq⟩,q⟩:=q1
 subst e
 cases r1
 obtain ⟨its,rv,p,hz⟩:=I1.list hq
 refine wpAny_pyIter_list p.isList ?_
 refine ⟨s1.heap.objs.size,[s1.heap.objs.size],_,_,H1,rfl,I1.kept (t':=s1.toks) fun b o e=>qC _ e,a7d a _,⟨_,qI _ rfl,rfl,rfl⟩,fun b hb=>?_,q⟩
 have e:b=s1.heap.objs.size:=by simpa using hb
 subst e
 exact I1.fpOk (qN _) (I1.hok.fresh (qN _))
theorem b4F {l:Expr} {tl:TE} (hl:PE X l tl):PI X tg l (b8w X.K tl):=by
 intro pins s σ H R I h
 refine thn (hl pins s σ H _ I h) fun v s1 ⟨x,H1,I1,r1,q1⟩=>?_
 obtain ⟨a,e,⟨xs,hq⟩,q⟩:=q1
 subst e
 cases r1
 obtain ⟨its,rv,p,hz⟩:=I1.tuple hq
 refine wpAny_pyIter_tuple (show s1.heap.IsTuple a its.toArray from p) ?_
 refine ⟨s1.heap.objs.size,[s1.heap.objs.size],_,_,H1,rfl,I1.kept (t':=s1.toks) fun b o e=>qC _ e,a4o a _,⟨_,qI _ rfl,rfl,rfl⟩,fun b hb=>?_,q⟩
 have e:b=s1.heap.objs.size:=by simpa using hb
 subst e
 exact I1.fpOk (qN _) (I1.hok.fresh (qN _))
theorem a9j {pins:List (Addr×Obj)} {σ:St} {H:Hp} {s:Shared} {R:It→Hp→Prop} {E:Value→Shared→Prop} {lo hi:Int} {t u v:Tok} {tk:Nat} (I:Inv X pins σ H s) (h1:-(2 ^ 62)≤lo) (h2:lo<2 ^ 62) (h3:-(2 ^ 62)≤hi) (h4:hi<2 ^ 62)
  (q:R (Itr lo (hi - lo).toNat) H):wpAny (model X.prog X.w) X.A (pyIter (.ref s.heap.objs.size)) (PIE X pins σ tg R) E { s with heap:=s.heap.push { cls:=.type "range", data:=.fields #[.int lo t,.int hi u,.int 1 v] },toks:=tk }:=by
 refine wpAny_pyIter_range (IsRange.new ..) (small_one h1 h2 h3 h4) ?_
 have I1:Inv X pins σ H { s with heap:=s.heap.push { cls:=.type "range", data:=.fields #[.int lo t,.int hi u,.int 1 v] },toks:=tk }:=I.kept fun b o e=>qC _ e
 refine ⟨(s.heap.push { cls:=.type "range", data:=.fields #[.int lo t,.int hi u,.int 1 v] }).objs.size,[(s.heap.push { cls:=.type "range", data:=.fields #[.int lo t,.int hi u,.int 1 v] }).objs.size],_,_,H,rfl,
  I1.kept (t':=tk) fun b o e=>qC _ e,a4p _ lo (hi - lo).toNat,?_,fun b hb=>?_,q⟩
 ·have e1:lo+((0:Nat):Int)*1=lo:=by simp
  have e2:(((hi - lo).toNat:Nat):Int) - ((0:Nat):Int)=Builtin.Range.rangeSize lo hi 1:=by rw [rangeSize_one];split<;>omega
  show IsRangeIter _ _ (lo+((0:Nat):Int)*1) ((((hi - lo).toNat:Nat):Int) - ((0:Nat):Int)) 1
  rw [e1,e2]
  exact qI _ rfl
 ·have e:b=(s.heap.push { cls:=.type "range", data:=.fields #[.int lo t,.int hi u,.int 1 v] }).objs.size:=by simpa using hb
  subst e
  exact I1.fpOk (qN _) (I1.hok.fresh (qN _))
def b7k (ta:TA):TI:=fun σ H R=>ta σ H fun vs H1=>∃ j:Int,vs=[.int j]∧-(2 ^ 62)≤j∧j<2 ^ 62∧R (Itr 0 j.toNat) H1
theorem a7A {a:Expr} {ta:TA} {p pos:Pos} (hg:Gl X "range") (hm:X.mg "range" = none) (ha:PA X [a] ta) (hs:starEach [a] X.env=[(false,eval a X.env)]:=by rfl):PI X tg (.Call (.Name "range" p) [a] [] pos) (b7k ta):=by
 intro pins s σ H R I h
 refine Call_ (iZ I hg hm boot_range (jS (thn (ha pos pins s σ H _ I h) fun us s1 ⟨vs,H1,I1,r1,q1⟩=>?_) hs rfl))
 obtain ⟨j,e,q1,q2,q⟩:=q1
 subst e
 cases r1 with
 | cons r rr=>
  cases rr
  obtain ⟨t,rfl⟩:=r
  exact call_range_1 (a9j I1 (by omega) (by omega) q1 q2 (by simpa using q))
def b7U (wi:TI) (g:TG) (tb:TS):TS:=fun D σ H=>wi σ H fun J H1=>∃ W:Nat→Nat→St→Hp→Prop,(∃ m,W 0 m σ H1)∧∀ i m σ H,W i m σ H →
 (J.stop i H∧D.nx σ H)∨(J.go i H∧∃ N:St→Hp→Prop,(∀ σ' H',N σ' H'→∃ m',m'<m∧W (i+1) m' σ' H')∧∀ x H',J.yld i H x H'→g x σ H' fun σ2 H2=>tb { D with nx:=N,ct:=N,bk:=D.nx } σ2 H2)
def xP (fp:List Addr) (h:Heap):List (Addr×Obj):=fp.filterMap fun b=>(h.get? b).map fun o=>(b,o)
theorem mJ {fp:List Addr} {h:Heap} {b:Addr} {o:Obj} (hb:b∈fp) (e:h.get? b=some o):(b,o)∈xP fp h:=ve.mpr ⟨b,hb,by rw [e];rfl⟩
theorem a7C {fp:List Addr} {h:Heap} {p:Addr×Obj} (hp:p∈xP fp h):p.1∈fp∧h.get? p.1=some p.2:=by
 obtain ⟨b,hb,e⟩:=ve.mp hp
 cases q:h.get? b with
 | none=>rw [q] at e;cases e
 | some o=>
  rw [q] at e
  have e':(b,o)=p:=qA e
  subst e'
  exact ⟨hb,q⟩
theorem Inv.pinned {pins:List (Addr×Obj)} {σ:St} {H:Hp} {s:Shared} {fp:List Addr} (I:Inv X pins σ H s) (hf:∀ b∈fp,sP X pins H b) (ho:∀ b∈fp,∃ o,s.heap.get? b=some o∧∀ v,o.data≠.cell v):Inv X (pins++xP fp s.heap) σ H s:=
 I.pins_of fun p hp=>(jE.mp hp).elim (fun z=>I.pin p (qm _ z)) fun z=>by
  obtain ⟨hb,e⟩:=a7C z
  obtain ⟨f0,f1,f2,_⟩:=hf p.1 hb
  obtain ⟨o,e',d⟩:=ho p.1 hb
  rw [e] at e';cases e'
  exact ⟨e,f0,f1,f2,d⟩
theorem Inv.unpinned {pins pl:List (Addr×Obj)} {σ:St} {H:Hp} {s:Shared} (I:Inv X (pins++pl) σ H s):Inv X pins σ H s:=I.pins_of fun p hp=>I.pin p (qm _ (jw _ hp))
theorem b4E {iter:Expr} {body:List Stmt} {wi:TI} {g:TG} {tb:TS} {pos:Pos} (hp:PassesOwn (model X.prog X.w) X.A X.env X.xe) (hc:X.calm=true) (hi:PI X tg iter wi) (hg:PG X tg g) (hb:PSs X body tb)
  (hs:∀ x,foldedSetIterable iter X.env x=pure x:=by intro _;rfl):PS X (.For tg iter body [] pos) (b7U wi g tb):=by
 intro pins s σ H D I h
 refine wpAny_For (thn (hi pins s σ H _ I h) fun v s1 h1=>thn h1 fun itv s2 h2=>?_) hs
 obtain ⟨it,fp,tn,J,H2,e,I2,T,st2,f2,W,⟨m0,w0⟩,turn⟩:=h2
 subst e
 -- what stays true of the iterator's objects through the loop
 have stat:∀ {H':Hp},(∀ b∈fp,H' b=none)→∀ b∈fp,sP X pins H' b:=fun hn b hb=>⟨hn b hb,(f2 b hb).2⟩
 refine codeAny_forLoop_any (fun n s'=>∃ i σ' H',Inv X pins σ' H' s'∧tn i s'.heap∧(∀ b∈fp,H' b=none)∧W i n σ' H') ?_ m0 ⟨0,σ,H2,I2,st2,fun b hb=>(f2 b hb).1,w0⟩
 rintro n s3 ⟨i,σ3,H3,I3,st3,fr3,w3⟩
 rcases turn i n σ3 H3 w3 with ⟨stop,qn⟩ | ⟨go,N,hN,step⟩
 ·refine wpAny_passesOwn hp (thn (T.done X rfl rfl rfl hc i pins s3 σ3 H3 X.xe I3 (stat fr3) st3 stop) fun r s4 ⟨hr,I4⟩=>?_)
  subst hr
  exact wpAny_execs_nil ⟨σ3,H3,I4,qn⟩
 ·refine wpAny_passesOwn hp (thn (T.item X rfl rfl rfl hc i pins s3 σ3 H3 X.xe I3 (stat fr3) st3 go) fun r s4 ⟨u,hr,h4⟩=>?_)
  subst hr
  refine wpAny_passesOwn hp (thn h4 fun _ s5 ⟨x,H5,I5,r5,y5,st5,fr5⟩=>?_)
  have I5':=I5.pinned (stat fr5) (T.obj _ _ st5)
  refine wpAny_passesOwn hp (thn (hg _ s5 σ3 H5 x u _ I5' r5 (step x H5 y5)) fun _ s6 ⟨σ6,H6,I6,q6⟩=>?_)
  refine wpAny_passesOwn hp (thn (hb _ s6 σ6 H6 _ I6 q6) fun f s7 q7=>?_)
  have again:∀ {σ7:St} {H7:Hp},Inv X (pins++xP fp s5.heap) σ7 H7 s7→N σ7 H7→∃ m,m<n∧∃ i σ' H',Inv X pins σ' H' s7∧tn i s7.heap∧(∀ b∈fp,H' b=none)∧W i m σ' H':=fun {σ7 H7} I7 n7=>by
   obtain ⟨m',hm,w7⟩:=hN σ7 H7 n7
   refine ⟨m',hm,i+1,σ7,H7,I7.unpinned,T.keep _ _ _ st5 fun b hb o e=>(I7.pin (b,o) (qm _ (qm _ (mJ hb e)))).1,fun b hb=>?_,w7⟩
   obtain ⟨o,e,d⟩:=T.obj _ _ st5 b hb
   exact (I7.pin (b,o) (qm _ (qm _ (mJ hb e)))).2.1
  cases f with
  | next=>obtain ⟨σ7,H7,I7,n7⟩:=q7;exact again I7 n7
  | cont=>obtain ⟨σ7,H7,I7,n7⟩:=q7;exact again I7 n7
  | brk=>obtain ⟨σ7,H7,I7,q7⟩:=q7;exact ⟨σ7,H7,I7.unpinned,q7⟩
  | ret v=>obtain ⟨x7,σ7,H7,I7,r7,q7⟩:=q7;exact ⟨x7,σ7,H7,I7.unpinned,r7,q7⟩
end
abbrev R2:=V→V→Hp→VK→Prop
def OpR (X:Cx) (f:Value→Value→Sem Value) (r:R2):Prop:=
 ∀ (pins:List (Addr×Obj)) (s:Shared) (σ:St) (H:Hp) (x y:V) (v u:Value) (Q:VK),Inv X pins σ H s→RelV x v→RelV y u→r x y H Q →
  wpAny (model X.prog X.w) X.A (f v u) (EP X pins σ Q) X.xe s
def UnR (X:Cx) (f:Value→Sem Value) (r:V→Hp→VK→Prop):Prop:=
 ∀ (pins:List (Addr×Obj)) (s:Shared) (σ:St) (H:Hp) (x:V) (v:Value) (Q:VK),Inv X pins σ H s→RelV x v→r x H Q →
  wpAny (model X.prog X.w) X.A (f v) (EP X pins σ Q) X.xe s
def dU (X:Cx) (f:Value) (r:List V→Hp→VK→Prop):Prop:=
 ∀ (pins:List (Addr×Obj)) (s:Shared) (σ:St) (H:Hp) (xs:List V) (us:List Value) (Q:VK),Inv X pins σ H s→aX xs us→r xs H Q →
  wpAny (model X.prog X.w) X.A (call f us) (EP X pins σ Q) X.xe s
def b8H (X:Cx) (r:V→Hp→(Bool→Hp→Prop)→Prop):Prop:=
 ∀ (pins:List (Addr×Obj)) (s:Shared) (σ:St) (H:Hp) (x:V) (v:Value) (Q:Bool→Hp→Prop),Inv X pins σ H s→RelV x v→r x H Q →
  wpAny (model X.prog X.w) X.A (truthy v) (TP X pins σ Q) X.xe s
def tOp (r:R2) (ta tb:TE):TE:=fun σ H Q=>ta σ H fun x H1=>tb σ H1 fun y H2=>r x y H2 Q
def tUn (r:V→Hp→VK→Prop) (ta:TE):TE:=fun σ H Q=>ta σ H fun x H1=>r x H1 Q
def rI (C:Int→Int→Prop) (g:Int→Int→V):R2:=fun x y H Q=>∃ i j,x=.int i∧y=.int j∧C i j∧Q (g i j) H
def rI0 (g:Int→Int→V):R2:=fun x y H Q=>∃ i j,x=.int i∧y=.int j∧Q (g i j) H
def rU (g:Int→V):V→Hp→VK→Prop:=fun x H Q=>∃ i,x=.int i∧Q (g i) H
section
variable {X:Cx} {a b c:Expr} {ta tb tc:TE} {pos:Pos}
theorem b6e (ha:PE X a ta) (hb:PE X b tb) {pins:List (Addr×Obj)} {s:Shared} {σ:St} {H:Hp} {R:V→V→Hp→Prop} (I:Inv X pins σ H s)
  (h:ta σ H fun x H1=>tb σ H1 fun y H2=>R x y H2) {Q:Value→Shared→Prop} {f:Value→Value→Sem Value}
  (hf:∀ v u s2 x y H2,Inv X pins σ H2 s2→RelV x v→RelV y u→R x y H2→wpAny (model X.prog X.w) X.A (f v u) Q X.xe s2) :
  wpAny (model X.prog X.w) X.A (eval a X.env) (fun v s₁=>wpAny (model X.prog X.w) X.A (eval b X.env) (fun u s₂=>wpAny (model X.prog X.w) X.A (f v u) Q X.xe s₂) X.xe s₁) X.xe s:=by
 refine thn (ha pins s σ H _ I h) fun v s1 ⟨x,H1,I1,r1,q1⟩=>?_
 refine thn (hb pins s1 σ H1 _ I1 q1) fun u s2 ⟨y,H2,I2,r2,q2⟩=>?_
 exact hf v u s2 x y H2 I2 r1 r2 q2
theorem b3N {op:Operator} {r:R2} (ho:OpR X (binaryOp op) r) (ha:PE X a ta) (hb:PE X b tb):PE X (.BinOp a op b pos) (tOp r ta tb):=by
 intro pins s σ H Q I h
 exact wpAny_BinOp (b6e ha hb I h fun v u s2 x y H2 I2 rx ry q=>ho pins s2 σ H2 x y v u Q I2 rx ry q)
theorem b6O {op:UnaryOp} {r:V→Hp→VK→Prop} (ho:UnR X (unaryOp op) r) (ha:PE X a ta):PE X (.UnaryOp op a pos) (tUn r ta):=by
 intro pins s σ H Q I h
 exact UnaryOp_ (thn (ha pins s σ H _ I h) fun v s1 ⟨x,H1,I1,r1,q1⟩=>ho pins s1 σ H1 x v Q I1 r1 q1)
theorem opI {f:Value→Value→Sem Value} {C:Int→Int→Prop} {g:Int→Int→Int}
  (rule:∀ (i j:Int) (t u:Tok) (s:Shared) (Q:Value→Shared→Prop) (E:Value→Shared→Prop),C i j→Q (.int (g i j) s.toks) { s with toks:=s.toks+1 }→wpAny (model X.prog X.w) X.A (f (.int i t) (.int j u)) Q E s) :
  OpR X f (rI C fun i j=>.int (g i j)):=by
 intro pins s σ H x y v u Q I rx ry h
 obtain ⟨i,j,rfl,rfl,hc,q⟩:=h
 obtain ⟨t,rfl⟩:=rx
 obtain ⟨t',rfl⟩:=ry
 exact rule i j t t' s _ _ hc ⟨.int (g i j),H,I.tok _,⟨_,rfl⟩,q⟩
theorem b6V {f:Value→Value→Sem Value} {g:Int→Int→Int}
  (rule:∀ (i j:Int) (t u:Tok) (s:Shared) (Q:Value→Shared→Prop) (E:Value→Shared→Prop),Q (.int (g i j) s.toks) { s with toks:=s.toks+1 }→wpAny (model X.prog X.w) X.A (f (.int i t) (.int j u)) Q E s) :
  OpR X f (rI0 fun i j=>.int (g i j)):=by
 intro pins s σ H x y v u Q I rx ry h
 obtain ⟨i,j,rfl,rfl,q⟩:=h
 obtain ⟨t,rfl⟩:=rx
 obtain ⟨t',rfl⟩:=ry
 exact rule i j t t' s _ _ ⟨.int (g i j),H,I.tok _,⟨_,rfl⟩,q⟩
theorem b4Z {f:Value→Value→Sem Value} {g:Int→Int→Bool}
  (rule:∀ (i j:Int) (t u:Tok) (s:Shared) (Q:Value→Shared→Prop) (E:Value→Shared→Prop),Q (.bool (g i j)) s→wpAny (model X.prog X.w) X.A (f (.int i t) (.int j u)) Q E s) :
  OpR X f (rI0 fun i j=>.bl (g i j)):=by
 intro pins s σ H x y v u Q I rx ry h
 obtain ⟨i,j,rfl,rfl,q⟩:=h
 obtain ⟨t,rfl⟩:=rx
 obtain ⟨t',rfl⟩:=ry
 exact rule i j t t' s _ _ ⟨.bl (g i j),H,I,rfl,q⟩
def b8N (i j:Int):Prop:=0<j∧j<1073741824
def b6k (i j:Int):Prop:=(-(2 ^ 64)<i∧i<2 ^ 64)∨(-(2 ^ 64)<j∧j<2 ^ 64)
theorem b6k.ok {i j:Int} (h:b6k i j):IntMulOk i j:=by
 rcases h with ⟨h1,h2⟩ | ⟨h1,h2⟩
 ·exact .of_left (intBits_le_64 h1 h2)
 ·exact .of_right (intBits_le_64 h1 h2)
theorem b4Y:OpR X (binaryOp .Add) (rI0 fun i j=>.int (i+j)):=b6V fun _ _ _ _ _ _ _ q=>add_int q
theorem b4S:OpR X (binaryOp .Sub) (rI0 fun i j=>.int (i - j)):=b6V fun _ _ _ _ _ _ _ q=>sub_int q
theorem b4U:OpR X (binaryOp .Mult) (rI b6k fun i j=>.int (i*j)):=opI fun _ _ _ _ _ _ _ hc q=>mul_int q hc.ok
theorem b2q:OpR X (binaryOp .FloorDiv) (rI b8N fun i j=>.int (i / j)):=opI fun i j _ _ _ _ _ hc q=>by
 have h1:(0:Int)<j:=hc.1
 have h2:j<1073741824:=hc.2
 exact floordiv_int (by omega) (by rw [Int.fdiv_eq_ediv_of_nonneg i (by omega)];exact q) (.inl (PyProof.noPylong_small (by omega)))
theorem b4V:OpR X (binaryOp .Mod) (rI (fun _ j=>0<j) fun i j=>.int (i % j)):=opI fun i j _ _ _ _ _ hc q=>by
 have h1:(0:Int)<j:=hc
 exact mod_int' (by omega) (by rw [Int.fmod_eq_emod_of_nonneg i (by omega)];exact q)
theorem unI {f:Value→Sem Value} {g:Int→Int}
  (rule:∀ (i:Int) (t:Tok) (s:Shared) (Q:Value→Shared→Prop) (E:Value→Shared→Prop),Q (.int (g i) s.toks) { s with toks:=s.toks+1 }→wpAny (model X.prog X.w) X.A (f (.int i t)) Q E s) :
  UnR X f (rU fun i=>.int (g i)):=by
 intro pins s σ H x v Q I rx h
 obtain ⟨i,rfl,q⟩:=h
 obtain ⟨t,rfl⟩:=rx
 exact rule i t s _ _ ⟨.int (g i),H,I.tok _,⟨_,rfl⟩,q⟩
theorem b4l:UnR X (unaryOp .USub) (rU fun i=>.int (-i)):=unI fun _ _ _ _ _ q=>neg_int q
end
def b6A:V→V→Bool
 | .non,.non=>true | .non,.int _=>true | .int _,.non=>true | .non,.bl _=>true | .bl _,.non=>true | .non,.str _=>true | .str _,.non=>true
 | .int _,.int _=>true | .bl _,.bl _=>true | .str _,.str _=>true | .byt _,.byt _=>true
 | .int _,.str _=>true | .str _,.int _=>true | .bl _,.str _=>true | .str _,.bl _=>true
 | _,_=>false
def rEq:R2:=fun x y H Q=>b6A x y=true∧Q (.bl (decide (x=y))) H
def rNe:R2:=fun x y H Q=>b6A x y=true∧Q (.bl (!decide (x=y))) H
theorem a6T {i j:Int}:decide (V.int i=V.int j)=(i==j):=by
 rw [kN]
 simp
theorem b1f {i j:Bool}:decide (V.bl i=V.bl j)=(i==j):=by
 rw [kN]
 simp
theorem a6S {i j:Str}:decide (V.str i=V.str j)=(i==j):=by
 rw [kN]
 simp
theorem a6U {i j:Array UInt8}:decide (V.byt i=V.byt j)=(i.toList==j.toList):=by
 rw [kN]
 cases i
 cases j
 simp
section
variable {X:Cx} {a b c:Expr} {ta tb tc:TE} {pos:Pos}
theorem bK {pins:List (Addr×Obj)} {σ:St} {H:Hp} {s:Shared} {Q:VK} {k k':Bool} (I:Inv X pins σ H s) (q:Q (.bl k) H) (e:k=k'):EP X pins σ Q (.bool k') s:=by
 subst e
 exact ⟨.bl k,H,I,rfl,q⟩
theorem a9H:OpR X (compareOp .Eq) rEq:=by
 intro pins s σ H x y v u Q I rx ry h
 obtain ⟨hs,q⟩:=h
 cases x with
 | non=>
  cases rx
  cases y with
  | non=>cases ry;exact PySem.EqNone.eq_none_none (bK I q (by simp))
  | bl j=>cases ry;exact PySem.EqNone.eq_none_bool (bK I q (by simp))
  | int j=>obtain ⟨t',rfl⟩:=ry;exact PySem.EqNone.eq_none_int (bK I q (by simp))
  | str j=>obtain ⟨t',rfl⟩:=ry;exact PySem.EqNone.eq_none_str (bK I q (by simp))
  | _=>exact absurd (show false=true from hs) qX
 | bl i=>
  cases rx
  cases y with
  | non=>cases ry;exact PySem.EqNone.eq_bool_none (bK I q (by simp))
  | bl j=>cases ry;exact eq_bool (bK I q b1f)
  | str j=>obtain ⟨t',rfl⟩:=ry;exact PySem.EqMixed.eq_bool_str (bK I q (by simp))
  | _=>exact absurd (show false=true from hs) qX
 | int i=>
  obtain ⟨t,rfl⟩:=rx
  cases y with
  | non=>cases ry;exact PySem.EqNone.eq_int_none (bK I q (by simp))
  | int j=>obtain ⟨t',rfl⟩:=ry;exact eq_int (bK I q a6T)
  | str j=>obtain ⟨t',rfl⟩:=ry;exact PySem.EqMixed.eq_int_str (bK I q (by simp))
  | _=>exact absurd (show false=true from hs) qX
 | str i=>
  obtain ⟨t,rfl⟩:=rx
  cases y with
  | non=>cases ry;exact PySem.EqNone.eq_str_none (bK I q (by simp))
  | bl j=>cases ry;exact PySem.EqMixed.eq_str_bool (bK I q (by simp))
  | int j=>obtain ⟨t',rfl⟩:=ry;exact PySem.EqMixed.eq_str_int (bK I q (by simp))
  | str j=>obtain ⟨t',rfl⟩:=ry;exact eq_str (bK I q a6S)
  | _=>exact absurd (show false=true from hs) qX
 | byt i=>
  obtain ⟨t,rfl⟩:=rx
  cases y with
  | byt j=>obtain ⟨t',rfl⟩:=ry;exact PySem.W.eq_bytes (bK I q a6U)
  | _=>exact absurd (show false=true from hs) qX
 | _=>cases y<;>exact absurd (show false=true from hs) qX
theorem a9G:OpR X (compareOp .NotEq) rNe:=by
 intro pins s σ H x y v u Q I rx ry h
 obtain ⟨hs,q⟩:=h
 cases x with
 | non=>
  cases rx
  cases y with
  | non=>cases ry;exact PySem.EqNone.ne_none_none (bK I q (by simp))
  | bl j=>cases ry;exact PySem.EqNone.ne_none_bool (bK I q (by simp))
  | int j=>obtain ⟨t',rfl⟩:=ry;exact PySem.EqNone.ne_none_int (bK I q (by simp))
  | str j=>obtain ⟨t',rfl⟩:=ry;exact PySem.EqNone.ne_none_str (bK I q (by simp))
  | _=>exact absurd (show false=true from hs) qX
 | bl i=>
  cases rx
  cases y with
  | non=>cases ry;exact PySem.EqNone.ne_bool_none (bK I q (by simp))
  | bl j=>cases ry;exact ne_bool (bK I q (congrArg not b1f))
  | str j=>obtain ⟨t',rfl⟩:=ry;exact PySem.EqMixed.ne_bool_str (bK I q (by simp))
  | _=>exact absurd (show false=true from hs) qX
 | int i=>
  obtain ⟨t,rfl⟩:=rx
  cases y with
  | non=>cases ry;exact PySem.EqNone.ne_int_none (bK I q (by simp))
  | int j=>obtain ⟨t',rfl⟩:=ry;exact ne_int (bK I q (congrArg not a6T))
  | str j=>obtain ⟨t',rfl⟩:=ry;exact PySem.EqMixed.ne_int_str (bK I q (by simp))
  | _=>exact absurd (show false=true from hs) qX
 | str i=>
  obtain ⟨t,rfl⟩:=rx
  cases y with
  | non=>cases ry;exact PySem.EqNone.ne_str_none (bK I q (by simp))
  | bl j=>cases ry;exact PySem.EqMixed.ne_str_bool (bK I q (by simp))
  | int j=>obtain ⟨t',rfl⟩:=ry;exact PySem.EqMixed.ne_str_int (bK I q (by simp))
  | str j=>obtain ⟨t',rfl⟩:=ry;exact ne_str (bK I q (congrArg not a6S))
  | _=>exact absurd (show false=true from hs) qX
 | byt i=>
  obtain ⟨t,rfl⟩:=rx
  cases y with
  | byt j=>obtain ⟨t',rfl⟩:=ry;exact PySem.W.ne_bytes (bK I q (congrArg not a6U))
  | _=>exact absurd (show false=true from hs) qX
 | _=>cases y<;>exact absurd (show false=true from hs) qX
theorem b6S:OpR X (compareOp .Lt) (rI0 fun i j=>.bl (decide (i<j))):=b4Z fun _ _ _ _ _ _ _ q=>lt_int q
theorem b6T:OpR X (compareOp .LtE) (rI0 fun i j=>.bl (decide (i≤j))):=b4Z fun _ _ _ _ _ _ _ q=>le_int q
theorem b6U:OpR X (compareOp .Gt) (rI0 fun i j=>.bl (decide (j<i))):=b4Z fun _ _ _ _ _ _ _ q=>gt_int q
theorem b2n:OpR X (compareOp .IsNot) (fun x y H Q=>y=.non∧Q (.bl (!decide (x=.non))) H):=by
 intro pins s σ H x y v u Q I rx ry h
 obtain ⟨rfl,q⟩:=h
 cases ry
 refine isnot_none_gen (bK I q ?_)
 cases x<;>first
  | (cases rx;rfl)
  | (obtain ⟨t,rfl⟩:=rx;rfl)
theorem a9M (b:Expr) {op:CmpOp} (h:op≠.In:=by decide) (h2:op≠.NotIn:=by decide):behindInMarks op b=false:=by
 have e1:(op==CmpOp.In)=false:=by cases op<;>first | rfl | exact absurd rfl h
 have e2:(op==CmpOp.NotIn)=false:=by cases op<;>first | rfl | exact absurd rfl h2
 cases b<;>simp [behindInMarks,e1,e2]
theorem b2i {op:CmpOp} {r:R2} (ho:OpR X (compareOp op) r) (ha:PE X a ta) (hb:PE X b tb) (hm:behindInMarks op b=false):PE X (.Compare a [op] [b] pos) (tOp r ta tb):=by
 intro pins s σ H Q I h
 exact wpAny_Compare1 (b6e ha hb I h fun v u s2 x y H2 I2 rx ry q=>ho pins s2 σ H2 x y v u Q I2 rx ry q) hm
def b3G (t:TE):TT:=fun σ H Q=>t σ H fun x H'=>∃ k,x=.bl k∧Q k H'
theorem b1X {op:CmpOp} {r:R2} (ho:OpR X (compareOp op) r) (ha:PE X a ta) (hb:PE X b tb) (hm:behindInMarks op b=false):PT X (.Compare a [op] [b] pos) (b3G (tOp r ta tb)):=by
 intro pins s σ H Q I h
 refine wpAny_isTrue_Compare1 (thn (ha pins s σ H _ I h) fun v s1 ⟨x,H1,I1,r1,q1⟩=>thn (hb pins s1 σ H1 _ I1 q1) fun u s2 ⟨y,H2,I2,r2,q2⟩=>
  thn (ho pins s2 σ H2 x y v u _ I2 r1 r2 q2) fun c s3 ⟨z,H3,I3,r3,k,e,q3⟩=>?_) hm
 subst e
 cases r3
 exact wpAny_truthy_bool ⟨H3,I3,q3⟩
def a8W (r r':R2) (ta tb tc:TE):TE:=fun σ H Q=>ta σ H fun x H1=>tb σ H1 fun y H2=>r x y H2 fun z H3=>∃ k,z=.bl k ∧
 (if k=true then tc σ H3 fun w' H4=>r' y w' H4 Q else Q (.bl false) H3)
theorem a9A {op op':CmpOp} {r r':R2} (ho:OpR X (compareOp op) r) (ho':OpR X (compareOp op') r') (ha:PE X a ta) (hb:PE X b tb) (hc:PE X c tc)
  (hm:lastMarks [op,op'] [b,c]=false:=by with_unfolding_all rfl):PE X (.Compare a [op,op'] [b,c] pos) (a8W r r' ta tb tc):=by
 intro pins s σ H Q I h
 refine Compare_chain (thn (ha pins s σ H _ I h) fun v s1 ⟨x,H1,I1,r1,q1⟩=>chain_link (thn (hb pins s1 σ H1 _ I1 q1) fun u s2 ⟨y,H2,I2,r2,q2⟩=>
  thn (ho pins s2 σ H2 x y v u _ I2 r1 r2 q2) fun d s3 ⟨z,H3,I3,r3,k,e,q3⟩=>?_)) hm
 subst e
 cases r3
 refine wpAny_truthy_bool ?_
 cases k with
 | false=>exact ite_ff ⟨.bl false,H3,I3,rfl,q3⟩
 | true=>exact ite_tt (chain_last (thn (hc pins s3 σ H3 _ I3 q3) fun w' s4 ⟨z',H4,I4,r4,q4⟩=>ho' pins s4 σ H4 y z' u w' Q I4 r2 r4 q4))
theorem a9p {op op':CmpOp} {r r':R2} (ho:OpR X (compareOp op) r) (ho':OpR X (compareOp op') r') (ha:PE X a ta) (hb:PE X b tb) (hc:PE X c tc)
  (hm:lastMarks [op,op'] [b,c]=false:=by with_unfolding_all rfl):PT X (.Compare a [op,op'] [b,c] pos) (b3G (a8W r r' ta tb tc)):=by
 intro pins s σ H Q I h
 refine isTrue_chain (thn (ha pins s σ H _ I h) fun v s1 ⟨x,H1,I1,r1,q1⟩=>test_link (thn (hb pins s1 σ H1 _ I1 q1) fun u s2 ⟨y,H2,I2,r2,q2⟩=>
  thn (ho pins s2 σ H2 x y v u _ I2 r1 r2 q2) fun d s3 ⟨z,H3,I3,r3,k,e,q3⟩=>?_)) hm
 subst e
 cases r3
 refine wpAny_truthy_bool ?_
 cases k with
 | false=>
  obtain ⟨k',e',q'⟩:=q3
  cases e'
  exact ite_ff ⟨H3,I3,q'⟩
 | true=>
  refine ite_tt (test_last (thn (hc pins s3 σ H3 _ I3 q3) fun w' s4 ⟨z',H4,I4,r4,q4⟩=>thn (ho' pins s4 σ H4 y z' u w' _ I4 r2 r4 q4) fun d' s5 ⟨z2,H5,I5,r5,k2,e2,q5⟩=>?_))
  subst e2
  cases r5
  exact wpAny_truthy_bool ⟨H5,I5,q5⟩
def b6h (K:qB) (x:V) (H:Hp) (k:Bool):Prop:=
 match x with
 | .non=>k=false
 | .bl b=>k=b
 | .int i=>k=(i != 0)
 | .str y=>y.length≤sizeLine∧k=((y.length:Int) != 0)
 | .byt y=>y.size≤sizeLine∧k=((y.size:Int) != 0)
 | .ref p=>(∃ xs,SqL K H p xs∧k=!xs.isEmpty)∨(∃ xs,SqT K H p xs∧k=!xs.isEmpty)∨∃ kvs,H p=some (.dK kvs)∧k=!kvs.isEmpty
 | _=>False
theorem a5c {κ:Type} {kvs:List (κ×V)} {vs:List (κ×Value)} (r:KV kvs vs):(!vs.isEmpty)=!kvs.isEmpty:=by
 cases r<;>rfl
theorem yF {xs:List V} {its:List Value} (r:aX xs its):(!its.toArray.isEmpty)=!xs.isEmpty:=by
 cases r<;>simp
theorem pH:(sizeLine:Nat)<2 ^ 63:=by rw [sizeLine_eq];decide
theorem b4n:b8H X (fun x H Q=>∃ k,b6h X.K x H k∧Q k H):=by
 intro pins s σ H x v Q I rx h
 obtain ⟨k,e,q⟩:=h
 have hl:=pH
 have hs:sizeLine=16777216:=sizeLine_eq
 cases x with
 | non=>
  cases rx
  have e':k=false:=e
  subst e'
  exact truthy_none ⟨H,I,q⟩
 | bl b=>
  cases rx
  have e':k=b:=e
  subst e'
  exact wpAny_truthy_bool ⟨H,I,q⟩
 | int i=>
  obtain ⟨t,rfl⟩:=rx
  have e':k=(i != 0):=e
  subst e'
  exact PySem.P.truthy_int ⟨H,I,q⟩
 | str y=>
  obtain ⟨t,rfl⟩:=rx
  obtain ⟨hy,e'⟩:y.length≤sizeLine∧k=((y.length:Int) != 0):=e
  subst e'
  exact PySem.P.truthy_str (by omega) ⟨H,I.tok _,q⟩
 | byt y=>
  obtain ⟨t,rfl⟩:=rx
  obtain ⟨hy,e'⟩:y.size≤sizeLine∧k=((y.size:Int) != 0):=e
  subst e'
  exact PySem.W.truthy_bytes (by omega) ⟨H,I.tok _,q⟩
 | ref p=>
  cases rx
  have e':(∃ xs,SqL X.K H p xs∧k=!xs.isEmpty)∨(∃ xs,SqT X.K H p xs∧k=!xs.isEmpty)∨∃ kvs,H p=some (.dK kvs)∧k=!kvs.isEmpty:=e
  rcases e' with ⟨xs,hx,e'⟩ | ⟨xs,hx,e'⟩ | ⟨kvs,hx,e'⟩
  ·subst e'
   obtain ⟨its,r,pl,hz⟩:=I.list hx
   have hlen:=r.length
   exact wpAny_truthy_list pl.isList (by simp only [qL];omega) ⟨H,I.tok _,by rw [yF r];exact q⟩
  ·subst e'
   obtain ⟨its,r,pl,hz⟩:=I.tuple hx
   have hlen:=r.length
   exact truthy_tuple pl (by simp only [qL];omega) ⟨H,I.tok _,by rw [yF r];exact q⟩
  ·subst e'
   obtain ⟨hz,hS,vs,r,m⟩:kvs.length≤sizeLine∧(p==sysModules)=false∧∃ vs,KV kvs vs∧s.heap.DictOf (bF X.prog X.w) p vs:=I.hok p _ hx
   have hlen:kvs.length=vs.length:=Paired.length r
   exact wpAny_truthy_dict hS m (by omega) ⟨H,I.tok _,by rw [a5c r];exact q⟩
 | _=>exact (show False from e).elim
theorem a9n (ha:PE X a ta) (he:∀ whole,isTrue a X.env whole=(do let v ←whole;standAt a.pos;holding [v] (truthy v))) :
  PT X a (fun σ H Q=>ta σ H fun x H'=>∃ k,b6h X.K x H' k∧Q k H'):=by
 intro pins s σ H Q I h
 exact isTrue_plain (thn (ha pins s σ H _ I h) fun v s1 ⟨x,H1,I1,r1,q1⟩=>b4n pins s1 σ H1 x v Q I1 r1 q1) (he _)
theorem a4K:OpR X (binaryOp .Add) (fun x y H Q=>∃ i j,x=.str i∧y=.str j∧i.length+j.length≤sizeLine∧Q (.str (i++j)) H):=by
 intro pins s σ H x y v u Q I rx ry h
 obtain ⟨i,j,rfl,rfl,hz,q⟩:=h
 obtain ⟨t,rfl⟩:=rx
 obtain ⟨t',rfl⟩:=ry
 exact add_str (fun t' tk=>⟨.str (i++j),H,I.tok _,⟨_,rfl⟩,q⟩) hz
theorem vals1 {x:V} {us:List Value} (r:aX [x] us):∃ u,us=[u]∧RelV x u:=by
 cases r with
 | cons r1 r2=>cases r2;exact ⟨_,rfl,r1⟩
theorem vals2 {x y:V} {us:List Value} (r:aX [x,y] us):∃ u w',us=[u,w']∧RelV x u∧RelV y w':=by
 cases r with
 | cons r1 r2=>
  cases r2 with
  | cons r3 r4=>cases r4;exact ⟨_,_,rfl,r1,r3⟩
theorem a8p (hc:X.calm=true):dU X (.builtin "max") (fun xs H Q=>∃ i j,xs=[.int i,.int j]∧Q (.int (if j > i then j else i)) H):=by
 intro pins s σ H xs us Q I r h
 obtain ⟨i,j,rfl,q⟩:=h
 obtain ⟨u,w',rfl,⟨t,rfl⟩,⟨t',rfl⟩⟩:=vals2 r
 refine max_two_ints (I.ok.hd hc) fun h' tk k=>⟨_,H,I.kept k,?_,q⟩
 by_cases hj:j > i
 ·rw [if_pos hj,if_pos hj];exact ⟨_,rfl⟩
 ·rw [if_neg hj,if_neg hj];exact ⟨_,rfl⟩
theorem a8n (hc:X.calm=true):dU X (.builtin "min") (fun xs H Q=>∃ i j,xs=[.int i,.int j]∧Q (.int (if j<i then j else i)) H):=by
 intro pins s σ H xs us Q I r h
 obtain ⟨i,j,rfl,q⟩:=h
 obtain ⟨u,w',rfl,⟨t,rfl⟩,⟨t',rfl⟩⟩:=vals2 r
 refine min_two_ints (I.ok.hd hc) fun h' tk k=>⟨_,H,I.kept k,?_,q⟩
 by_cases hj:j<i
 ·rw [if_pos hj,if_pos hj];exact ⟨_,rfl⟩
 ·rw [if_neg hj,if_neg hj];exact ⟨_,rfl⟩
theorem a1A:dU X (.type "int") (fun xs H Q=>(∃ i,xs=[.int i]∧Q (.int i) H)∨∃ k,xs=[.bl k]∧Q (.int (if k then 1 else 0)) H):=by
 intro pins s σ H xs us Q I r h
 rcases h with ⟨i,rfl,q⟩ | ⟨k,rfl,q⟩
 ·obtain ⟨u,rfl,t,rfl⟩:=vals1 r
  exact call_int_int ⟨.int i,H,I,⟨_,rfl⟩,q⟩
 ·obtain ⟨u,rfl,r1⟩:=vals1 r
  cases r1
  exact call_int_bool ⟨.int (if k then 1 else 0),H,I.tok _,⟨_,rfl⟩,q⟩
end
structure ObjM (h:Heap) (x dx C:Addr) (mA:Str→Option Value):Prop where
 obj:h.get? x=some (PySem.W.instObj C dx)
 ns:h.Ns1 dx mA
 ne:dx≠x
theorem a7P {h:Heap} {dx:Addr} {mA:Str→Option Value} (n:h.Ns1 dx mA):∃ od,h.get? dx=some od∧∀ name,PySem.W.lookIn name od=some (mA name):=by
 obtain ⟨o,es,ep,ho,hd,hk,_,hm⟩:=n
 refine ⟨o,ho,fun name=>?_⟩
 have e:=hm name
 unfold nsFind findBy at e
 rw [←Array.find?_toList] at e
 unfold PySem.W.lookIn
 rw [hd]
 dsimp only
 split
 ·rename_i y q
  rw [q] at e
  exact congrArg some e
 ·rename_i q
  rw [q] at e
  have a:es.toList.any (·.refKey)=false:=by
   rw [List.any_eq_false]
   intro y hy
   obtain ⟨z,t,hkey⟩:=hk y (Array.mem_toList_iff.mp hy)
   simp [DictEntry.refKey,hkey]
  have a':¬es.toList.any (·.refKey)=true:=by rw [a];exact qX
  rw [if_neg a']
  exact congrArg some e
theorem ObjM.look {h:Heap} {x dx C:Addr} {mA:Str→Option Value} (I:ObjM h x dx C mA):∃ od,PySem.W.InstAt h x (PySem.W.instObj C dx) C (some od)∧∀ name,PySem.W.lookIn name od=some (mA name):=
 let ⟨od,ho,hl⟩:=a7P I.ns
 ⟨od,⟨I.obj,rfl,rfl,ho⟩,hl⟩
section
variable {prog:Program} {w:World} {A:Around} {E:Value→Shared→Prop} {s:Shared} {K:qB} {x dx C f:Addr} {mA:Str→Option Value} {name:Str} {v:Value}
end
theorem uM.some_of {v:V} {o:Option Value} (r:uM (some v) o):∃ u,o=some u∧RelV v u:=by
 cases o with
 | none=>exact (show False from r).elim
 | some u=>exact ⟨u,rfl,r⟩
theorem uM.none_of {o:Option Value} (r:uM none o):o=none:=by
 cases o with
 | none=>rfl
 | some u=>exact (show False from r).elim
section
variable {P:Program} {w:World} {H H':Hp} {h h':Heap} {a C dx:Addr} {fs fs':List (Str×V)}
theorem b2R (hok:HOk P w H h) (e:H a=some (.ins C dx fs)):∃ mA,ObjM h a dx C mA∧(∀ f,uM (fs.lookup f) (mA f))∧PySem.Within mA (fs.map (·.1))∧fs.length≤1000∧H dx=some (.own a):=by
 obtain ⟨d,z,ne,ob,mA,n,r,q⟩:=(show bY P w H h a (.ins C dx fs) from hok a _ e)
 exact ⟨mA,⟨ob,n,ne⟩,r,q,z,d⟩
end
structure Cls (K:qB) (C:Addr):Prop where
 pg:PySem.W.plainGet K C Str.empty=true
 hd:PySem.W.hasDictIn K C=true
 po:PySem.W.plainOver K C=true
 sa:zi K (.ref C) "__setattr__" = some (some (.builtin "object.__setattr__"))
theorem Cls.get {K:qB} {C:Addr} (c:Cls K C) (f:Str):PySem.W.plainGet K C f=true:=c.pg
section
variable {X:Cx} {pins:List (Addr×Obj)} {σ:St} {H:Hp} {s:Shared} {a C dx:Addr} {fs:List (Str×V)} {f:Str} {v:V} {A:Around} {E:Value→Shared→Prop}
end
section
variable {X:Cx} {o e value:Expr} {f:Str} {pos pos' tpos:Pos} {ta tv:TE}
end
section
variable {X:Cx} {pins:List (Addr×Obj)} {σ:St} {H:Hp} {s:Shared} {A:Around} {E:Value→Shared→Prop} {Q:Value→Shared→Prop} {c:Value} {b:Bool}
inductive TyOf (K:qB) (H:Hp):V→Value→Prop where
 | non:TyOf K H .non (.type "NoneType")
 | bl (x:Bool):TyOf K H (.bl x) (.type "bool")
 | int (i:Int):TyOf K H (.int i) (.type "int")
 | str (x:Str):TyOf K H (.str x) (.type "str")
 | flt (x:UInt64):TyOf K H (.flt x) (.type "float")
 | lst {a:Addr} {xs:List V} (e:H a=some (.lst xs)):TyOf K H (.ref a) (.type "list")
 | frz {a:Addr} {o:Obj} {xs:List V} (e:H a=some (.frz o (.lst xs))):TyOf K H (.ref a) (.type "list")
 | tup {a:Addr} {xs:List V} (e:H a=some (.tup xs)):TyOf K H (.ref a) (.type "tuple")
 | dK {a:Addr} {kvs:List (Key×V)} (e:H a=some (.dK kvs)):TyOf K H (.ref a) (.type "dict")
 | dT {a:Addr} {kvs:List (List Key×V)} (e:H a=some (.dT kvs)):TyOf K H (.ref a) (.type "dict")
 | ins {a C dx:Addr} {fs:List (Str×V)} (e:H a=some (.ins C dx fs)) (cl:Cls K C) (ha:zi K (.ref C) "__class__" = some (some (.builtin "object.__class__")))
   (hn:PySem.W.specialIn K (.builtin "object.__class__") "__get__" = some (some (.builtin "getset_descriptor.__get__"))) (htk:PySem.W.takesIn K (.builtin "object.__class__")=some true)
   (hm:PySem.W.mroIn K C (.type "object")=some true):TyOf K H (.ref a) (.ref C)
theorem lJ {x:V} {u t:Value} (I:Inv X pins σ H s) (rx:RelV x u) (ty:TyOf X.K H x t) (e:zG X.K t c=some b) (h:∀ tk,Q (.bool b) { s with toks:=tk }) :
  wpAny (model X.prog X.w) A (call (.builtin "isinstance") [u,c]) Q E s:=by
 cases ty with
 | non=>cases (show u=jf from rx);exact jJ PySem.W.kitx_none I.kIn kW e (fun z=>nomatch z) h
 | bl y=>cases (show u=jR y from rx);exact jJ PySem.W.kitx_bool I.kIn kW e (fun z=>nomatch z) h
 | int i=>obtain ⟨t,q⟩:=(show ∃ t,u=vb i t from rx);cases q;exact jJ PySem.W.kitx_int I.kIn kW e (fun z=>nomatch z) h
 | str y=>obtain ⟨t,q⟩:=(show ∃ t,u=va y t from rx);cases q;exact jJ PySem.W.kitx_str I.kIn kW e (fun z=>nomatch z) h
 | flt y=>obtain ⟨t,q⟩:=(show ∃ t,u=Value.float y t from rx);cases q;exact jJ PySem.W.kitx_float I.kIn kW e (fun z=>nomatch z) h
 | @lst a xs ea=>
  cases (show u=qy a from rx)
  obtain ⟨_,_,n,_,h1⟩:=(show bY X.prog X.w H s.heap a (.lst xs) from I.hok a _ ea)
  exact jJ vm I.kIn ⟨_,h1,rfl⟩ e (fun z=>nomatch z) h
 | @frz a ob xs ea=>
  cases (show u=qy a from rx)
  obtain ⟨_,_,_,n,_,h1⟩:=(show bY X.prog X.w H s.heap a (.frz ob (.lst xs)) from I.hok a _ ea)
  exact jJ vm I.kIn ⟨_,h1,rfl⟩ e (fun z=>nomatch z) h
 | @tup a xs ea=>
  cases (show u=qy a from rx)
  obtain ⟨_,_,_,p⟩:=(show bY X.prog X.w H s.heap a (.tup xs) from I.hok a _ ea)
  obtain ⟨o,h1,h2,_⟩:=p
  exact jJ PySem.W.kitx_tuple I.kIn ⟨o,h1,h2⟩ e (fun z=>nomatch z) h
 | @dK a kvs ea=>
  cases (show u=qy a from rx)
  obtain ⟨_,_,vs,_,p⟩:=(show bY X.prog X.w H s.heap a (.dK kvs) from I.hok a _ ea)
  obtain ⟨o,es,ep,h1,h2,_⟩:=p
  exact jJ PySem.W.kitx_dict I.kIn ⟨o,h1,h2.1⟩ e (fun z=>nomatch z) h
 | @dT a kvs ea=>
  cases (show u=qy a from rx)
  obtain ⟨_,_,xs,_,o,es,ep,h1,h2,_⟩:=(show bY X.prog X.w H s.heap a (.dT kvs) from I.hok a _ ea)
  exact jJ PySem.W.kitx_dict I.kIn ⟨o,h1,h2.1⟩ e (fun z=>nomatch z) h
 | @ins a C dx fs ea cl ha hn htk hm=>
  cases (show u=qy a from rx)
  obtain ⟨mA,O,_⟩:=b2R I.hok ea
  obtain ⟨od,J,_⟩:=O.look
  exact jJ (PySem.W.kitx_own (cl.get _) cl.hd ha hn htk hm) I.kIn J e (fun z=>nomatch z) h
end
structure Room (k:Nat) (A:Around):Prop where
 hd:A.handled=none
 dp:A.depth+3*k+5<recursionLimit
 un:A.units+16*k+200<cLine
theorem Room.mono {j k:Nat} {A:Around} (r:Room k A) (h:j≤k):Room j A:=⟨r.hd,by have:=r.dp;omega,by have:=r.un;omega⟩
theorem Room.deeper {k:Nat} {A:Around} (r:Room (k+1) A) (env:Env):Room k (A.deeper env):=
 ⟨r.hd,by have:=r.dp;show A.depth+1+3*k+5<_;omega,by have:=r.un;show A.units+3+16*k+200<_;omega⟩
theorem Room.depth {k:Nat} {A:Around} (r:Room k A):A.depth<recursionLimit:=by have:=r.dp;omega
theorem Room.units {k:Nat} {A:Around} (r:Room k A):A.units+64<cLine:=by have:=r.un;omega
def b7Q:TA:=fun _ H Q=>Q [] H
def b6x (ta:TE) (tr:TA):TA:=fun σ H Q=>ta σ H fun x H1=>tr σ H1 fun xs H2=>Q (x::xs) H2
section
variable {X:Cx} {e:Expr} {es:List Expr} {te:TE} {t:TA} {pos:Pos}
theorem iX:PA X [] b7Q:=fun _ _ _ _ H Q I h=>kU ⟨[],H,I,.nil,h⟩
theorem eE (ha:PE X e te) (hr:PA X es t) (hs:starEach (e::es) X.env=(false,eval e X.env)::starEach es X.env:=by rfl):PA X (e::es) (b6x te t):=by
 intro pos pins s σ H Q I h
 rw [hs]
 show wpAny _ _ (spliced ((false,eval e X.env)::backTo pos (starEach es X.env))) _ _ s
 refine kQ (thn (ha pins s σ H _ I h) fun u s1 ⟨x,H1,I1,r1,q1⟩=>?_)
 exact thn (hr pos pins s1 σ H1 _ I1 q1) fun us s2 ⟨xs,H2,I2,r2,q2⟩=>⟨x::xs,H2,I2,.cons r1 r2,q2⟩
def b7N (t:TA):TE:=fun σ H Q=>t σ H fun xs H1=>xs.length≤sizeLine∧∀ p,H1 p=none→Q (.ref p) (upd H1 p (.tup xs))
def b7R (t:TA):TE:=fun σ H Q=>t σ H fun xs H1=>xs.length≤sizeLine∧∀ p,H1 p=none→Q (.ref p) (upd H1 p (.lst xs))
theorem b4I {x1} (h:PA X es t):PE X (.Tuple es x1 pos) (b7N t):=by
 intro pins s σ H Q I hq
 refine wpAny_Tuple_spliced (thn (h pos pins s σ H _ I hq) fun us s1 ⟨xs,H1,I1,r,z,q⟩=>⟨by rw [←r.length];exact z,?_⟩)
 have hf:H1 s1.heap.objs.size=none:=I1.hok.fresh (qN _)
 refine ⟨.ref s1.heap.objs.size,upd H1 s1.heap.objs.size (.tup xs),I1.laid (t':=s1.toks) (fun b u e=>qC _ e) (qN _) ?_,rfl,q _ hf⟩
 exact ⟨z,us,r,⟨_,qI _ rfl,rfl,_,rfl⟩⟩
theorem a9y (h:PA X es t):PE X (.List es pos) (b7R t):=by
 intro pins s σ H Q I hq
 refine wpAny_List_spliced (thn (h pos pins s σ H _ I hq) fun us s1 ⟨xs,H1,I1,r,z,q⟩=>⟨by rw [←r.length];exact z,?_⟩)
 have hf:H1 s1.heap.objs.size=none:=I1.hok.fresh (qN _)
 refine ⟨.ref s1.heap.objs.size,upd H1 s1.heap.objs.size (.lst xs),I1.laid (t':=s1.toks) (fun b u e=>qC _ e) (qN _) ?_,rfl,q _ hf⟩
 exact ⟨z,us,0,r,qI _ rfl⟩
end
abbrev Sp:=List V→Hp→VK→XK→Prop
abbrev CXT:=List Env→Hp→Shared→XK→Value→Shared→Prop
structure Env0 (P:Program) (w:World) (K:qB) (mg:Str→Option Value) (base:Heap) (A:Around) (outer:List Env) (s:Shared) (H:Hp):Prop where
 frames:A.frames=some outer
 mod:Mod K mg base
 bs:∀ b o,base.get? b=some o→s.heap.get? b=some o∧H b=none
 bsz:base.objs.size≤s.heap.objs.size
 funs:s.heap.FunFrames base outer
 frf:∀ b∈frs outer,H b=none
 hok:HOk P w H s.heap
 bare:AllBare s.gens
def CE (outer:List Env) (P:Program) (w:World) (H:Hp) (s:Shared) (Q:VK) (u:Value) (s':Shared):Prop:=
 ∃ v H',s'.os=s.os∧AllBare s'.gens∧Un (frs outer) [] H H' s.heap s'.heap∧HOk P w H' s'.heap∧RelV v u∧Q v H'
def CR (CX:CXT) (outer:List Env) (P:Program) (w:World) (H:Hp) (s:Shared) (Q:VK) (E:XK) (r:Result) (s':Shared):Prop:=
 match r with
 | .ok (.ret u)=>CE outer P w H s Q u s'
 | .ok _=>False
 | .error e=>CX outer H s E e s'
structure FnOk (P:Program) (w:World) (K:qB) (mg:Str→Option Value) (base:Heap) (CX:CXT) (k:Nat) (f:Addr) (fd:FuncData) (ps:List Str) (sp:Sp):Prop where
 len:∀ vs H Q E,sp vs H Q E→vs.length=ps.length
 run:∀ (A:Around) (outer:List Env) (s:Shared) (H:Hp) (args:Args) (us:List Value) (vs:List V) (Q:VK) (E:XK),Room k A→Env0 P w K mg base A outer s H→BindsTo s fd args (ps.zip us)→aX vs us→sp vs H Q E →
  codeAny (model P w) A (.call (.ref f) args) (CR CX outer P w H s Q E) s
section
variable {X:Cx} {pins:List (Addr×Obj)} {σ:St} {H:Hp} {s s':Shared}
theorem Inv.env0 (I:Inv X pins σ H s):Env0 X.prog X.w X.K X.mg X.base X.A X.stack s H:=
 ⟨I.ok.frames,I.ok.mod,I.bs,ql I.ok.bsz I.sz,I.stack,I.stkFree,I.hok,I.bare⟩
theorem Inv.after {Q:VK} {u:Value} (I:Inv X pins σ H s) (h:CE X.stack X.prog X.w H s Q u s'):EP X pins σ Q u s':=by
 obtain ⟨v,H',os,bare,un,hok,r,q⟩:=h
 obtain ⟨hh,g,d,t,os'⟩:=s'
 obtain rfl:os'=s.os:=os
 exact ⟨v,H',I.call (h':=hh) (g':=g) (d':=d) (t':=t) (ch:=[]) un hok bare (fun b z=>absurd z (by simp)),r,q⟩
end
def b6y (sp:Sp) (dvs:List V) (E:XK) (t:TA):TE:=fun σ H Q=>t σ H fun vs H1=>sp (vs++dvs) H1 Q E
def Binds (K:qB) (fd:FuncData) (ps:List Str) (ds:List Value):Prop:=
 ∀ (s:Shared) (us:List Value),K.In s.heap→(us++ds).length=ps.length→BindsTo s fd ⟨us,[]⟩ (ps.zip (us++ds))
theorem Binds.all {K:qB} {fd:FuncData} {ps:List Str} (h:∀ us:List Value,us.length=ps.length→bindArgs fd ⟨us,[]⟩=pure (ps.zip us)):Binds K fd ps []:=fun s us _ hl=>by
 rw [kM] at hl ⊢
 exact .of_eq (h us hl)
def a5K (CX:CXT) (X:Cx) (E:XK):Prop:=∀ (pins:List (Addr×Obj)) (σ:St) (H:Hp) (s:Shared) (e:Value) (s':Shared),Inv X pins σ H s→CX X.stack H s E e s'→X.xe e s'
section
variable {X:Cx} {CX:CXT} {k:Nat} {f C:Addr} {fd:FuncData} {ps:List Str} {sp:Sp} {dvs:List V} {ds:List Value} {E:XK} {x m:Str} {p pos apos:Pos} {e o:Expr} {es:List Expr} {ta:TE} {t:TA}
theorem b4x {pins:List (Addr×Obj)} {σ:St} {H:Hp} {s:Shared} {Q:VK} {us:List Value} {vs:List V} (F:FnOk X.prog X.w X.K X.mg X.base CX k f fd ps sp) (hr:Room k X.A) (hb:Binds X.K fd ps ds) (hd:aX dvs ds) (hx:a5K CX X E)
  (I:Inv X pins σ H s) (r:aX vs us) (h:sp (vs++dvs) H Q E):wpAny (model X.prog X.w) X.A (call (.ref f) us) (EP X pins σ Q) X.xe s:=by
 have r2:aX (vs++dvs) (us++ds):=r.append hd
 have hl:(us++ds).length=ps.length:=by rw [←r2.length];exact F.len _ _ _ _ h
 refine wpAny_call (codeAny_mono (F.run X.A X.stack s H ⟨us,[]⟩ (us++ds) (vs++dvs) Q E hr I.env0 (hb s us I.kIn hl) r2 h) fun r s' hq=>?_)
 cases r with
 | error e=>exact hx pins σ H s e s' I hq
 | ok fl=>
  cases fl with
  | ret u=>exact I.after hq
  | next=>exact jD hq
  | brk=>exact jD hq
  | cont=>exact jD hq
theorem b2j (F:FnOk X.prog X.w X.K X.mg X.base CX k f fd ps sp) (hr:Room k X.A) (hg:Gl X x) (hm:X.mg x=some (.ref f)) (hk:ju X.K (.ref f)=true) (hb:Binds X.K fd ps ds) (hd:aX dvs ds) (hx:a5K CX X E)
  (ha:PA X (e::es) t) (hdb:(x==("__debug__" : Str))=false:=by decide) (he:starEach (e::es) X.env=(false,eval e X.env)::starEach es X.env:=by rfl) (hpl:(backTo pos (starEach es X.env)).any (·.1)=false:=by rfl) :
  PE X (.Call (.Name x p) (e::es) [] pos) (b6y sp dvs E t):=by
 intro pins s σ H Q I h
 refine wpAny_Call_Name_kw (mK I hg hm ?_ hdb)
 refine zY (h₀:=X.base) I.ok.mod.kin hk (thn (ha pos pins s σ H _ I h) fun us s1 ⟨vs,H1,I1,r,q⟩=>⟨I1.kIn,?_⟩) he hpl
 exact b4x F hr hb hd hx I1 r q
end
section
variable {X:Cx} {CX:CXT} {k:Nat} {f C:Addr} {fd:FuncData} {ps ks:List Str} {sp:Sp} {E:XK} {x m:Str} {p pos apos kpos:Pos} {e o:Expr} {es:List Expr} {kws:List Keyword} {te ta:TE} {t tk:TA} {nm:Option Str}
variable {g:List Value→List Value→List Value} {gV:List V→List V→List V}
end
structure FnScope (N P:List Str) (sc:Scope):Prop where
 kind:sc.kind=.function
 co:sc.isCoroutine=false
 gen:sc.isGenerator=false
 nd:N.Nodup
 pre:N.take P.length=P
 par:∀ x∈P,sc.names.lookup x=some .local∨sc.names.lookup x=some .cell
 nofree:∀ y∈sc.names,y.2≠.free
theorem a1D {kindOf:Str→Option NameKind} {x:Str}:∀ {binds:List (Str×Value)} {m:Str→Option Value},(∀ v,(x,v)∉binds)→bindL kindOf binds m x=m x
 | [],_,_=>rfl
 | (n,v)::r,m,h=>by
  unfold bindL
  rw [a1D fun w hw=>h w (qE _ hw)]
  split
  ·have:x≠n:=by rintro rfl;exact h v qT
   simp [this]
  ·rfl
theorem a1F {kindOf:Str→Option NameKind} {x:Str}:∀ {binds:List (Str×Value)} {m:Str→Option Value},(∀ v,(x,v)∉binds)→bindC kindOf binds m x=m x
 | [],_,_=>rfl
 | (n,v)::r,m,h=>by
  unfold bindC
  rw [a1F fun w hw=>h w (qE _ hw)]
  split
  ·rfl
  ·have:x≠n:=by rintro rfl;exact h v qT
   simp [this]
theorem a1E {kindOf:Str→Option NameKind} {x:Str} {v:Value}:∀ {P:List Str} {vs:List Value} {i:Nat} {m:Str→Option Value},P.Nodup→P[i]?=some x→vs[i]?=some v→kindOf x=some .local →
  bindL kindOf (P.zip vs) m x=some v
 | [],_,_,_,_,h,_,_=>by simp at h
 | _::_,[],_,_,_,_,h,_=>by simp at h
 | p::P,w::vs,0,m,nd,h1,h2,hk=>by
  simp at h1 h2;subst h1;subst h2
  show bindL kindOf ((p,w)::P.zip vs) m p=_
  unfold bindL
  rw [a1D fun v hv=>(jV.mp nd).1 (zT hv).1,if_pos hk]
  simp
 | p::P,w::vs,i+1,m,nd,h1,h2,hk=>by
  show bindL kindOf ((p,w)::P.zip vs) m x=_
  unfold bindL
  exact a1E (i:=i) (jV.mp nd).2 (by simpa using h1) (by simpa using h2) hk
theorem a1G {kindOf:Str→Option NameKind} {x:Str} {v:Value}:∀ {P:List Str} {vs:List Value} {i:Nat} {m:Str→Option Value},P.Nodup→P[i]?=some x→vs[i]?=some v→kindOf x≠some .local →
  bindC kindOf (P.zip vs) m x=some v
 | [],_,_,_,_,h,_,_=>by simp at h
 | _::_,[],_,_,_,_,h,_=>by simp at h
 | p::P,w::vs,0,m,nd,h1,h2,hk=>by
  simp at h1 h2;subst h1;subst h2
  show bindC kindOf ((p,w)::P.zip vs) m p=_
  unfold bindC
  rw [a1F fun v hv=>(jV.mp nd).1 (zT hv).1,if_neg hk]
  simp
 | p::P,w::vs,i+1,m,nd,h1,h2,hk=>by
  show bindC kindOf ((p,w)::P.zip vs) m x=_
  unfold bindC
  exact a1G (i:=i) (jV.mp nd).2 (by simpa using h1) (by simpa using h2) hk
def start (N:List Str) (vs:List V):St:=vs.map some++zH (N.length - vs.length) none
def wK (CX:CXT) (P:Program) (w:World) (K:qB) (mg:Str→Option Value) (base:Heap) (N:List Str) (qual:Str) (scope:Scope) (f:Addr) (cd:Value) (A:Around) (outer:List Env) (s:Shared) (H:Hp) (E:XK):Cx where
 prog:=P
 w:=w
 K:=K
 mg:=mg
 base:=base
 A:=A.deeper (envOfC qual scope s.heap.objs.size f cd)
 N:=N
 s₀:=s
 H₀:=H
 env:=envOfC qual scope s.heap.objs.size f cd
 outer:=outer
 stack:=envOfC qual scope s.heap.objs.size f cd::outer
 ex:=[]
 calm:=true
 fn:=fun _=>true
 pn:=[]
 xe:=fun e s'=>wpAny (model P w) (A.deeper (envOfC qual scope s.heap.objs.size f cd)) (leaving (envOfC qual scope s.heap.objs.size f cd) e) (fun _ s''=>CX outer H s E e s'') (fun e' s''=>CX outer H s E e' s'') s'
theorem sH {sc:Scope} {n:Nat} {x:Str} (h:sc.names.lookup x=some .cell):∃ c,(cellsFrom n sc.names []).lookup x=some c:=by
 have q:=kj sc.names n [] (.inl h)
 exact Option.isSome_iff_exists.mp q
theorem tY {CX:CXT} {P:Program} {w:World} {K:qB} {mg:Str→Option Value} {base:Heap} {N ps:List Str} {qual:Str} {scope:Scope} {f:Addr} {cd:Value} {A:Around} {outer:List Env} {s s1:Shared} {H:Hp} {E:XK} {us:List Value} {vs:List V}
  (S:FnScope N ps scope) (hd:A.handled=none) (e0:Env0 P w K mg base A outer s H) (hl:vs.length=ps.length) (r:aX vs us)
  (x:InCallC s s.heap.objs.size (bindL (envOfC qual scope s.heap.objs.size f cd).kindOf (ps.zip us) fun _=>none) (cellsFrom (s.heap.objs.size+1) scope.names []) (bindC (envOfC qual scope s.heap.objs.size f cd).kindOf (ps.zip us) fun _=>none) s1) :
  Inv (wK CX P w K mg base N qual scope f cd A outer s H E) [] (start N vs) H s1:=by
 have hpl:ps.length≤N.length:=by have:=congrArg zV S.pre;rw [ji] at this;omega
 obtain ⟨h1,tk,rfl,hk⟩:=x.done
 have noA:∀ b:Addr,b∉(wK CX P w K mg base N qual scope f cd A outer s H E).ex:=fun b z=>absurd (show b∈([]:List Addr) from z) (by simp)
 refine ⟨⟨e0.mod,S.kind,rfl,rfl,qN _,fun y z c h1 h2=>?_,fun y hy=>?_,fun y c _ h=>?_,fun _=>hd,Around.frames_deeper e0.frames,.inr ⟨rfl,rfl⟩,fun b z=>absurd z (noA b),e0.bs,e0.bsz,fun b _ _=>noA b,fun b z=>absurd z (noA b),e0.funs,e0.frf⟩,
  rfl,e0.bare,Un.kept hk,⟨_,x.toInCall.ns,fun i y v h1 h2 h3=>?_⟩,fun y c h=>⟨_,x.cell y c h⟩,e0.hok.fresh (qN _),fun y c h=>?_,fun p hp=>absurd (show p∈([]:List (Addr×Obj)) from hp) (by simp),e0.hok.kept hk,?_⟩
 ·exact name_of_addr x.apart (qa h1) (qa h2)
 ·have hy:scope.names.lookup y=some .cell∨scope.names.lookup y=some .free:=hy
  rcases hy with hy | hy
  ·exact sH hy
  ·exact absurd rfl (S.nofree _ (qa hy))
 ·exact qr (x.above y c (qa h))
 ·have hi:i<vs.length:=by
   unfold start at h2
   by_cases hi:i<vs.length
   ·exact hi
   ·rw [jW (by simpa using hi)] at h2
    rw [kC] at h2
    split at h2<;>cases h2
  have ha:vs[i]?=some v:=by
   unfold start at h2
   rw [jL (by simpa using hi),qP] at h2
   cases e:vs[i]? with
   | none=>rw [e] at h2;cases h2
   | some a=>rw [e] at h2;cases h2;rfl
  obtain ⟨u,hu,rv⟩:=r.get ha
  have hp:ps[i]?=some y:=by
   rw [←S.pre,jy (by omega)];exact h1
  have ndP:ps.Nodup:=by rw [←S.pre];exact S.nd.sublist (zr _ _)
  refine ⟨u,rv,?_⟩
  rcases S.par y (kR hp) with k | k
  ·exact .inl ⟨k,a1E ndP hp hu k⟩
  ·obtain ⟨c,e⟩:=sH (n:=s.heap.objs.size+1) k
   refine .inr ⟨.inl k,c,e,?_⟩
   have q:=x.cell y c e
   rw [a1G ndP hp hu (by show scope.names.lookup y≠_;rw [k];decide)] at q
   exact q
 ·exact e0.hok.fresh (qr (x.above y c (qa h)))
 ·unfold start
  show _=N.length
  rw [jA,qD,List.length_replicate]
  omega
theorem b0K {CX:CXT} {P:Program} {w:World} {K:qB} {mg:Str→Option Value} {base:Heap} {k:Nat} {f:Addr} {name qual:Str} {params:Arguments} {body:List Stmt} {scope:Scope} {dV kV doc pm cdv ct oc:Value} {an od:Option Addr}
  {osl:Array (Option Value)} {N ps:List Str} {sp:Sp} (lk:K.lookup f=some ⟨oc,od,.func (jd name qual params body scope dV kV doc pm an cdv ct),osl⟩) (hcd:zj K cdv qual=true) (S:FnScope N ps scope)
  (len:∀ vs H Q E,sp vs H Q E→vs.length=ps.length)
  (hbody:∀ (A:Around) (outer:List Env) (s:Shared) (H:Hp) (vs:List V) (Q:VK) (E:XK),Room k (A.deeper (envOfC qual scope s.heap.objs.size f cdv))→sp vs H Q E →
   ∃ t,PSs (wK CX P w K mg base N qual scope f cdv A outer s H E) body t∧t { nx:=fun _ H'=>Q .non H',rt:=Q } (start N vs) H) :
  FnOk P w K mg base CX (k+1) f (jd name qual params body scope dV kV doc pm an cdv ct) ps sp:=by
 refine ⟨len,fun A outer s H args us vs Q E hr e0 hb r hsp=>?_⟩
 have hl:=len _ _ _ _ hsp
 have KX:K.In s.heap:=e0.mod.kin.keeps fun b o e=>(e0.bs b o e).1
 have lim:s.heap.NoLimit:=e0.mod.nolimit.keeps fun b o e=>(e0.bs b o e).1
 have hkind:∀ y∈ps.zip us,scope.names.lookup y.1=some .local∨(scope.names.lookup y.1=some .cell∧((cellsFrom (s.heap.objs.size+1) scope.names []).lookup y.1).isSome=true):=fun ⟨n,v⟩ hy=>by
  rcases S.par n (zT hy).1 with q | q
  ·exact .inl q
  ·exact .inr ⟨q,kj _ _ _ (.inl q)⟩
 refine codeAny_call_function hr.depth (KX _ _ lk) rfl S.co S.gen rfl (vd KX hcd) (hb _ _ _ _ ?_)
 refine wpAny_newFunctionEnv_cells S.kind hkind fun env he s1 x=>?_
 subst he
 refine ⟨lim.keeps x.toInCall.keep,codeAny_func ?_⟩
 obtain ⟨t,ht,hq⟩:=hbody A outer s H vs Q E (hr.deeper _) hsp
 have I:Inv (wK CX P w K mg base N qual scope f cdv A outer s H E) [] (start N vs) H s1:=tY S hr.hd e0 hl r x
 refine wpAny_mono (ht [] s1 (start N vs) H _ I hq) (fun fl s' hs=>?_) fun e s' hs=>hs
 have fin:∀ {σ':St} {H':Hp} {v:V} {u:Value},Inv (wK CX P w K mg base N qual scope f cdv A outer s H E) [] σ' H' s'→RelV v u→Q v H'→CE outer P w H s Q u s':=
  fun {σ' H' v u} J rv q=>⟨v,H',J.os,J.bare,J.base,J.hok,rv,q⟩
 cases fl with
 | ret u=>
  obtain ⟨v,σ',H',J,rv,q⟩:=hs
  exact fin J rv q
 | next=>
  obtain ⟨σ',H',J,q⟩:=hs
  exact fin (v:=V.non) (u:=jf) J rfl q
 | brk=>
  obtain ⟨_,_,_,q⟩:=hs
  exact jD q
 | cont=>
  obtain ⟨_,_,_,q⟩:=hs
  exact jD q
section
variable {X:Cx} {x:Str} {p pos:Pos} {e:Expr} {es:List Expr} {t:TA} {id T:String} {r:List V→Hp→VK→Prop}
def tCB (r:List V→Hp→VK→Prop) (t:TA):TE:=fun σ H Q=>t σ H fun vs H1=>r vs H1 Q
theorem rH (hc:dU X (.builtin id) r) (hg:Gl X x) (hm:X.mg x=none) (hv:bootBuiltins x=some (.builtin id)) (ha:PA X (e::es) t) (hn:x ≠ "__name__":=by decide) (hdb:(x==("__debug__" : Str))=false:=by decide)
  (he:starEach (e::es) X.env=(false,eval e X.env)::starEach es X.env:=by rfl) (hpl:(backTo pos (starEach es X.env)).any (·.1)=false:=by rfl):PE X (.Call (.Name x p) (e::es) [] pos) (tCB r t):=by
 intro pins s σ H Q I h
 refine wpAny_Call_Name_kw (iZ I hg hm hv ?_ hn hdb)
 exact PyProof.Rows.callWith_builtin1 (thn (ha pos pins s σ H _ I h) fun us s1 ⟨vs,H1,I1,r1,q1⟩=>hc pins s1 σ H1 vs us Q I1 r1 q1) he hpl
theorem a0V (hc:dU X (.type T) r) (hg:Gl X x) (hm:X.mg x=none) (hv:bootBuiltins x=some (.type T)) (ha:PA X (e::es) t) (hn:x ≠ "__name__":=by decide) (hdb:(x==("__debug__" : Str))=false:=by decide)
  (he:starEach (e::es) X.env=(false,eval e X.env)::starEach es X.env:=by rfl) (hpl:(backTo pos (starEach es X.env)).any (·.1)=false:=by rfl):PE X (.Call (.Name x p) (e::es) [] pos) (tCB r t):=by
 intro pins s σ H Q I h
 refine wpAny_Call_Name_kw (iZ I hg hm hv ?_ hn hdb)
 exact jS (thn (ha pos pins s σ H _ I h) fun us s1 ⟨vs,H1,I1,r1,q1⟩=>hc pins s1 σ H1 vs us Q I1 r1 q1) he hpl
end
end L2
namespace HT
open PySem PyProof.Rows
section
open PySem.SeqAt
open PySem.AutoSeq1 (wpAny_loadPart')
open PySem.MeetsSeq PySem.MeetsSeq2 PySem.MeetsSeq3
end
section
variable {prog:Program} {w:World} {A:Around} {E:Value→Shared→Prop} {s:Shared}
theorem cat_tup {t b:Addr} {vs ws:List Value} {Q:Value→Shared→Prop} (ht:IsTup s.heap t vs.toArray) (hb:IsTup s.heap b ws.toArray) (hv:vs≠[])
  (h1:ws=[]→Q (.ref t) s) (h2:ws≠[]→Q (.ref s.heap.objs.size) { s with heap:=s.heap.push { cls:=.type "tuple", data:=.seq (vs++ws).toArray } })
  (hsz:vs.length+ws.length≤sizeLine):wpAny (model prog w) A (binaryOp .Add (.ref t) (.ref b)) Q E s:=by
 obtain ⟨⟨cls,dd,data,sl⟩,ho,hc,n,hd⟩:=id ht
 obtain ⟨⟨cls2,dd2,data2,sl2⟩,ho2,hc2,n2,hd2⟩:=id hb
 simp only at hc hd hc2 hd2
 subst hc hd hc2 hd2
 have e:vs.toArray++ws.toArray=(vs++ws).toArray:=by simp
 by_cases hw:ws=[]
 ·exact concat_meets ⟨_,ho,rfl⟩ ⟨_,ho2,rfl⟩ noFill_tuple_add seq_tuple_add PySem.F.slot_tuple_add PySem.F.entry_tuple_add (PySem.F.args_tuple_add_2 _ _)
   (tuple_addW1 t b vs.toArray ws.toArray n n2 dd dd2 sl sl2 (by simpa using hv) (by simp [hw])) ⟨ho,ho2,h1 hw⟩
 ·refine concat_meets ⟨_,ho,rfl⟩ ⟨_,ho2,rfl⟩ noFill_tuple_add seq_tuple_add PySem.F.slot_tuple_add PySem.F.entry_tuple_add (PySem.F.args_tuple_add_2 _ _)
   (tuple_addW2 t b vs.toArray ws.toArray n n2 dd dd2 sl sl2 (by simpa using hv) (by simpa using hw) (by rw [qL,qL];exact hsz)) ⟨ho,ho2,?_⟩
  rw [e]
  exact h2 hw
def sIx (n d:Nat):Option Int→Nat
 | none=>d
 | some v=>if v<0 then (v+(n:Int)).toNat else min v.toNat n
theorem b4w (n d:Nat) (hd:d≤n) (o:Option Int):sIx n d o≤n:=by
 cases o with
 | none=>exact hd
 | some v=>
  show (if v<0 then (v+(n:Int)).toNat else min v.toNat n)≤n
  by_cases hv:v<0
  ·rw [if_pos hv];omega
  ·rw [if_neg hv];exact Nat.min_le_right _ _
theorem a6W (v:Int) (n d:Nat):(if v<0 then max (v+(n:Int)) 0 else min v (n:Int))=((sIx n d (some v):Nat):Int):=by
 show (if v<0 then max (v+(n:Int)) 0 else min v (n:Int))=(((if v<0 then (v+(n:Int)).toNat else min v.toNat n):Nat):Int)
 by_cases hv:v<0
 ·simp only [if_pos hv];omega
 ·simp only [if_neg hv];omega
theorem a5J (lo hi:Option Int) (n:Nat):vG lo hi 1 (n:Int)=(((sIx n 0 lo:Nat):Int),((sIx n n hi:Nat):Int)):=by
 have h1:¬((1:Int)<0):=by omega
 unfold vG
 simp only [h1,if_false]
 refine Prod.ext ?_ ?_
 ·cases lo with
  | none=>rfl
  | some v=>exact a6W v n 0
 ·cases hi with
  | none=>rfl
  | some v=>exact a6W v n n
theorem a4G (i j:Nat):ki (i:Int) (j:Int) 1=j - i:=by
 unfold ki
 have h1:(1:Int) > 0:=by omega
 simp only [h1,if_true,Int.ediv_one]
 split<;>omega
theorem wY {v:Value} {o:Option Int} {Q:Option Int→Shared→Prop} (p:IsPart v o) (h:Q o s):wpAny (model prog w) A (Builtin.Slice.slicePartIndex v) Q E s:=by
 cases p with
 | none=>exact slicePart_none h
 | int i t=>exact slicePart_int h
theorem tF {sl:Addr} {vl vu:Value} {lo hi:Option Int} {n:Nat} {Q:Int×Int×Nat→Shared→Prop} (hs:s.heap.IsSliceOf sl vl vu .none) (pl:IsPart vl lo) (pu:IsPart vu hi)
  (h:Q (((sIx n 0 lo:Nat):Int),1,sIx n n hi - sIx n 0 lo) s):wpAny (model prog w) A (Builtin.Slice.sliceApplied (.ref sl) (pure (n:Int))) Q E s:=by
 obtain ⟨os,hos,hcs,hds⟩:=id hs
 unfold Builtin.Slice.sliceApplied Builtin.Slice.sliceFields
 refine wpAny_bind (wpAny_bind (wpAny_field hos hds (x:=vl) rfl (wpAny_bind (wpAny_field hos hds (x:=vu) rfl (wpAny_bind (wpAny_field hos hds (x:=.none) rfl (wpAny_pure ?_)))))))
 refine wpAny_bind (slicePart_none ?_)
 show wpAny _ _ (if ((1:Int)==0)=true then _ else _) _ _ s
 rw [if_neg (by decide)]
 refine wpAny_bind (wY pl (wpAny_bind (wY pu (wpAny_bind (wpAny_pure ?_)))))
 show wpAny _ _ (match vG lo hi 1 (n:Int) with | (lo,hi)=>pure (lo,(1:Int),ki lo hi 1)) _ _ s
 rw [a5J lo hi n]
 show wpAny _ _ (pure (((sIx n 0 lo:Nat):Int),(1:Int),ki ((sIx n 0 lo:Nat):Int) ((sIx n n hi:Nat):Int) 1)) _ _ s
 rw [a4G]
 exact wpAny_pure h
theorem a9u (xs:Array Value) (i k:Nat):((qd k).filterMap fun (m:Nat)=>xs[((i:Int)+(m:Int)*1).toNat]?).toArray=((xs.toList.drop i).take k).toArray:=by
 have e:(fun (m:Nat)=>xs[((i:Int)+(m:Int)*1).toNat]?)=fun m=>xs[i+m]?:=by
  funext m
  have:((i:Int)+(m:Int)*1).toNat=i+m:=by omega
  rw [this]
 rw [e]
 have:=pick_run xs i k
 rw [List.filterMap_map] at this
 have e2:((fun x=>xs[x]?)∘fun x=>i+x)=fun m=>xs[i+m]?:=rfl
 rw [e2] at this
 rw [this]
theorem getItem_tuple_cut {t sl:Addr} {items:Array Value} {vl vu:Value} {lo hi:Option Int} {Q:Value→Shared→Prop} (ht:IsTup s.heap t items) (hs:s.heap.IsSliceOf sl vl vu .none) (pl:IsPart vl lo) (pu:IsPart vu hi)
  (hw:¬(sIx items.size 0 lo=0∧sIx items.size items.size hi=items.size))
  (h:Q (.ref s.heap.objs.size) { s with heap:=s.heap.push { cls:=.type "tuple", data:=.seq ((items.toList.drop (sIx items.size 0 lo)).take (sIx items.size items.size hi - sIx items.size 0 lo)).toArray } })
  (hsz:items.size≤sizeLine):wpAny (model prog w) A (getItem (.ref t) (.ref sl)) Q E s:=by
 have htake:sizeOk (.seq ((items.toList.drop (sIx items.size 0 lo)).take (sIx items.size items.size hi - sIx items.size 0 lo)).toArray):=by
  show ((items.toList.drop (sIx items.size 0 lo)).take (sIx items.size items.size hi - sIx items.size 0 lo)).toArray.size≤sizeLine
  rw [qL,ji,vC,qO]
  omega
 have hj:sIx items.size items.size hi≤items.size:=b4w _ _ (qN _) hi
 obtain ⟨os,hos,hcs,hds⟩:=id hs
 have hTs:s.TypeIs (.ref sl) "slice" := ⟨os,hos,hcs⟩
 unfold getItem
 try with_reducible refine wpAny_holding ?_
 first | refine wpAny_bind (wpAny_pure ?_) | skip
 refine wpAny_bind (wpAny_sequenceKey ht.typeIs (by decide) ?_)
 refine wpAny_bind (wpAny_callSpecial?_slot (name:=kE "__getitem__") ht.typeIs kq
  (wpAny_call_entry kq ht.typeIs entry_tuple_getitem ?_ (args_tuple_getitem _ _)))
 show wpAny _ _ (Builtin.Tuple.tupleItemsOf (.ref t)>>=_) _ _ s
 refine wpAny_bind (tupleItemsOf_ ht ?_)
 refine wpAny_bind (wpAny_typeOf hTs ?_)
 rw [if_pos (by decide)]
 refine wpAny_bind (tF hs pl pu ?_)
 have hno:¬((((sIx items.size 0 lo:Nat):Int)==0&&(1:Int)==1&&(sIx items.size items.size hi - sIx items.size 0 lo)==items.size)=true):=by
  intro q
  rw [qJ,qJ] at q
  have q1:((sIx items.size 0 lo:Nat):Int)=0:=eq_of_beq q.1.1
  have q2:sIx items.size items.size hi - sIx items.size 0 lo=items.size:=eq_of_beq q.2
  exact hw ⟨by omega,by omega⟩
 show wpAny _ _ (if (((sIx items.size 0 lo:Nat):Int)==0&&(1:Int)==1&&(sIx items.size items.size hi - sIx items.size 0 lo)==items.size)=true then _ else _) _ _ s
 rw [if_neg hno,a9u]
 first
  | exact wpAny_bind (m:=ko _) (wpAny_newObj_type (wpAny_pure ⟨_,rfl,wpAny_pure h⟩) htake)
  | exact wpAny_bind (m:=ko _) (wpAny_newObj_type (wpAny_bind (wpAny_pure (wpAny_pure ⟨_,rfl,wpAny_pure h⟩))) htake)
  | exact wpAny_bind (wpAny_bind (m:=ko _) (wpAny_newObj_type (wpAny_pure (wpAny_pure ⟨_,rfl,wpAny_pure h⟩)) htake))
  | exact wpAny_bind (wpAny_bind (m:=ko _) (wpAny_newObj_type (wpAny_pure ⟨_,rfl,wpAny_pure h⟩) htake))
end
end HT
namespace L2
open PySem PySem.Spec PyProof.Rows
abbrev TO:=St→Hp→(Option Int→Hp→Prop)→Prop
def PO (X:Cx) (e:Option Expr) (t:TO):Prop:=
 ∀ (pins:List (Addr×Obj)) (s:Shared) (σ:St) (H:Hp) (Q:Option Int→Hp→Prop),Inv X pins σ H s→t σ H Q →
  wpAny (model X.prog X.w) X.A (evalPart e X.env) (fun u s'=>∃ o H',Inv X pins σ H' s'∧IsPart u o∧Q o H') X.xe s
def b1G:TO:=fun _ H Q=>Q none H
def b6t (t:TE):TO:=fun σ H Q=>t σ H fun x H1=>∃ i,x=.int i∧Q (some i) H1
theorem intsAre_of {ns:List Int}:∀ {us:List Value},aX (ns.map V.int) us→IntsAre us ns:=by
 induction ns with
 | nil=>intro us r;rw [List.map_nil] at r;cases r;exact .nil
 | cons n ns ih=>
  intro us r
  rw [qG] at r
  cases r with
  | cons r1 r2=>
   obtain ⟨t,e⟩:=r1
   subst e
   exact .cons n t (ih r2)
section
variable {X:Cx} {e:Expr} {te:TE} {lo hi:Option Expr} {tl th:TO} {pos p2:Pos}
theorem b2c:PO X none b1G:=by
 intro pins s σ H Q I h
 rw [evalPart_none]
 exact wpAny_pure ⟨none,H,I,.none,h⟩
theorem b2b (h:PE X e te):PO X (some e) (b6t te):=by
 intro pins s σ H Q I hw
 rw [evalPart_some]
 refine thn (h pins s σ H _ I hw) fun u s1 ⟨x,H1,I1,r1,q1⟩=>?_
 obtain ⟨i,rfl,q⟩:=q1
 obtain ⟨t,rfl⟩:=r1
 exact ⟨some i,H1,I1,.int i t,q⟩
def SlR (X:Cx) (r:V→Option Int→Option Int→Hp→VK→Prop):Prop:=
 ∀ (pins:List (Addr×Obj)) (s:Shared) (σ:St) (H:Hp) (x:V) (v vl vu:Value) (lo hi:Option Int) (sl:Addr) (Q:VK),Inv X pins σ H s→RelV x v→s.heap.IsSliceOf sl vl vu .none→IsPart vl lo→IsPart vu hi→r x lo hi H Q →
  ∃ T id,typeLookup (.type T) "__getitem__" = pure (some (.builtin id))∧s.TypeIs v T∧wpAny (model X.prog X.w) X.A (getItem v (.ref sl)) (EP X pins σ Q) X.xe s
theorem SlR.or {r r':V→Option Int→Option Int→Hp→VK→Prop} (h:SlR X r) (h':SlR X r'):SlR X (fun x lo hi H Q=>r x lo hi H Q∨r' x lo hi H Q):=by
 intro pins s σ H x v vl vu lo hi sl Q I rx hs pl pu q
 rcases q with q | q
 ·exact h pins s σ H x v vl vu lo hi sl Q I rx hs pl pu q
 ·exact h' pins s σ H x v vl vu lo hi sl Q I rx hs pl pu q
def tSl (r:V→Option Int→Option Int→Hp→VK→Prop) (te:TE) (tl th:TO):TE:=fun σ H Q=>te σ H fun x H1=>tl σ H1 fun l H2=>th σ H2 fun u H3=>r x l u H3 Q
theorem a9x {r:V→Option Int→Option Int→Hp→VK→Prop} (hr:SlR X r) (he:PE X e te) (hl:PO X lo tl) (hu:PO X hi th):PE X (.Subscript e (.Slice lo hi none p2) pos) (tSl r te tl th):=by
 intro pins s σ H Q I h
 refine Subscript_ (thn (he pins s σ H _ I h) fun v s1 ⟨x,H1,I1,r1,q1⟩=>?_)
 refine wpAny_Slice (thn (hl pins s1 σ H1 _ I1 q1) fun vl s2 ⟨l,H2,I2,pl,q2⟩=>thn (hu pins s2 σ H2 _ I2 q2) fun vu s3 ⟨u,H3,I3,pu,q3⟩=>?_)
 rw [evalPart_none]
 refine wpAny_pure ?_
 have I4:Inv X pins σ H3 { s3 with heap:=s3.heap.push { cls:=.type "slice", data:=.fields #[vl,vu,.none] } }:=I3.kept (t':=s3.toks) fun b ob q=>qC _ q
 obtain ⟨T,id,hT,ht,hg⟩:=hr pins { s3 with heap:=s3.heap.push { cls:=.type "slice", data:=.fields #[vl,vu,.none] } } σ H3 x v vl vu l u s3.heap.objs.size Q I4 r1 (Heap.IsSliceOf.new ..) pl pu q3
 show wpAny (model X.prog X.w) X.A (subscriptTail e (.Slice lo hi none p2) v (.ref s3.heap.objs.size)) (EP X pins σ Q) X.xe { s3 with heap:=s3.heap.push { cls:=.type "slice", data:=.fields #[vl,vu,.none] } }
 exact tail_any (ops:=[.ref s3.heap.objs.size,v]) ht hT hg (by with_unfolding_all rfl)
def a3V (xs:List V) (lo hi:Option Int):List V:=(xs.drop (HT.sIx xs.length 0 lo)).take (HT.sIx xs.length xs.length hi - HT.sIx xs.length 0 lo)
theorem wF (xs:List V) (lo hi:Option Int):(a3V xs lo hi).length≤xs.length:=by
 unfold a3V
 rw [ji,vC]
 omega
def b8e (K:qB):V→Option Int→Option Int→Hp→VK→Prop:=fun x lo hi H Q=>∃ a xs,x=.ref a∧SqT K H a xs ∧
 ¬(HT.sIx xs.length 0 lo=0∧HT.sIx xs.length xs.length hi=xs.length)∧∀ p,H p=none→Q (.ref p) (upd H p (.tup (a3V xs lo hi)))
theorem b4t:SlR X (b8e X.K):=by
 intro pins s σ H x v vl vu lo hi sl Q I rx hs pl pu h
 obtain ⟨a,xs,rfl,hx,hw,q⟩:=h
 cases rx
 obtain ⟨its,r,ht,hz⟩:=I.tuple hx
 have hlen:its.toArray.size=xs.length:=by rw [qL];exact r.length.symm
 refine ⟨"tuple", _,kq.lookup,ht.typeIs,?_⟩
 refine HT.getItem_tuple_cut ht hs pl pu (by rw [hlen];exact hw) ?_ (by rw [hlen];exact hz)
 rw [hlen]
 refine ⟨.ref s.heap.objs.size,_,I.laid (t':=s.toks) (o:=.tup (a3V xs lo hi)) (fun b ob q=>qC _ q) (qN _) ?_,rfl,q _ (I.hok.fresh (qN _))⟩
 exact ⟨ql (wF xs lo hi) hz,_,(r.drop (HT.sIx xs.length 0 lo)).take (HT.sIx xs.length xs.length hi - HT.sIx xs.length 0 lo),IsTup.new _ _⟩
def b6K (K:qB):R2:=fun x y H Q=>∃ a b xs ys,x=.ref a∧y=.ref b∧SqT K H a xs∧SqT K H b ys∧xs≠[]∧xs.length+ys.length≤sizeLine ∧
 (ys=[]→Q (.ref a) H)∧(ys≠[]→∀ p,H p=none→Q (.ref p) (upd H p (.tup (xs++ys))))
theorem aX.nil_iff {xs:List V} {us:List Value} (r:aX xs us):us=[]↔xs=[]:=by
 cases r with
 | nil=>simp
 | cons _ _=>simp
theorem b2s:OpR X (binaryOp .Add) (b6K X.K):=by
 intro pins s σ H x y v u Q I rx ry h
 obtain ⟨a,b,xs,ys,rfl,rfl,ha,hb,hx,hz,q1,q2⟩:=h
 cases rx
 cases ry
 obtain ⟨its,r1,p1,_⟩:=I.tuple ha
 obtain ⟨its2,r2,p2,_⟩:=I.tuple hb
 refine HT.cat_tup p1 p2 (fun z=>hx (r1.nil_iff.mp z)) (fun z=>⟨.ref a,H,I,rfl,q1 (r2.nil_iff.mp z)⟩) (fun z=>?_) (by rw [←r1.length,←r2.length];exact hz)
 refine ⟨.ref s.heap.objs.size,_,I.laid (t':=s.toks) (o:=.tup (xs++ys)) (fun b ob q=>qC _ q) (qN _) ?_,rfl,q2 (fun w=>z (r2.nil_iff.mpr w)) _ (I.hok.fresh (qN _))⟩
 exact ⟨by rw [jA];exact hz,_,r1.append r2,IsTup.new _ _⟩
end
def ixN (n:Nat) (i:Int):Option Nat:=if 0≤i then (if i<n then some i.toNat else none) else if -(n:Int)≤i then some (i+n).toNat else none
def atI {α:Type} (xs:List α) (i:Int):Option α:=(ixN xs.length i).bind fun j=>xs[j]?
theorem a6t {n:Nat} {i:Int} {j:Nat} (h:ixN n i=some j):seqIndex? i n=some j∧j<n∧-(n:Int)≤i∧i<n:=by
 unfold ixN at h
 by_cases h0:0≤i
 ·rw [if_pos h0] at h
  by_cases h1:i<n
  ·rw [if_pos h1] at h
   have e:i.toNat=j:=qA h
   exact ⟨by rw [seqIndex_of h0 h1,e],by omega,by omega,h1⟩
  ·rw [if_neg h1] at h;cases h
 ·rw [if_neg h0] at h
  by_cases h1:-(n:Int)≤i
  ·rw [if_pos h1] at h
   have e:(i+n).toNat=j:=qA h
   exact ⟨by rw [seqIndex_neg (by omega) h1,e],by omega,h1,by omega⟩
  ·rw [if_neg h1] at h;cases h
theorem a2O {α:Type} {xs:List α} {i:Int} {v:α} (h:atI xs i=some v):∃ j,seqIndex? i xs.length=some j∧xs[j]?=some v∧j<xs.length∧-(xs.length:Int)≤i∧i<xs.length:=by
 unfold atI at h
 cases e:ixN xs.length i with
 | none=>rw [e] at h;cases h
 | some j=>
  rw [e] at h
  obtain ⟨h1,h2,h3,h4⟩:=a6t e
  exact ⟨j,h1,h,h2,h3,h4⟩
def a2Q (b:Expr):Prop:=∀ o i,subscripted b false o i=operate [o,i] (getItem o i)
def IxR (X:Cx) (r:R2):Prop:=
 ∀ (value slice:Expr) (pins:List (Addr×Obj)) (s:Shared) (σ:St) (H:Hp) (x y:V) (v u:Value) (Q:VK),Inv X pins σ H s→RelV x v→RelV y u→r x y H Q →
  subscripted slice false v u=operate [v,u] (getItem v u)→wpAny (model X.prog X.w) X.A (subscriptTail value slice v u) (EP X pins σ Q) X.xe s
def MtR (X:Cx) (id:String) (r:V→List V→Hp→VK→Prop):Prop:=
 ∀ (pins:List (Addr×Obj)) (s:Shared) (σ:St) (H:Hp) (x:V) (xs:List V) (v:Value) (us:List Value) (Q:VK),Inv X pins σ H s→RelV x v→aX xs us→r x xs H Q →
  wpAny (model X.prog X.w) X.A (call (.builtin id) (v::us)) (EP X pins σ Q) X.xe s
section
variable {X:Cx} {a b:Expr} {ta tb:TE} {pos:Pos}
theorem IxR.or {r r':R2} (h:IxR X r) (h':IxR X r'):IxR X (fun x y H Q=>r x y H Q∨r' x y H Q):=by
 intro value slice pins s σ H x y v u Q I rx ry q hs
 rcases q with q | q
 ·exact h value slice pins s σ H x y v u Q I rx ry q hs
 ·exact h' value slice pins s σ H x y v u Q I rx ry q hs
theorem b3O {r:R2} (hr:IxR X r) (ha:PE X a ta) (hb:PE X b tb) (hs:a2Q b):PE X (.Subscript a b pos) (tOp r ta tb):=by
 intro pins s σ H Q I h
 exact Subscript_ (b6e ha hb I h fun v u s2 x y H2 I2 rx ry q=>hr a b pins s2 σ H2 x y v u Q I2 rx ry q (hs _ _))
def b6F (K:qB):R2:=fun x y H Q=>∃ p xs i v,x=.ref p∧y=.int i∧SqL K H p xs∧atI xs i=some v∧Q v H
def b6D (K:qB):R2:=fun x y H Q=>∃ p xs i v,x=.ref p∧y=.int i∧SqT K H p xs∧atI xs i=some v∧Q v H
def b6E:R2:=fun x y H Q=>∃ z i c,x=.str z∧y=.int i∧z.length≤sizeLine∧atI z.cps.toList i=some c∧Q (.str ⟨#[c]⟩) H
theorem b2H:IxR X (b6F X.K):=by
 intro value slice pins s σ H x y v u Q I rx ry h hs
 obtain ⟨p,xs,i,z,rfl,rfl,hq,he,q⟩:=h
 cases rx
 obtain ⟨t,rfl⟩:=ry
 obtain ⟨its,r,pl,hz⟩:=I.list hq
 obtain ⟨j,h1,h2,h3,h4,h5⟩:=a2O he
 obtain ⟨w,ew,rw'⟩:=r.get h2
 have hl:=r.length
 have hn:=pH
 have fin:EP X pins σ Q w s:=⟨z,H,I,rw',q⟩
 by_cases h0:0≤i
 ·have hj:i.toNat=j:=by
   rw [seqIndex_of h0 h5] at h1
   exact qA h1
  exact item_listR pl.isList h0 (by omega) (by rw [hj];simpa using ew) fin hs
 ·have hj:(i+(its.toArray.size:Int)).toNat=j:=by
   rw [seqIndex_neg (by omega) h4] at h1
   rw [qL,←hl]
   exact qA h1
  exact subscriptTail_builtinR (x:=w) pl.isList.typeIs slot_list_getitem.lookup
   (wpAny_getItem_list_neg (Q:=fun r s'=>r=w∧EP X pins σ Q r s') pl.isList (by omega) (by rw [qL]<;>omega) (by omega) (by rw [hj];simpa using ew) ⟨rfl,fin⟩) hs
theorem b5v:IxR X (b6D X.K):=by
 intro value slice pins s σ H x y v u Q I rx ry h hs
 obtain ⟨p,xs,i,z,rfl,rfl,hq,he,q⟩:=h
 cases rx
 obtain ⟨t,rfl⟩:=ry
 obtain ⟨its,r,pl,hz⟩:=I.tuple hq
 obtain ⟨j,h1,h2,h3,h4,h5⟩:=a2O he
 obtain ⟨w,ew,rw'⟩:=r.get h2
 have hl:=r.length
 have hn:=pH
 have fin:EP X pins σ Q w s:=⟨z,H,I,rw',q⟩
 exact subscriptTail_builtinR (x:=w) pl.typeIs slot_tuple_getitem.lookup
  (getItem_tuple (j:=j) (Q:=fun r s'=>r=w∧EP X pins σ Q r s') pl (by omega) (by omega) (by rw [qL,←hl];exact h1) (by simpa using ew) ⟨rfl,fin⟩) hs
theorem b5w:IxR X b6E:=by
 intro value slice pins s σ H x y v u Q I rx ry h hs
 obtain ⟨z,i,c,rfl,rfl,hz,he,q⟩:=h
 obtain ⟨t,rfl⟩:=rx
 obtain ⟨t',rfl⟩:=ry
 obtain ⟨j,h1,h2,h3,h4,h5⟩:=a2O he
 have hl:z.cps.toList.length=z.length:=by simp [Str.length]
 rw [hl] at h1 h4 h5
 have hn:=pH
 exact tail_any (typeIs_str s z t) slot_str_getitem.lookup (getItem_str (c:=c) (by
  have e1:decide (i < -(2 ^ 63:Int))=false:=decide_eq_false (by omega)
  have e2:decide (i≥2 ^ 63)=false:=decide_eq_false (by omega)
  rw [e1,e2,vi]) (by rw [h1];simpa using h2) ⟨.str ⟨#[c]⟩,H,I.tok _,⟨_,rfl⟩,q⟩) hs
def rIx (K:qB):R2:=fun x y H Q=>b6F K x y H Q∨b6D K x y H Q∨b6E x y H Q
theorem b5x:IxR X (rIx X.K):=b2H.or (b5v.or b5w)
theorem a4R (its:List Value) (n j:Nat) (u:Value):jT (·.setIfInBounds j u) { cls:=.type "list", data:=.seq its.toArray n }={ cls:=.type "list", data:=.seq (its.set j u).toArray n }:=by
 simp [jT]
theorem Inv.lst {pins:List (Addr×Obj)} {σ:St} {H:Hp} {s:Shared} {p:Addr} {xs:List V} (I:Inv X pins σ H s) (h:H p=some (.lst xs)) :
  ∃ (its:List Value) (n:Nat),aX xs its∧s.heap.get? p=some { cls:=.type "list", data:=.seq its.toArray n }∧xs.length≤sizeLine:=by
 obtain ⟨z,its,n,r,e⟩:=I.hok p _ h
 exact ⟨its,n,r,e,z⟩
theorem Inv.lstUpd {pins:List (Addr×Obj)} {σ:St} {H:Hp} {s:Shared} {p:Addr} {xs ys:List V} {its its':List Value} {n n':Nat} {f:Obj→Obj} (I:Inv X pins σ H s) (h:H p=some (.lst xs))
  (ho:s.heap.get? p=some { cls:=.type "list", data:=.seq its.toArray n }) (hf:f { cls:=.type "list", data:=.seq its.toArray n }={ cls:=.type "list", data:=.seq its'.toArray n' }) (r:aX ys its') (hz:ys.length≤sizeLine) (t:Nat) :
  Inv X pins σ (upd H p (.lst ys)) { s with heap:=s.heap.update p f,toks:=t }:=by
 have e:(s.heap.update p f).get? p=some { cls:=.type "list", data:=.seq its'.toArray n' }:=by
  rw [jj f ho (by rw [hf]<;>rfl),hf]
 refine I.write (x:=p) (e:=p) (by rw [h];trivial) (.inl rfl) (fun b u hb q=>(jB _ _ (jh hb)).trans q) ⟨_,e⟩ ?_
 exact ⟨hz,its',n',r,e⟩
def b6C:V→V→V→Hp→(Hp→Prop)→Prop:=fun o i v H Q=>∃ p xs k j,o=.ref p∧i=.int k∧H p=some (.lst xs)∧ixN xs.length k=some j∧Q (upd H p (.lst (xs.set j v)))
theorem set_list:b7y X b6C:=by
 intro pins s σ H o i v ov iv u Q I ro ri rv h
 obtain ⟨p,xs,k,j,rfl,rfl,hp,hj,q⟩:=h
 cases ro
 obtain ⟨t,rfl⟩:=ri
 obtain ⟨its,n,r,ho,hz⟩:=I.lst hp
 obtain ⟨h1,h2,h3,h4⟩:=a6t hj
 have hl:=r.length
 have hn:=pH
 have I':Inv X pins σ (upd H p (.lst (xs.set j v))) { s with heap:=s.heap.update p (jT (·.setIfInBounds j u)) }:=
  I.lstUpd hp ho (a4R its n j u) (r.set rv j) (by rw [List.length_set];exact hz) s.toks
 by_cases h0:0≤k
 ·have hk:k.toNat=j:=by
   rw [seqIndex_of h0 h4] at h1
   exact qA h1
  exact PySem.W.ki_setAt ho h0 (by omega) (by rw [qL,←hl];exact h4) (by rw [hk];exact ⟨_,I',q⟩)
 ·have hk:(k+(its.toArray.size:Int)).toNat=j:=by
   rw [seqIndex_neg (by omega) h3] at h1
   rw [qL,←hl]
   exact qA h1
  exact PySem.W.ki_setBack ho (by omega) (by rw [qL,←hl];exact h3) (by omega) (by rw [hk];exact ⟨_,I',q⟩)
theorem a1R (lo hi:Option Int) (n:Nat):(sliceBounds lo hi none n).1=((HT.sIx n 0 lo:Nat):Int)∧(sliceBounds lo hi none n).2.1=((HT.sIx n n hi:Nat):Int)∧(sliceBounds lo hi none n).2.2=1:=by
 refine ⟨?_,?_,rfl⟩
 ·cases lo with
  | none=>simp [sliceBounds,HT.sIx]
  | some i=>
   simp only [sliceBounds,HT.sIx,Option.getD_none,show (1:Int) > 0 by decide,if_true]
   by_cases h:i<0
   ·simp only [h,if_true]<;>omega
   ·simp only [h,if_false]<;>omega
 ·cases hi with
  | none=>simp [sliceBounds,HT.sIx]
  | some i=>
   simp only [sliceBounds,HT.sIx,Option.getD_none,show (1:Int) > 0 by decide,if_true]
   by_cases h:i<0
   ·simp only [h,if_true]<;>omega
   ·simp only [h,if_false]<;>omega
theorem a0r (its:List Value) (lo hi:Option Int):slicePick its.toArray lo hi none=((its.drop (HT.sIx its.length 0 lo)).take (HT.sIx its.length its.length hi - HT.sIx its.length 0 lo)).toArray:=by
 obtain ⟨h1,h2,h3⟩:=a1R lo hi its.toArray.size
 unfold slicePick
 rw [h1,h2,h3]
 simp only [sliceRange_one,pick_run,qL]<;>rfl
def b8f (K:qB):V→Option Int→Option Int→Hp→VK→Prop:=fun x lo hi H Q=>∃ a xs,x=.ref a∧SqL K H a xs∧∀ p,H p=none→Q (.ref p) (upd H p (.lst (a3V xs lo hi)))
theorem b1N:SlR X (b8f X.K):=by
 intro pins s σ H x v vl vu lo hi sl Q I rx hs pl pu h
 obtain ⟨a,xs,rfl,hx,q⟩:=h
 cases rx
 obtain ⟨its,r,ht,hz⟩:=I.list hx
 have hlen:=r.length
 refine ⟨"list", _,slot_list_getitem.lookup,ht.isList.typeIs,?_⟩
 refine wpAny_getItem_list_slice ht.isList hs pl pu .none (by simp) ?_ (by rw [qL]<;>omega)
 rw [a0r,←hlen]
 refine ⟨.ref s.heap.objs.size,_,I.laid (t':=s.toks) (o:=.lst (a3V xs lo hi)) (fun b ob q=>qC _ q) (qN _) ?_,rfl,q _ (I.hok.fresh (qN _))⟩
 exact ⟨ql (wF xs lo hi) hz,_,0,(r.drop (HT.sIx xs.length 0 lo)).take (HT.sIx xs.length xs.length hi - HT.sIx xs.length 0 lo),qI _ rfl⟩
def mU:V→Bool
 | .non=>true
 | .bl _=>true
 | .int _=>true
 | .str _=>true
 | _=>false
def eqV:V→V→Bool
 | .non,.non=>true
 | .bl a,.bl b=>a==b
 | .bl a,.int b=>(if a then 1 else 0)==b
 | .int a,.bl b=>a==(if b then 1 else 0)
 | .int a,.int b=>a==b
 | .str a,.str b=>a==b
 | _,_=>false
theorem b5H {A:Around} {s:Shared} {y x:V} {u v:Value} (ry:RelV y u) (rx:RelV x v) (fy:mU y=true) (fx:mU x=true):SeqAt.EqAt A s u v (eqV y x):=by
 cases y with
 | non=>
  cases ry
  cases x with
  | non=>cases rx;exact SeqAt.EqAt.same _
  | bl b=>cases rx;exact SeqAt.EqAt.none_bool b
  | int b=>obtain ⟨t,rfl⟩:=rx;exact SeqAt.EqAt.none_int b t
  | str b=>obtain ⟨t,rfl⟩:=rx;exact SeqAt.EqAt.none_str b t
  | _=>exact absurd (show false=true from fx) qX
 | bl a=>
  cases ry
  cases x with
  | non=>cases rx;exact SeqAt.EqAt.bool_none a
  | bl b=>cases rx;exact vj a b
  | int b=>obtain ⟨t,rfl⟩:=rx;exact SeqAt.EqAt.bool_int a b t
  | str b=>obtain ⟨t,rfl⟩:=rx;exact SeqAt.EqAt.bool_str a b t
  | _=>exact absurd (show false=true from fx) qX
 | int a=>
  obtain ⟨t',rfl⟩:=ry
  cases x with
  | non=>cases rx;exact SeqAt.EqAt.int_none a t'
  | bl b=>cases rx;exact SeqAt.EqAt.int_bool a t' b
  | int b=>obtain ⟨t,rfl⟩:=rx;exact SeqAt.EqAt.int_int a t' b t
  | str b=>obtain ⟨t,rfl⟩:=rx;exact SeqAt.EqAt.int_str a t' b t
  | _=>exact absurd (show false=true from fx) qX
 | str a=>
  obtain ⟨t',rfl⟩:=ry
  cases x with
  | non=>cases rx;exact SeqAt.EqAt.str_none a t'
  | bl b=>cases rx;exact SeqAt.EqAt.str_bool a t' b
  | int b=>obtain ⟨t,rfl⟩:=rx;exact SeqAt.EqAt.str_int a t' b t
  | str b=>obtain ⟨t,rfl⟩:=rx;exact SeqAt.EqAt.str_str a t' b t
  | _=>exact absurd (show false=true from fx) qX
 | _=>exact absurd (show false=true from fy) qX
def eqU (x:V) (u:Value):Bool:=match u with
 | .none=>eqV .non x
 | .bool b=>eqV (.bl b) x
 | .int i _=>eqV (.int i) x
 | .str z _=>eqV (.str z) x
 | _=>false
theorem b0Q {x y:V} {u:Value} (r:RelV y u) (f:mU y=true):eqU x u=eqV y x:=by
 cases y with
 | non=>cases r;rfl
 | bl b=>cases r;rfl
 | int i=>obtain ⟨t,rfl⟩:=r;rfl
 | str z=>obtain ⟨t,rfl⟩:=r;rfl
 | _=>exact absurd (show false=true from f) qX
theorem sN {x:V}:∀ {xs:List V} {us:List Value},aX xs us→xs.all mU=true→us.any (eqU x)=xs.any fun y=>eqV y x
 | _,_,.nil,_=>rfl
 | y::xs,u::us,.cons r t,f=>by
  rw [zz,qJ] at f
  rw [jk,jk,b0Q r f.1,sN t f.2]
theorem nM {A:Around} {s:Shared} {x:V} {v:Value} (rx:RelV x v) (fx:mU x=true):∀ {xs:List V} {us:List Value},aX xs us→xs.all mU=true→∀ u∈us,SeqAt.EqAt A s u v (eqU x u)
 | _,_,.nil,_=>fun u hu=>by cases hu
 | y::xs,u::us,.cons r t,f=>fun u' hu=>by
  rw [zz,qJ] at f
  rcases qF.mp hu with rfl | hu
  ·rw [b0Q r f.1];exact b5H r rx f.1 fx
  ·exact nM rx fx t f.2 u' hu
def inV (x:V) (xs:List V):Bool:=xs.any fun y=>eqV y x
def rIn (K:qB) (neg:Bool):R2:=fun x y H Q=>∃ p xs,y=.ref p∧(SqL K H p xs∨SqT K H p xs)∧mU x=true∧xs.all mU=true∧Q (.bl (if neg then !inV x xs else inV x xs)) H
theorem a0Z:OpR X (compareOp .In) (rIn X.K false):=by
 intro pins s σ H x y v u Q I rx ry h
 obtain ⟨p,xs,rfl,hq,fx,fs,q⟩:=h
 cases ry
 rcases hq with hq | hq
 ·obtain ⟨its,r,pl,hz⟩:=I.list hq
  refine SeqAt.in_listAt (eqU x) pl.isList (fun w hw=>nM rx fx r fs w (by simpa using hw)) ⟨.bl _,H,I,rfl,?_⟩
  rw [show its.toArray.any (eqU x)=its.any (eqU x) by simp,sN r fs]
  exact q
 ·obtain ⟨its,r,pl,hz⟩:=I.tuple hq
  refine SeqAt.in_tupleAt (eqU x) pl (fun w hw=>nM rx fx r fs w (by simpa using hw)) ⟨.bl _,H,I,rfl,?_⟩
  rw [show its.toArray.any (eqU x)=its.any (eqU x) by simp,sN r fs]
  exact q
theorem rN:OpR X (compareOp .NotIn) (rIn X.K true):=by
 intro pins s σ H x y v u Q I rx ry h
 obtain ⟨p,xs,rfl,hq,fx,fs,q⟩:=h
 cases ry
 rcases hq with hq | hq
 ·obtain ⟨its,r,pl,hz⟩:=I.list hq
  refine SeqAt.notIn_listAt (eqU x) pl.isList (fun w hw=>nM rx fx r fs w (by simpa using hw)) ⟨.bl _,H,I,rfl,?_⟩
  rw [show its.toArray.any (eqU x)=its.any (eqU x) by simp,sN r fs]
  exact q
 ·obtain ⟨its,r,pl,hz⟩:=I.tuple hq
  refine SeqAt.notIn_tupleAt (eqU x) pl (fun w hw=>nM rx fx r fs w (by simpa using hw)) ⟨.bl _,H,I,rfl,?_⟩
  rw [show its.toArray.any (eqU x)=its.any (eqU x) by simp,sN r fs]
  exact q
theorem sJ:dU X (.builtin "len") (fun xs H Q=>∃ p ys,xs=[.ref p]∧(SqL X.K H p ys∨SqT X.K H p ys)∧Q (.int ys.length) H):=by
 intro pins s σ H xs us Q I r h
 obtain ⟨p,ys,rfl,hq,q⟩:=h
 obtain ⟨u,rfl,rx⟩:=vals1 r
 cases rx
 have hn:=pH
 rcases hq with hq | hq
 ·obtain ⟨its,r',pl,hz⟩:=I.list hq
  have hlen:=r'.length
  exact Calls.call_len_list pl.isList (by simp only [qL]<;>omega) ⟨.int ys.length,H,I.tok _,⟨s.toks+1,by rw [qL,hlen]⟩,q⟩
 ·obtain ⟨its,r',pl,hz⟩:=I.tuple hq
  have hlen:=r'.length
  exact len_tuple pl (by simp only [qL]<;>omega) ⟨.int ys.length,H,I.tok _,⟨s.toks+1,by rw [qL,hlen]⟩,q⟩
theorem a2J:dU X (.builtin "len") (fun xs H Q=>∃ z,xs=[.str z]∧z.length≤sizeLine∧Q (.int z.length) H):=by
 intro pins s σ H xs us Q I r h
 obtain ⟨z,rfl,hz,q⟩:=h
 obtain ⟨u,rfl,t,rfl⟩:=vals1 r
 have hn:=pH
 exact len_str (by omega) ⟨.int z.length,H,I.tok _,⟨_,rfl⟩,q⟩
theorem oV:dU X (.type "tuple") (fun xs H Q=>∃ p ys,xs=[.ref p]∧((SqL X.K H p ys∧∀ l,H l=none→Q (.ref l) (upd H l (.tup ys)))∨(SqT X.K H p ys∧Q (.ref p) H))):=by
 intro pins s σ H xs us Q I r h
 obtain ⟨p,ys,rfl,h⟩:=h
 obtain ⟨u,rfl,rx⟩:=vals1 r
 cases rx
 rcases h with ⟨hq,q⟩ | ⟨hq,q⟩
 ·obtain ⟨its,r',pl,hz⟩:=I.list hq
  have hlen:=r'.length
  refine call_tuple_list pl.isList (fun h' kp=>?_) (by simp only [qL]<;>omega)
  have I1:Inv X pins σ H { s with heap:=h' }:=I.kept (t':=s.toks) kp
  have I2:Inv X pins σ (upd H h'.objs.size (.tup ys)) { s with heap:=h'.push { cls:=.type "tuple", data:=.seq its.toArray } }:=
   I1.laid (t':=s.toks) (fun b o e=>qC _ e) (qN _) (show bY X.prog X.w _ _ _ (.tup ys) from ⟨hz,its,r',IsTup.new _ _⟩)
  exact ⟨.ref h'.objs.size,_,I2,rfl,q _ (I1.hok.fresh (qN _))⟩
 ·obtain ⟨its,r',pl,hz⟩:=I.tuple hq
  exact call_tuple_same pl ⟨.ref p,H,I,rfl,q⟩
def tyV (K:qB) (T:String) (x:V) (H:Hp):Prop:=match x with
 | .str _=>T = "str"
 | .int _=>T = "int"
 | .ref p=>(T = "list" ∧ ∃ xs,SqL K H p xs)∨(T = "tuple" ∧ ∃ o,K.lookup p=some o∧o.cls=.type "tuple" ∧ o.dict=none) ∨
   (T = "dict" ∧ ((∃ kvs,H p=some (.dK kvs))∨∃ kvs,H p=some (.dT kvs)))∨(T = "set" ∧ ∃ S n,H p=some (.set S n))
 | _=>False
theorem b4m {pins:List (Addr×Obj)} {σ:St} {H:Hp} {s:Shared} {T:String} {x:V} {v:Value} (I:Inv X pins σ H s) (r:RelV x v) (ty:tyV X.K T x H) :
  s.TypeIs v T∧∀ a,v=.ref a→∃ ob,s.heap.get? a=some ob∧ob.dict=none:=by
 cases x with
 | str z=>
  obtain ⟨t,rfl⟩:=r
  cases (show T = "str" from ty)
  exact ⟨typeIs_str s z t,fun _ e=>nomatch e⟩
 | int i=>
  obtain ⟨t,rfl⟩:=r
  cases (show T = "int" from ty)
  exact ⟨typeIs_int s i t,fun _ e=>nomatch e⟩
 | ref p=>
  cases r
  rcases ty with ⟨rfl,xs,hq⟩ | ⟨rfl,o,hk,hc,hd⟩ | ⟨rfl,hk⟩ | ⟨rfl,S,n,hk⟩
  ·obtain ⟨its,_,pl,_⟩:=I.list hq
   refine ⟨pl.isList.typeIs,fun a e=>?_⟩
   cases e
   obtain ⟨o,n,e,c,hd,_⟩:=pl
   exact ⟨o,e,hd⟩
  ·refine ⟨⟨o,I.kIn p o hk,hc⟩,fun a e=>?_⟩
   cases e
   exact ⟨o,I.kIn _ o hk,hd⟩
  ·have z:∃ o,s.heap.get? p=some o∧o.ExactDict:=by
    rcases hk with ⟨kvs,hk⟩ | ⟨kvs,hk⟩
    ·obtain ⟨_,_,_,_,o,_,_,e,ex,_⟩:=I.hok p _ hk
     exact ⟨o,e,ex⟩
    ·obtain ⟨_,_,_,_,o,_,_,e,ex,_⟩:=I.hok p _ hk
     exact ⟨o,e,ex⟩
   obtain ⟨o,e,ex⟩:=z
   refine ⟨⟨o,e,ex.1⟩,fun a e2=>?_⟩
   cases e2
   exact ⟨o,e,ex.2.1⟩
  ·obtain ⟨o,_,_,_,e,ex,_⟩:=I.hok p _ hk
   refine ⟨⟨o,e,ex.1⟩,fun a e2=>?_⟩
   cases e2
   exact ⟨o,e,ex.2.1⟩
 | _=>exact jD ty
def tBM (K:qB) (T:String) (r:V→List V→Hp→VK→Prop) (to:TE) (t:TA):TE:=fun σ H Q=>to σ H fun x H1=>tyV K T x H1∧t σ H1 fun xs H2=>r x xs H2 Q
variable {o e:Expr} {es:List Expr} {to:TE} {t:TA} {name:Str} {apos cpos:Pos} {T id:String} {r:V→List V→Hp→VK→Prop}
theorem a9B (pa:PlainAttrs T) (slot:Slot T name id) (hty:typeOf (.builtin id)=pure (.type "method_descriptor")) (hm:MtR X id r) (ho:PE X o to) (ha:PA X (e::es) t)
  (hbase:attributeBase o name X.env (eval o X.env)=eval o X.env:=by rfl)
  (hfew:((backTo cpos (starEach (e::es) X.env)).all (fun x=>!x.1)&&(backToKw cpos (keywordEach [] X.env)).all (fun x=>x.1.isSome)
   && decide ((e::es).length+([]:List Keyword).length+(if ([]:List Keyword).isEmpty then 0 else 1)<30))=true:=by rfl)
  (hline:(apos.endLine==cpos.line)=true:=by rfl) (hs:starEach (e::es) X.env=(false,eval e X.env)::starEach es X.env:=by rfl) (hplain:(backTo cpos (starEach es X.env)).any (·.1)=false:=by rfl) :
  PE X (.Call (.Attribute o name apos) (e::es) [] cpos) (tBM X.K T r to t):=by
 intro pins s σ H Q I h
 refine wpAny_Call_method_late hbase hfew hline rfl (thn (ho pins s σ H _ I h) fun v s1 ⟨x,H1,I1,r1,ty,q1⟩=>?_)
 obtain ⟨h1,h2⟩:=b4m I1 r1 ty
 refine ⟨T,id,pa,slot,hty,h1,h2,?_⟩
 have hA:=ha cpos pins s1 σ H1 _ I1 q1
 rw [hs] at hA ⊢
 refine vZ (by show (false || (backTo cpos (starEach es X.env)).any (·.1))=false;rw [hplain]<;>rfl) (vq ?_)
 exact thn hA fun us s2 ⟨vs,H2,I2,r2,q2⟩=>hm pins s2 σ H2 x vs v us Q I2 r1 r2 q2
end
def MtM (X:Cx) (id:String) (r:V→List V→Hp→VK→Prop):Prop:=
 ∀ (pins:List (Addr×Obj)) (s:Shared) (σ:St) (H:Hp) (x:V) (xs:List V) (v:Value) (us:List Value) (Q:VK),Inv X pins σ H s→RelV x v→aX xs us→r x xs H Q →
  wpAny (model X.prog X.w) X.A (call (.builtin id) (v::us)) (EP X pins σ Q) X.xe s
theorem aX.one:∀ {x:V} {us:List Value},aX [x] us→∃ u,us=[u]∧RelV x u
 | _,_,.cons r .nil=>⟨_,rfl,r⟩
section
variable {X:Cx} {pins:List (Addr×Obj)} {σ:St} {H:Hp} {s:Shared} {l b:Addr} {xs ys zs:List V}
theorem Inv.lset {its its':List Value} {n:Nat} {f:Array Value→Array Value} {t':Nat} (I:Inv X pins σ H s) (hH:H l=some (.lst xs))
  (e:s.heap.get? l=some { cls:=.type "list", data:=.seq its.toArray n }) (hf:f its.toArray=its'.toArray) (hv:aX ys its') (hz:ys.length≤sizeLine) :
  Inv X pins σ (upd H l (.lst ys)) { s with heap:=s.heap.update l (jT f),toks:=t' }:=by
 have q:=PySem.IsL.update e f
 rw [hf] at q
 refine I.write (x:=l) (e:=l) (by rw [hH];exact trivial) (.inl rfl) (fun b' u hb hu=>(jB s.heap (jT f) (jh hb)).trans hu) ⟨_,q⟩ ?_
 exact ⟨hz,its',_,hv,q⟩
theorem Inv.lnew {its:List Value} {t':Nat} (I:Inv X pins σ H s) (hv:aX ys its) (hz:ys.length≤sizeLine) :
  Inv X pins σ (upd H s.heap.objs.size (.lst ys)) { s with heap:=s.heap.push { cls:=.type "list", data:=.seq its.toArray },toks:=t' }:=
 I.laid (fun _ _ q=>qC _ q) (qN _) ⟨hz,its,0,hv,qI _ rfl⟩
theorem Inv.fresh (I:Inv X pins σ H s):H s.heap.objs.size=none:=I.hok.fresh (qN _)
theorem Inv.lstM (I:Inv X pins σ H s) (hH:H l=some (.lst xs)):xs.length≤sizeLine∧∃ (its:List Value) (n:Nat),aX xs its∧xs.length=its.length∧s.heap.get? l=some { cls:=.type "list", data:=.seq its.toArray n }:=by
 obtain ⟨z,its,n,r,e⟩:=I.hok l _ hH
 exact ⟨z,its,n,r,r.length,e⟩
theorem a9L {n:Nat} (h:n≤sizeLine):vO n=false:=by
 unfold vO
 exact decide_eq_false (by omega)
end
section
variable {X:Cx}
def b1S:V→List V→Hp→VK→Prop:=fun x vs H Q=>∃ l xs y,x=.ref l∧vs=[y]∧H l=some (.lst xs)∧xs.length<sizeLine∧Q .non (upd H l (.lst (xs++[y])))
theorem a1d:MtM X "list.append" b1S:=by
 intro pins s σ H x vs v us Q I rx rv h
 obtain ⟨l,xs,y,rfl,rfl,hH,hz,q⟩:=h
 cases rx
 obtain ⟨u,rfl,ru⟩:=rv.one
 obtain ⟨z,its,n,r,hl,e⟩:=I.lstM hH
 refine call_meets F.slot_list_append ⟨_,e,rfl⟩ F.entry_list_append (F.args_list_append_2 _ _) (PySem.list_append l its.toArray n u (by rw [qL];omega)) ⟨e,?_⟩
 refine ⟨.non,_,I.lset (its':=its++[u]) hH e (by simp) (r.append (.cons ru .nil)) ?_,rfl,q⟩
 rw [jA,List.length_singleton]
 omega
end
section
variable {prog:Program} {w:World} {A:Around} {E:Value→Shared→Prop} {s:Shared}
end
section
variable {X:Cx}
end
end L2
namespace Att
open PySem PySem.W PySem.Calls PyProof.Rows
theorem wJ {P:Params} {h:Heap}:∀ (ns:List Int) (vs:List Value),WellAll P h vs (ns.map WData.int)→IntsAre vs ns:=by
 intro ns
 induction ns with
 | nil=>
  intro vs w
  rw [List.map_nil] at w
  cases w
  exact .nil
 | cons n ns ih=>
  intro vs w
  rw [qG] at w
  cases w with
  | cons a b=>
   cases a
   exact .cons _ _ (ih _ b)
theorem a7t {l:OpenLaw} {n:Nat} (hn:l.most=some n) {P:Params} {h:Heap} {args:List WData} {vals:List Value}
  (hpre:l.row.toRowW.claim.pre args=true) (hwl:WellAll P h vals args) :
  ∃ a vs ns,vals=[qy a]∧args=[WData.list (ns.map WData.int)]∧h.get? a=some { cls:=.type "list", data:=.seq vs.toArray }∧IntsAre vs ns∧ns.length≤n:=by
 have hsh:WShape.hasAll [] args [.list .int]=true:=(pre_splitW hpre).1
 have hc:l.pre.holds [] { args:=args }=true:=(pre_splitW hpre).2
 obtain ⟨d,r,rfl,h1,h2⟩:=hasAllW_cons hsh
 obtain rfl:=hasAllW_nil h2
 obtain ⟨xs,rfl,h3⟩:=hasW_list h1
 obtain ⟨ns,rfl⟩:=items_int h3
 have hlen:ns.length≤n:=by
  unfold OpenLaw.pre at hc
  have h4:(WTm.not (.lt (.lit (.int (n:Int))) (.len (.arg 0)))).holds [] { args:=[.list (ns.map .int)] }=true:=by
   have h4:=(holds_andW hc).1
   rw [hn] at h4
   exact h4
  have h5:=condW_of h4 (w_not (w_lt w_lit (w_len_list (w_arg rfl))))
  rw [qD] at h5
  refine Nat.le_of_not_lt fun q=>?_
  have q':(n:Int)<((ns.length:Nat):Int):=by omega
  first
   | (rw [decide_eq_true q'] at h5;exact absurd h5 (by decide))
   | (simp at h5;omega)
 cases hwl with
 | cons w1 w2=>
  cases w2
  cases w1 with
  | list ho hall=>exact ⟨_,_,ns,rfl,rfl,ho,wJ ns _ hall,hlen⟩
theorem a7z (l:OpenLaw) (args:List WData):l.row.toRowW.claim.post args (.bool true) args=true:=
 postW_of (r:=l.row.toRowW) (X:=(true==true))
  (show WShape.has [] (.bool true) .bool=true by first | rfl | decide | simp [WShape.has,WShape.arms,WShape.armsAll])
  (show (WTm.eq .res (.lit (.bool true))).value [] { args:=args,res:=some (.bool true),after:=args }=some (.bool (true==true)) from w_eq_bool (w_res rfl) w_lit) rfl
theorem attach_call {l:OpenLaw} {n:Nat} {q:Program} {loose:List Str} {XP:(Str→Option Value)→Heap→Prop} {YP:World→Heap→Prop} {d:DefRec}
  (hn:l.most=some n) (hdf:d.params.defaults=[])
  (call:∀ (w:World) (s₀ s₁:Shared) (mg mb:Str→Option Value) (fa:Addr) (o:Obj) (pm cd doc:Value) (a:Addr) (vs:List Value) (ns:List Int),
   Ground q loose [] XP w s₀ mg mb s₁.heap→YP w s₁.heap →
   s₁.heap.get? fa=some o→o.data=.func (docDef d.name d.params d.body d.scope pm cd doc)→s₁.heap.CodeRec cd d.name→mg d.name=some (.ref fa) →
   s₁.heap.get? a=some { cls:=.type "list", data:=.seq vs.toArray }→IntsAre vs ns→ns.length≤n→s₁.gens=#[] →
   codeAny (model l.prog w) callerA (.call (.ref fa) ⟨[.ref a],[]⟩) (fun r s'=>r=.ok (.ret (.bool true))∧OldK s₁.heap s'.heap∧s'.os=s₁.os∧AllBare s'.gens) s₁) :
  WalkO q loose XP YP l.row.toRowW d [] (fun f vs=>PySem.call f vs):=by
 intro w s₀ s₁ mg mb G Y fa o pm cd doc dV kV ho hd hcd hD hmg hg args vals as hpre hlay hrd hwl hlo
 obtain rfl:dV=.none:=Dflts.none hD hdf
 obtain rfl:kV=.none:=Dflts.noKw hD
 obtain ⟨a,vs,ns,rfl,rfl,hobj,hints,hlen⟩:=a7t hn hpre hwl
 refine enter_call (codeAny_mono (call w s₀ s₁ mg mb fa o pm cd doc a vs ns G Y ho (fd_plain hd) hcd hmg hobj hints hlen hg) fun r s' hq=>?_)
 obtain ⟨rfl,h2,h3,h4⟩:=hq
 exact ⟨.inl ⟨.bool true,.bool true,[],rfl,fun _=>rfl,.bool true,a7z l _,fun _=>⟨List.Pairwise.nil,fun _ hm=>(nomatch hm)⟩⟩,h2,h3,h4⟩
section
variable {prog:Program} {w:World} {A:Around} {E:Value→Shared→Prop} {s:Shared} {K:Frag}
end
end Att
namespace L2
open PySem PySem.Spec PyProof.Rows
theorem lD:∀ {vs:List Value} {ns:List Int},IntsAre vs ns→aX (ns.map V.int) vs
 | _,_,.nil=>.nil
 | _,_,.cons n t h=>.cons ⟨t,rfl⟩ (lD h)
def b8I (H:Hp):Prop:=∀ b,H b=none∨∃ o xs,H b=some (.frz o (.lst xs))
def fH (s:Stmt):Arguments:=match s with
 | .FunctionDef _ a _ _ _ _ _ _ _ _=>a
 | _=>{ posonlyargs:=[],args:=[],vararg:=none,kwonlyargs:=[],kw_defaults:=[],kwarg:=none,defaults:=[] }
def cA (s:Stmt):List Stmt:=match s with
 | .FunctionDef _ _ b _ _ _ _ _ _ _=>b
 | _=>[]
def aD (s:Stmt):Scope:=match s with
 | .FunctionDef _ _ _ _ _ _ sc _ _ _=>sc
 | _=>{ kind:=.function,names:=[],isGenerator:=false,isCoroutine:=false }
abbrev CX0:CXT:=fun _ _ _ _ _ _=>False
abbrev E0:XK:=fun _ _ _=>False
theorem b6Q {X:Cx}:a5K CX0 X E0:=fun _ _ _ _ _ _ _ h=>h.elim
structure Fun (K:qB) (x qual:Str) (st:Stmt) (f:Addr) (fd:FuncData):Prop where
 ex:∃ (oc:Value) (od:Option Addr) (kV doc pm:Value) (an:Option Addr) (cdv ct:Value) (osl:Array (Option Value)),
  fd=jd x qual (fH st) (cA st) (aD st) .none kV doc pm an cdv ct∧K.lookup f=some ⟨oc,od,.func fd,osl⟩∧zj K cdv qual=true
 kp:ju K (.ref f)=true
section
variable {P:Program} {w:World} {K:qB} {mg:Str→Option Value} {base:Heap}
theorem Fun.ok {x qual:Str} {st:Stmt} {f:Addr} {fd:FuncData} {N ps:List Str} {k:Nat} {sp:Sp} (F:Fun K x qual st f fd) (S:FnScope N ps (aD st)) (len:∀ vs H Q E,sp vs H Q E→vs.length=ps.length)
  (hbody:∀ (cdv:Value) (A:Around) (outer:List Env) (s:Shared) (H:Hp) (vs:List V) (Q:VK) (E:XK),Room k (A.deeper (envOfC qual (aD st) s.heap.objs.size f cdv))→sp vs H Q E →
   ∃ t,PSs (wK CX0 P w K mg base N qual (aD st) f cdv A outer s H E).nox (cA st) t∧t { nx:=fun _ H'=>Q .non H',rt:=Q } (start N vs) H):FnOk P w K mg base CX0 (k+1) f fd ps sp:=by
 obtain ⟨oc,od,kV,doc,pm,an,cdv,ct,osl,rfl,lk,hcd⟩:=F.ex
 refine b0K lk hcd S len fun A outer s H vs Q E hr hsp=>?_
 obtain ⟨t,h,q⟩:=hbody cdv A outer s H vs Q E hr hsp
 exact ⟨t,h.nox,q⟩
theorem Fun.binds {x qual:Str} {st:Stmt} {f:Addr} {fd:FuncData} {ps:List Str} (F:Fun K x qual st f fd)
  (h:∀ (kV doc pm:Value) (an:Option Addr) (cdv ct:Value) (us:List Value),us.length=ps.length→bindArgs (jd x qual (fH st) (cA st) (aD st) .none kV doc pm an cdv ct) ⟨us,[]⟩=pure (ps.zip us)):Binds K fd ps []:=by
 obtain ⟨oc,od,kV,doc,pm,an,cdv,ct,osl,rfl,lk,hcd⟩:=F.ex
 exact .all (h kV doc pm an cdv ct)
theorem b0I {x qual:Str} {st:Stmt} {f:Addr} {oc:Value} {od an:Option Addr} {osl:Array (Option Value)} {kV doc pm cdv ct:Value} (l:K.lookup f=some ⟨oc,od,.func (jd x qual (fH st) (cA st) (aD st) .none kV doc pm an cdv ct),osl⟩)
  (c:zj K cdv qual=true) (k:ju K (.ref f)=true):Fun K x qual st f (jd x qual (fH st) (cA st) (aD st) .none kV doc pm an cdv ct):=⟨⟨oc,od,kV,doc,pm,an,cdv,ct,osl,rfl,l,c⟩,k⟩
end
theorem eB {n:Nat} (h:n≤1000):n<sizeLine:=kF h (by decide)
section
variable {X:Cx}
theorem pv (i:Nat) {x:Str} {pos:Pos} (hN:X.N[i]?=some x:=by rfl) (hv:Vis X.env.scope x:=by first | exact jx rfl | exact jX (jx rfl) | exact jX (jX rfl)) (hd:(x==("__debug__" : Str))=false:=by decide)
  (hcd:(x==("__classdict__" : Str))=false:=by decide):PE X (.Name x pos) (b6r i):=gZ hN hv hd hcd
end
theorem b8p {A B:Prop} (h:B):if false=true then A else B:=by
 rw [if_neg qX]
 exact h
theorem b8o {A B:Prop} (h:A):if true=true then A else B:=by
 rw [if_pos rfl]
 exact h
def bH (H H':Hp):Prop:=∀ b o,H b=some o→H' b=some o
theorem bH.refl (H:Hp):bH H H:=fun _ _ h=>h
theorem bH.trans {H H1 H2:Hp} (a:bH H H1) (b:bH H1 H2):bH H H2:=fun c o h=>b c o (a c o h)
theorem bH.free {H H':Hp} (e:bH H H') {l:Addr} (h:H' l=Option.none):H l=Option.none:=by
 cases q:H l with
 | none=>rfl
 | some o=>
  rw [e l o q] at h
  cases h
theorem bH.seq {K:qB} {H H':Hp} {a:Addr} {xs:List V} (e:bH H H') (h:SqL K H a xs):SqL K H' a xs:=by
 rcases h with (h | ⟨o,h⟩) | h
 ·exact .inl (.inl (e _ _ h))
 ·exact .inl (.inr ⟨o,e _ _ h⟩)
 ·exact .inr h
theorem a5i {α β:Type} {l:List α} {f:α→β→Sem (ForInStep β)} {g:α→β→β}:∀ (c:β),(∀ x∈l,∀ c,f x c=pure (.yield (g x c)))→(forIn l c f:Sem β)=pure (l.foldl (fun c x=>g x c) c):=by
 induction l with
 | nil=>intro c _;rfl
 | cons x r ih=>
  intro c h
  rw [List.forIn_cons,h x qT]
  exact ih _ fun y hy=>h y (qE _ hy)
def lB (env:Env) (p:Str×NameKind) (cs:List (Str×Addr)):List (Str×Addr):=
 if p.2=.free then (match env.cells.lookup p.1 with | some a=>(p.1,a)::cs | none=>cs) else cs
def uK (scope:Scope) (env:Env):List (Str×Addr):=scope.names.foldl (fun cs p=>lB env p cs) []
theorem mO {scope:Scope} {env:Env} (h:∀ p∈scope.names,p.2=.free→∃ c,env.cells.lookup p.1=some c):closureFor scope env=pure (uK scope env):=by
 simp only [closureFor]
 rw [a5i (g:=lB env) [] (fun x hx c=>by
  obtain ⟨n,kind⟩:=x
  by_cases hk:kind=.free
  ·subst hk
   obtain ⟨a,e⟩:=h _ hx rfl
   have e':env.cells.lookup n=some a:=e
   simp [lB,e',cellOf]
   try rfl
  ·have hb:(kind==kH)=false:=by simpa using hk
   simp [lB,hb,hk])]
 rfl
theorem b3Z {env:Env}:∀ (names:List (Str×NameKind)) (cs:List (Str×Addr)),(∀ x c,(x,c)∈cs→env.cells.lookup x=some c) →
  ∀ x c,(x,c)∈names.foldl (fun cs p=>lB env p cs) cs→env.cells.lookup x=some c
 | [],cs,h=>h
 | p::r,cs,h=>by
  refine b3Z r _ ?_
  intro x c hx
  unfold lB at hx
  dsimp only at hx
  split at hx
  ·split at hx
   ·rename_i a e
    rcases qF.mp hx with z | z
    ·cases z;exact e
    ·exact h x c z
   ·exact h x c hx
  ·exact h x c hx
theorem a6X {env:Env} {q:Str×Addr}:∀ (names:List (Str×NameKind)) (cs:List (Str×Addr)),q∈cs→q∈names.foldl (fun cs p=>lB env p cs) cs
 | [],_,h=>h
 | p::r,cs,h=>by
  refine a6X r _ ?_
  unfold lB
  dsimp only
  split
  ·split
   ·exact qE _ h
   ·exact h
  ·exact h
theorem b1l {env:Env} {x:Str} {c:Addr} (e:env.cells.lookup x=some c):∀ (names:List (Str×NameKind)) (cs:List (Str×Addr)),(x,kH)∈names→(x,c)∈names.foldl (fun cs p=>lB env p cs) cs
 | [],_,h=>by simp at h
 | p::r,cs,h=>by
  rcases qF.mp h with z | z
  ·subst z
   refine a6X r _ ?_
   unfold lB
   dsimp only
   rw [if_pos rfl,e]
   exact qT
  ·exact b1l e r _ z
theorem iA {α:Type} {x:Str} {c:α}:∀ {l:List (Str×α)},(x,c)∈l→∃ c',l.lookup x=some c'
 | [],h=>by simp at h
 | (y,d)::r,h=>by
  by_cases e:x=y
  ·subst e;exact ⟨d,by simp [jF]⟩
  ·have hb:(x==y)=false:=by simpa using e
   rcases qF.mp h with z | z
   ·cases z;exact absurd rfl e
   ·obtain ⟨c',q⟩:=iA z
    exact ⟨c',by simp [jF,hb,q]⟩
theorem a2D {scope:Scope} {env:Env} {x:Str} {c:Addr} (h:(uK scope env).lookup x=some c):env.cells.lookup x=some c:=
 b3Z scope.names [] (fun _ _ z=>by simp at z) x c (qa h)
theorem sG {scope:Scope} {env:Env} {x:Str} {c:Addr} (hx:(x,kH)∈scope.names) (e:env.cells.lookup x=some c):(uK scope env).lookup x=some c:=by
 obtain ⟨c',q⟩:=iA (b1l e scope.names [] hx)
 have:=a2D (scope:=scope) q
 rw [e] at this
 cases this
 exact q
theorem gJ {env:Env} (hf:env.scope.kind=.function):∀ {names:List (Str×NameKind)} {x:Str},names.lookup x=some .free→env.kindOf x=some .cell →
  (names.map fun (n,k)=>if (k==kH&&env.scope.kind==.function&&env.kindOf n==some .cell) then (n,vS) else (n,k)).lookup x=some .cell
 | [],_,h,_=>by simp at h
 | (n,k)::r,x,h,hk=>by
  have ih:=@gJ env hf r x
  show List.lookup x ((if (k==kH&&env.scope.kind==.function&&env.kindOf n==some .cell)=true then (n,vS) else (n,k))::_)=_
  cases hx:x==n with
  | true=>
   simp only [jF,hx] at h
   have e:x=n:=by simpa using hx
   subst e
   cases h
   have hc:(kH==kH&&env.scope.kind==.function&&env.kindOf x==some vS)=true:=by rw [hf,hk];rfl
   rw [if_pos hc]
   simp [jF]
  | false=>
   simp only [jF,hx] at h
   by_cases hc:(k==kH&&env.scope.kind==.function&&env.kindOf n==some .cell)=true
   ·rw [if_pos hc];simp only [jF,hx];exact ih h hk
   ·rw [if_neg hc];simp only [jF,hx];exact ih h hk
theorem gX:∀ (names:List (Str×NameKind)) (n:Nat) (acc cl:List (Str×Addr)),cellsFrom n names (acc++cl)=cellsFrom n names acc++cl
 | [],_,_,_=>rfl
 | (x,k)::r,n,acc,cl=>by
  unfold cellsFrom
  split
  ·exact gX r (n+1) ((x,n)::acc) cl
  ·exact gX r n acc cl
theorem eW (names:List (Str×NameKind)) (n:Nat) (cl:List (Str×Addr)) {x:Str} {c:Addr} (h:(cellsFrom n names cl).lookup x=some c) :
  (cellsFrom n names []).lookup x=some c∨((cellsFrom n names []).lookup x=none∧cl.lookup x=some c):=by
 have e:=gX names n [] cl
 rw [zU] at e
 rw [e,zZ] at h
 cases q:(cellsFrom n names []).lookup x with
 | some d=>rw [q] at h;exact .inl h
 | none=>rw [q] at h;exact .inr ⟨rfl,h⟩
theorem a4a (names:List (Str×NameKind)) (n:Nat) (cl:List (Str×Addr)) {x:Str} {c:Addr} (h:cl.lookup x=some c):∃ d,(cellsFrom n names cl).lookup x=some d:=by
 have e:=gX names n [] cl
 rw [zU] at e
 rw [e,zZ]
 cases q:(cellsFrom n names []).lookup x with
 | some d=>exact ⟨d,rfl⟩
 | none=>exact ⟨c,h⟩
theorem a4b (names:List (Str×NameKind)) (n:Nat) (cl:List (Str×Addr)) {x:Str} {c:Addr} (h0:(cellsFrom n names []).lookup x=none) (h:cl.lookup x=some c):(cellsFrom n names cl).lookup x=some c:=by
 have e:=gX names n [] cl
 rw [zU] at e
 rw [e,zZ,h0]
 exact h
theorem a4c (names:List (Str×NameKind)) (n:Nat) (cl:List (Str×Addr)) {x:Str} {c:Addr} (h:(cellsFrom n names []).lookup x=some c):(cellsFrom n names cl).lookup x=some c:=by
 have e:=gX names n [] cl
 rw [zU] at e
 rw [e,zZ,h]
 rfl
theorem uL:∀ (names:List (Str×NameKind)) (n:Nat) (acc:List (Str×Addr)) {x:Str} {c:Addr},(x,c)∈cellsFrom n names acc→(x,c)∈acc∨(x,vS)∈names
 | [],_,_,_,_,h=>.inl h
 | (y,k)::r,n,acc,x,c,h=>by
  unfold cellsFrom at h
  split at h
  ·rename_i hk
   have hk':k=.cell:=by simpa using hk
   rcases uL r (n+1) ((y,n)::acc) h with z | z
   ·rcases qF.mp z with z | z
    ·cases z;subst hk';exact .inr qT
    ·exact .inl z
   ·exact .inr (qE _ z)
  ·rcases uL r n acc h with z | z
   ·exact .inl z
   ·exact .inr (qE _ z)
theorem b3A {M:Model} {A:Around} {E:Value→Shared→Prop} {s:Shared} {scope:Scope} {globals:Addr} {cl:List (Str×Addr)} {qual:Str} {env:Env} {Q:Env→Shared→Prop}
  (hQ:Q (newEnv scope s.heap.objs.size globals (cellsFrom (s.heap.objs.size+1) scope.names cl) qual none .none (some env) builtinsNs) { s with heap:=pushCells (s.heap.push { cls:=.type "dict", data:=.dict #[] }) scope.names }) :
  wpAny M A (newFunctionEnv scope globals cl [] qual none .none (some env)) Q E s:=by
 simp only [newFunctionEnv,Option.isSome_some,if_true]
 refine wpAny_bind (wpAny_alloc ?_)
 refine wpAny_bind (wpAny_layCells _ (fun name kind cells=>by cases hkc:kind==vS<;>simp [hkc]) _ _ _ _ ?_)
 rw [show ({ s with heap:=s.heap.push { cls:=.type "dict", data:=.dict #[] } }:Shared).heap.objs.size=s.heap.objs.size+1 from qz ..]
 refine wpAny_bind (wpAny_pure ?_)
 exact wpAny_pure hQ
structure Blk (X:Cx) (scope:Scope) (N':List Str) (cap:List (Option Nat)):Prop where
 kind:scope.kind=.function
 cells:∀ y∈scope.names,y.2=.cell→scope.names.lookup y.1=some .cell
 names:∀ y∈scope.names,y.2=.local→scope.names.lookup y.1=some .local
 free:∀ y∈scope.names,y.2=.free→X.env.kindOf y.1=some .cell
 caps:∀ (i j:Nat),cap[i]?=some (some j)→∃ x,N'[i]?=some x∧X.N[j]?=some x∧scope.names.lookup x=some .free
 len:cap.length=N'.length
 nd:N'.Nodup
def fM (cap:List (Option Nat)) (σ:St):St:=cap.map fun o=>match o with
 | some j=>(σ[j]?).getD none
 | none=>none
def cF (X:Cx) (scope:Scope) (N':List Str) (C:Addr) (s₃:Shared) (H₃:Hp) (fp:List Addr):Cx:=
 { X with env:=compEnvC scope (cellsFrom (C+1) scope.names (uK scope X.env)) C X.env,N:=N',s₀:=s₃,H₀:=H₃,outer:=X.stack,ex:=fp,fn:=fun x=>decide (scope.names.lookup x=some .cell),pn:=[],xe:=fun _ _=>False }
theorem b3z {X:Cx} {scope:Scope} {N':List Str} {cap:List (Option Nat)} {pins:List (Addr×Obj)} {σ:St} {H:Hp} {s:Shared} {fp:List Addr} {h':Heap} {tk:Nat} {m':Str→Option Value}
  (B:Blk X scope N' cap) (I:Inv X pins σ H s) (hf:∀ b∈fp,sP X pins H b) (hlt:∀ b∈fp,b<s.heap.objs.size)
  (hn:h'.Ns s.heap.objs.size m') (hk:∀ b o,s.heap.get? b=some o→h'.get? b=some o) (ow:CellsOk h' (s.heap.objs.size+1) (cellsFrom (s.heap.objs.size+1) scope.names [])) :
  Inv (cF X scope N' s.heap.objs.size s H fp) [] (fM cap σ) H { s with heap:=h',toks:=tk }:=by
 have cl:∀ x c,(uK scope X.env).lookup x=some c→X.env.cells.lookup x=some c:=fun x c h=>a2D h
 have hsz:∀ x c,X.env.cells.lookup x=some c→c<s.heap.objs.size:=fun x c e=>by
  obtain ⟨v,q⟩:=I.cell x c e
  exact q.lt
 have own:∀ x c,(cellsFrom (s.heap.objs.size+1) scope.names []).lookup x=some c→h'.IsCell c none∧s.heap.objs.size<c:=fun x c e=>by
  obtain ⟨q1,q2⟩:=ow.empty x c (qa e)
  exact ⟨q1,qR (wA _) q2⟩
 refine ⟨⟨I.ok.mod,B.kind,I.ok.glob,I.ok.blt,qN _,?_,?_,?_,I.ok.hd,I.ok.frames,.inl rfl,?_,I.bs,ql I.ok.bsz I.sz,?_,?_,I.stack,I.stkFree⟩,
  rfl,I.bare,Un.kept hk,⟨m',hn,?_⟩,?_,I.hok.fresh (qN _),?_,?_,I.hok.kept hk,?_⟩
 ·intro x y c h1 h2
  rcases eW _ _ _ h1 with a1 | ⟨_,a1⟩<;>rcases eW _ _ _ h2 with a2 | ⟨_,a2⟩
  ·exact name_of_addr ow.apart (qa a1) (qa a2)
  ·exact absurd (hsz y c (cl y c a2)) (vz (own x c a1).2)
  ·exact absurd (hsz x c (cl x c a1)) (vz (own y c a2).2)
  ·exact I.ok.inj x y c (cl x c a1) (cl y c a2)
 ·intro x hx
  have hx:(relabel scope X.env).names.lookup x=some .cell∨(relabel scope X.env).names.lookup x=some .free:=hx
  have key:∃ k,(relabel scope X.env).names.lookup x=some k∧(k=.cell∨k=.free):=by
   rcases hx with h | h
   ·exact ⟨_,h,.inl rfl⟩
   ·exact ⟨_,h,.inr rfl⟩
  obtain ⟨k,hk1,hk2⟩:=key
  obtain ⟨⟨n,k0⟩,hm,he⟩:=qU.mp (qa hk1)
  have fr:(k0=.free∨k0=.cell)∧n=x:=by
   dsimp only at he
   by_cases hc:(k0==kH&&X.env.scope.kind==.function&&X.env.kindOf n==some .cell)=true
   ·rw [if_pos hc] at he
    cases he
    simp only [qJ] at hc
    exact ⟨.inl (by simpa using hc.1.1),rfl⟩
   ·rw [if_neg hc] at he
    cases he
    rcases hk2 with z | z
    ·exact ⟨.inr z,rfl⟩
    ·exact ⟨.inl z,rfl⟩
  obtain ⟨hk0,rfl⟩:=fr
  rcases hk0 with rfl | rfl
  ·obtain ⟨c,e⟩:=I.ok.has n (.inl (B.free _ hm rfl))
   exact a4a _ _ _ (sG hm e)
  ·obtain ⟨c,e⟩:=sH (sc:=scope) (n:=s.heap.objs.size+1) (B.cells _ hm rfl)
   exact ⟨c,a4c _ _ _ e⟩
 ·intro x c hx e
  have hx:scope.names.lookup x=some .cell:=of_decide_eq_true hx
  rcases eW _ _ _ e with e | ⟨n0,_⟩
  ·exact qr (own x c e).2
  ·obtain ⟨d,q⟩:=sH (sc:=scope) (n:=s.heap.objs.size+1) hx
   rw [q] at n0;cases n0
 ·intro b hb
  refine ⟨qW (hlt b hb),fun x c e=>?_⟩
  rcases eW _ _ _ e with e | ⟨_,e⟩
  ·exact fun z=>absurd (hlt b hb) (vz (by rw [←z];exact (own x c e).2))
  ·exact (hf b hb).2.2.2.2.1 x c (cl x c e)
 ·intro b o e hb
  rcases (hf b hb).2.2.2.1 with z | z
  ·exact I.ok.noex b o e z
  ·exact absurd (qR (qH e) (ql I.ok.bsz z)) (jU _)
 ·intro b hb hfs
  rcases qF.mp (I.stkSub b hfs) with z | z
  ·exact (hf b hb).2.1 z
  ·exact (hf b hb).2.2.1 z
 ·intro i x v e1 e2 _
  have e1:N'[i]?=some x:=e1
  have e2:(fM cap σ)[i]?=some (some v):=e2
  unfold fM at e2
  rw [qP] at e2
  cases hc:cap[i]? with
  | none=>rw [hc] at e2;cases e2
  | some o=>
   rw [hc] at e2
   cases o with
   | none=>cases e2
   | some j=>
    have e3:(σ[j]?).getD none=some v:=qA e2
    have e4:σ[j]?=some (some v):=by
     cases q:σ[j]? with
     | none=>rw [q] at e3;cases e3
     | some w'=>rw [q] at e3;have:w'=some v:=e3;rw [this]
    obtain ⟨y,h1,h2,h3⟩:=B.caps i j hc
    rw [e1] at h1
    cases h1
    have hcell:X.env.kindOf x=some .cell:=B.free _ (qa h3) rfl
    obtain ⟨m,_,hl⟩:=I.loc
    obtain ⟨u,r,l⟩:=hl j x v h2 e4 (.inr (.inl hcell))
    refine ⟨u,r,?_⟩
    rcases l with ⟨k,_⟩ | ⟨_,c,e,z⟩
    ·rw [hcell] at k;cases k
    ·refine .inr ⟨.inl ?_,c,a4b _ _ _ ?_ (sG (qa h3) e),?_⟩
     ·exact gJ I.ok.kind h3 hcell
     ·cases q:(cellsFrom (s.heap.objs.size+1) scope.names []).lookup x with
      | none=>rfl
      | some d=>
       rcases uL _ _ _ (qa q) with z | z
       ·cases z
       ·rw [B.cells _ z rfl] at h3;cases h3
     ·obtain ⟨o,q1,q2⟩:=z
      exact ⟨o,hk c o q1,q2⟩
 ·intro x c e
  rcases eW _ _ _ e with e | ⟨_,e⟩
  ·exact ⟨none,(own x c e).1⟩
  ·obtain ⟨v,o,q1,q2⟩:=I.cell x c (cl x c e)
   exact ⟨v,o,hk c o q1,q2⟩
 ·intro x c e
  rcases eW _ _ _ e with e | ⟨_,e⟩
  ·exact I.hok.fresh (qr (own x c e).2)
  ·exact I.freeC x c (cl x c e)
 ·intro p hp
  exact absurd (show p∈([]:List (Addr×Obj)) from hp) (by simp)
 ·show (fM cap σ).length=N'.length
  unfold fM
  rw [qD]
  exact B.len
def PTs (X:Cx) (ifs:List Expr) (t:TT):Prop:=
 ∀ (pins:List (Addr×Obj)) (s:Shared) (σ:St) (H:Hp) (Q:Bool→Hp→Prop),Inv X pins σ H s→t σ H Q →
  wpAny (model X.prog X.w) X.A (forIn ifs true fun c r=>if r=true then do let ok ←isTrue c X.env (eval c X.env);pure (ForInStep.yield ok) else pure (ForInStep.yield r)) (TP X pins σ Q) X.xe s
def b7Y:TT:=fun _ H Q=>Q true H
theorem b1W {X:Cx}:PTs X [] b7Y:=fun _ _ _ H _ I h=>wpAny_tests_nil ⟨H,I,h⟩
theorem b1V {X:Cx} {c:Expr} {t:TT} (h:PT X c t):PTs X [c] t:=fun pins s σ H Q I hw=>wpAny_tests_one (h pins s σ H Q I hw)
def wG (J:It) (g:TG) (tc:TT) (te:TE) (σ₀:St) (H:Hp) (Q:VK):Prop:=
 ∃ W:Addr→Nat→Nat→List V→St→Hp→Prop,∀ D,H D=none→(∃ m,W D 0 m [] σ₀ (upd H D (.lst [])))∧∀ i m ys σ1 H1,W D i m ys σ1 H1→H1 D=some (.lst ys) →
  (J.stop i H1∧Q (.ref D) H1)∨(J.go i H1∧∀ x H2,J.yld i H1 x H2→g x σ1 H2 fun σ3 H3=>tc σ3 H3 fun b H4=>
   if b=true then te σ3 H4 fun v H5=>H5 D=some (.lst ys)∧ys.length<sizeLine∧∃ m',m'<m∧W D (i+1) m' (ys++[v]) σ3 (upd H5 D (.lst (ys++[v])))
   else H4 D=some (.lst ys)∧∃ m',m'<m∧W D (i+1) m' ys σ3 H4)
theorem a8i {X:Cx} (XE:Addr→Shared→Hp→List Addr→Value→Shared→Prop) {elt iter tg:Expr} {ifs:List Expr} {scope:Scope} {pos:Pos} {N':List Str} {cap:List (Option Nat)} {pins:List (Addr×Obj)} {σ:St} {H:Hp} {s:Shared} {J:It} {it:Addr} {fp:List Addr} {tn:Nat→Heap→Prop}
  {g:TG} {tc:TT} {te:TE} {Q:VK} {RR:Value→Addr→Result→Shared→Prop} (hc:X.calm=true) (B:Blk X scope N' cap) (I:Inv X pins σ H s) (T:Turn X.prog X.w X.K tg J fp it tn) (st:tn 0 s.heap) (hf:∀ b∈fp,sP X pins H b)
  (hg:∀ C s₃ H₃ fp,PG (cF X scope N' C s₃ H₃ fp) tg g) (ht:∀ C s₃ H₃ fp,PTs (cF X scope N' C s₃ H₃ fp) ifs tc) (he:∀ C s₃ H₃ fp,PE ((cF X scope N' C s₃ H₃ fp).wish (XE C s₃ H₃ fp)) elt te)
  (w:wG J g tc te (fM cap σ) H Q)
  (hx:∀ D s₃ H₃ e s',Inv X pins σ H₃ s₃→(∀ b∈fp,sP X pins H₃ b)→H D=none→H₃=upd H D (.lst [])→s.heap.objs.size≤s₃.heap.objs.size→XE s₃.heap.objs.size s₃ H₃ fp e s' →
   notedBy (model X.prog X.w) X.A (compEnvC scope (cellsFrom (s₃.heap.objs.size+1) scope.names (uK scope X.env)) s₃.heap.objs.size X.env) (fun x s'=>RR (.ref D) s₃.heap.objs.size (.error x) s') e s')
  (fin:∀ D C s' H' m',s.heap.get? C=none→s.heap.objs.size≤C→s'.heap.Ns C m'→H' C=none→Inv X pins σ H' s'→Q (.ref D) H'→RR (.ref D) C (.ok .next) s') :
  wpAny (model X.prog X.w) X.A (newList []) (fun acc s₃=>wpAny (model X.prog X.w) X.A (newFunctionEnv scope X.env.globals (uK scope X.env) [] X.env.qual none .none (some X.env)) (fun cenv s₄=>
   cenv.frame=X.env.frame∧codeAny (model X.prog X.w) X.A (.compStart (.ListComp elt [⟨tg,iter,ifs,0⟩] scope pos) 0 (.ref it) acc { cenv with scope:=relabel scope X.env }) (RR acc cenv.locals) s₄) X.xe s₃) X.xe s:=by
 refine wpAny_newObj_type (b3A ?_)
 dsimp only
 obtain ⟨W,hW⟩:=w
 have hD:H s.heap.objs.size=none:=I.hok.fresh (qN _)
 obtain ⟨⟨m0,w0⟩,turn⟩:=hW s.heap.objs.size hD
 have I3:Inv X pins σ (upd H s.heap.objs.size (.lst [])) { s with heap:=s.heap.push { cls:=.type "list", data:=.seq ([]:List Value).toArray } }:=I.lnew (its:=[]) (ys:=[]) (t':=s.toks) .nil (jn _)
 generalize hH2:s.heap.push { cls:=.type "list", dict:=none,data:=.seq ([]:List Value).toArray }=H2 at I3 ⊢
 have hC:H2.objs.size=s.heap.objs.size+1:=by rw [←hH2,qz]
 have lt3:∀ b∈fp,b<s.heap.objs.size:=fun b hb=>by
  obtain ⟨o,e,_⟩:=T.obj 0 _ st b hb
  exact qH e
 have hf3:∀ b∈fp,sP X pins (upd H s.heap.objs.size (.lst [])) b:=fun b hb=>by
  refine ⟨?_,(hf b hb).2⟩
  rw [aH (qW (lt3 b hb))]
  exact (hf b hb).1
 have ow:CellsOk (pushCells (H2.push { cls:=.type "dict", data:=.dict #[] }) scope.names) (H2.objs.size+1) (cellsFrom (H2.objs.size+1) scope.names []):=by
  have ok:=cellsFrom_ok scope.names (H2.push { cls:=.type "dict", data:=.dict #[] }) (H2.objs.size+1) [] ⟨fun _ _ hm=>(nomatch hm),List.Pairwise.nil⟩ (by rw [qz];exact qN _)
  rw [qz] at ok
  exact ok
 have hns₁:(pushCells (H2.push { cls:=.type "dict", data:=.dict #[] }) scope.names).Ns H2.objs.size fun _=>none:=(Heap.Ns.new H2 (.type "dict")).keeps (pushCells_keeps _ _)
 have keep:∀ b o,H2.get? b=some o→(pushCells (H2.push { cls:=.type "dict", data:=.dict #[] }) scope.names).get? b=some o:=fun b o e=>pushCells_keeps _ _ b o (qC _ e)
 generalize pushCells (H2.push { cls:=.type "dict", data:=.dict #[] }) scope.names=h₁ at ow hns₁ keep ⊢
 have I4:Inv (cF X scope N' H2.objs.size { s with heap:=H2 } (upd H s.heap.objs.size (.lst [])) fp) [] (fM cap σ) (upd H s.heap.objs.size (.lst [])) { s with heap:=h₁ }:=
  b3z (s:={ s with heap:=H2 }) B I3 hf3 (fun b hb=>by show b<H2.objs.size;rw [hC];exact jZ (lt3 b hb)) hns₁ keep ow
 have st4:tn 0 h₁:=T.keep 0 _ _ st fun b hb o e=>keep b o (by rw [←hH2];exact qC _ e)
 have loop:∀ s₅:Shared,s₅={ s with heap:=h₁ } →
   codeAny (model X.prog X.w) X.A (.compLoop (.ListComp elt [⟨tg,iter,ifs,0⟩] scope pos) 0 (.ref it) (.ref s.heap.objs.size) (compEnvC scope (cellsFrom (H2.objs.size+1) scope.names (uK scope X.env)) H2.objs.size X.env))
    (RR (.ref s.heap.objs.size) H2.objs.size) s₅:=by
  rintro s₅ rfl
  refine codeAny_loop rfl (fun n s'=>∃ i ys σ' H',Inv (cF X scope N' H2.objs.size { s with heap:=H2 } (upd H s.heap.objs.size (.lst [])) fp) [] σ' H' s'∧tn i s'.heap∧(∀ b∈fp,H' b=none)∧H' s.heap.objs.size=some (.lst ys)∧W s.heap.objs.size i n ys σ' H') ?_ m0
   ⟨0,[],_,_,I4,st4,fun b hb=>(hf3 b hb).1,aL,w0⟩
  rintro n s6 ⟨i,ys,σ6,H6,I6,st6,fr6,hD6,w6⟩
  show wpAny _ X.A ((compTurn (.ListComp elt [⟨tg,iter,ifs,0⟩] scope pos) 0 (.ref it) (.ref s.heap.objs.size) (compEnvC scope (cellsFrom (H2.objs.size+1) scope.names (uK scope X.env)) H2.objs.size X.env)).onRaise (fun x=>do noteFrame x (compEnvC scope (cellsFrom (H2.objs.size+1) scope.names (uK scope X.env)) H2.objs.size X.env);theTreesLotGoes x)) _ _ s6
  refine wpAny_noted ?_
  rw [compTurn_list]
  have stat:∀ {H':Hp},(∀ b∈fp,H' b=none)→∀ b∈fp,sP (cF X scope N' H2.objs.size { s with heap:=H2 } (upd H s.heap.objs.size (.lst [])) fp) [] H' b:=fun hn b hb=>
   ⟨hn b hb,qW (by show b<H2.objs.size;rw [hC];exact jZ (lt3 b hb)),I4.ok.exfs b hb,.inl hb,fun x c e=>(I4.ok.exf b hb).2 x c e,fun p hp=>absurd (show p∈([]:List (Addr×Obj)) from hp) (by simp)⟩
  rcases turn i n ys σ6 H6 w6 hD6 with ⟨stop,qn⟩ | ⟨go,step⟩
  ·refine wpAny_bind (wpAny_standAt (wpAny_bind (thn (T.done (cF X scope N' H2.objs.size { s with heap:=H2 } (upd H s.heap.objs.size (.lst [])) fp) rfl rfl rfl hc i [] s6 _ H6 _ I6 (stat fr6) st6 stop) fun r s7 ⟨hr,I7⟩=>?_)))
   subst hr
   refine wpAny_pure ?_
   obtain ⟨m7,hn7,_⟩:=I7.loc
   refine fin _ _ s7 H6 m7 ?_ ?_ hn7 I7.free ?_ qn
   ·exact zc (by rw [hC];exact kB _)
   ·rw [hC];exact kB _
   ·refine I3.call' (ch:=fp) ?_ ?_ I7.hok I7.bare fun b hb=>?_
    ·exact I7.os
    ·exact I7.base
    ·obtain ⟨f0,f1,f2,f3,f4,f5⟩:=hf3 b hb
     exact ⟨f3,f1,f4,f5⟩
  ·refine wpAny_bind (wpAny_standAt (wpAny_bind (thn (T.item (cF X scope N' H2.objs.size { s with heap:=H2 } (upd H s.heap.objs.size (.lst [])) fp) rfl rfl rfl hc i [] s6 _ H6 _ I6 (stat fr6) st6 go) fun r s7 ⟨u,hr,h7⟩=>?_)))
   subst hr
   refine wpAny_bind (thn h7 fun _ s8 ⟨x,H8,I8,r8,y8,st8,fr8⟩=>?_)
   have I8':=I8.pinned (stat fr8) (T.obj _ _ st8)
   have bad:∀ {α:Type} {t:Sem α} {Q':α→Shared→Prop} {s':Shared} {E:Value→Shared→Prop},wpAny (model X.prog X.w) X.A t Q' (fun _ _=>False) s'→wpAny (model X.prog X.w) X.A t Q' E s':=fun h=>wpAny_mono h (fun _ _ q=>q) fun _ _ z=>z.elim
   refine wpAny_bind (bad (thn (hg _ _ _ _ _ s8 _ H8 x u _ I8' r8 (step x H8 y8)) fun _ s9 ⟨σ9,H9,I9,q9⟩=>?_))
   refine wpAny_bind (bad (thn (ht _ _ _ _ _ s9 σ9 H9 _ I9 q9) fun ok s10 ⟨H10,I10,q10⟩=>?_))
   have again:∀ {σ':St} {H':Hp} {ys':List V} {s':Shared} {m':Nat},Inv (cF X scope N' H2.objs.size { s with heap:=H2 } (upd H s.heap.objs.size (.lst [])) fp) ([]++xP fp s8.heap) σ' H' s'→H' s.heap.objs.size=some (.lst ys') →
     m'<n→W s.heap.objs.size (i+1) m' ys' σ' H' →
     ∃ m,m<n∧∃ i ys σ' H',Inv (cF X scope N' H2.objs.size { s with heap:=H2 } (upd H s.heap.objs.size (.lst [])) fp) [] σ' H' s'∧tn i s'.heap∧(∀ b∈fp,H' b=none)∧H' s.heap.objs.size=some (.lst ys)∧W s.heap.objs.size i m ys σ' H':=fun {σ' H' ys' s' m'} J' hD' hm' w'=>by
    refine ⟨m',hm',i+1,ys',σ',H',J'.unpinned,T.keep _ _ _ st8 fun b hb o e=>(J'.pin (b,o) (qm _ (qm _ (mJ hb e)))).1,fun b hb=>?_,hD',w'⟩
    obtain ⟨o,e,d⟩:=T.obj _ _ st8 b hb
    exact (J'.pin (b,o) (qm _ (qm _ (mJ hb e)))).2.1
   cases ok with
   | false=>
    obtain ⟨hD10,m',hm',w'⟩:=q10
    exact wpAny_pure ⟨rfl,again I10 hD10 hm' w'⟩
   | true=>
    refine wpAny_bind (wpAny_bind (wpAny_mono (he _ _ _ _ _ s10 σ9 H10 _ (I10.wish _) q10) (fun y s11 ⟨v,H11,I11w,r11,hD11,hlen,m',hm',w'⟩=>?_) fun e s' z=>hx _ { s with heap:=H2 } _ e s' I3 hf3 hD rfl (by show s.heap.objs.size≤H2.objs.size;rw [hC];exact kB _) z))
    have I11:=I11w.unwish
    refine wpAny_bind (bad <| thn (a1d (X:=cF X scope N' H2.objs.size { s with heap:=H2 } (upd H s.heap.objs.size (.lst [])) fp) _ s11 σ9 H11 (.ref s.heap.objs.size) [v] (.ref s.heap.objs.size) [y] (fun _ H'=>H'=upd H11 s.heap.objs.size (.lst (ys++[v]))) I11 rfl (.cons r11 .nil) ⟨_,_,_,rfl,rfl,hD11,hlen,rfl⟩) fun _ s12 ⟨_,H12,I12,_,e12⟩=>?_)
    subst e12
    exact wpAny_pure (wpAny_pure ⟨rfl,again I12 aL hm' w'⟩)
 exact ⟨rfl,codeAny_compStart_list (loop _ rfl) (T.self _ 0 _ _ _ st4 (loop _ rfl))⟩
theorem a3X {X:Cx} {elt iter tg:Expr} {ifs:List Expr} {scope:Scope} {pos:Pos} {N':List Str} {cap:List (Option Nat)} {pins:List (Addr×Obj)} {σ:St} {H:Hp} {s:Shared} {J:It} {it:Addr} {fp:List Addr} {tn:Nat→Heap→Prop}
  {g:TG} {tc:TT} {te:TE} {Q:VK} {RR:Value→Addr→Result→Shared→Prop} (hc:X.calm=true) (B:Blk X scope N' cap) (I:Inv X pins σ H s) (T:Turn X.prog X.w X.K tg J fp it tn) (st:tn 0 s.heap) (hf:∀ b∈fp,sP X pins H b)
  (hg:∀ C s₃ H₃ fp,PG (cF X scope N' C s₃ H₃ fp) tg g) (ht:∀ C s₃ H₃ fp,PTs (cF X scope N' C s₃ H₃ fp) ifs tc) (he:∀ C s₃ H₃ fp,PE (cF X scope N' C s₃ H₃ fp) elt te)
  (w:wG J g tc te (fM cap σ) H Q)
  (fin:∀ D C s' H' m',s.heap.get? C=none→s.heap.objs.size≤C→s'.heap.Ns C m'→H' C=none→Inv X pins σ H' s'→Q (.ref D) H'→RR (.ref D) C (.ok .next) s') :
  wpAny (model X.prog X.w) X.A (newList []) (fun acc s₃=>wpAny (model X.prog X.w) X.A (newFunctionEnv scope X.env.globals (uK scope X.env) [] X.env.qual none .none (some X.env)) (fun cenv s₄=>
   codeAny (model X.prog X.w) X.A (.compStart (.ListComp elt [⟨tg,iter,ifs,0⟩] scope pos) 0 (.ref it) acc { cenv with scope:=relabel scope X.env }) (RR acc cenv.locals) s₄) X.xe s₃) X.xe s:=
 wpAny_mono (a8i (fun _ _ _ _ _ _=>False) hc B I T st hf hg ht he w (fun _ _ _ _ _ _ _ _ _ _ z=>z.elim) fin) (fun _ _ h=>wpAny_mono h (fun _ _ z=>z.2) fun _ _ z=>z) fun _ _ z=>z
def b3H (wi:TI) (cap:List (Option Nat)) (g:TG) (tc:TT) (te:TE):TE:=fun σ H Q=>wi σ H fun J H1=>wG J g tc te (fM cap σ) H1 Q
section
variable {X:Cx} {elt iter tg:Expr} {ifs:List Expr} {scope:Scope} {pos spos:Pos} {N':List Str} {cap:List (Option Nat)} {wi:TI} {g:TG} {tc:TT} {te:TE}
theorem a6d (hc:X.calm=true) (B:Blk X scope N' cap) (hi:PI X tg iter wi)
  (hg:∀ C s₃ H₃ fp,PG (cF X scope N' C s₃ H₃ fp) tg g) (ht:∀ C s₃ H₃ fp,PTs (cF X scope N' C s₃ H₃ fp) ifs tc) (he:∀ C s₃ H₃ fp,PE (cF X scope N' C s₃ H₃ fp) elt te)
  (hs:∀ x,foldedSetIterable iter X.env x=pure x:=by intro _;rfl):PE X (.ListComp elt [⟨tg,iter,ifs,0⟩] scope pos) (b3H wi cap g tc te):=by
 intro pins s σ H Q I h
 rw [eval_ListComp]
 refine wpAny_comprehension_free (use:=none) rfl hs (mO fun p hp hk=>I.ok.has p.1 (.inl (B.free p hp hk))) B.kind B.names ?_
 refine thn (hi pins s σ H _ I h) fun v s1 h1=>thn h1 fun itv s2 ⟨it,fp,tn,J,H2,e,I2,T,st2,f2,w⟩=>?_
 subst e
 refine a3X (RR:=fun acc C=>compPost (model X.prog X.w) X.A X.xe none (EP X pins σ Q) acc C) hc B I2 T st2 f2 hg ht he w ?_
 intro D C s' H' m' hC hCs hn hCf I' q
 refine ⟨m',hn,fun h'' hs''=>⟨.ref D,H',?_,rfl,q⟩⟩
 refine I'.turned (t':=s'.toks) (it:=C) (fun b o hb e=>hs''.extBut b o hb e) hCf ?_ (.inr (ql I2.sz hCs)) ?_ ?_
 ·exact jK (qR I2.lt hCs)
 ·intro x c e z
  obtain ⟨v,q⟩:=I2.cell x c e
  exact absurd (qR q.lt (by rw [z];exact hCs)) (jU _)
 ·intro p hp z
  exact absurd (qR (qH (I2.pin p hp).1) (by rw [z];exact hCs)) (jU _)
theorem a6a {i:Nat} {x:Str} {pos':Pos} (hN:X.N.Nodup) (hxi:X.N[i]?=some x) (hx:X.env.scope.names.lookup x=some .local) (hc:X.calm=true) (B:Blk X scope N' cap) (hi:PI X tg iter wi)
  (hg:∀ C s₃ H₃ fp,PG (cF X scope N' C s₃ H₃ fp) tg g) (ht:∀ C s₃ H₃ fp,PTs (cF X scope N' C s₃ H₃ fp) ifs tc) (he:∀ C s₃ H₃ fp,PE (cF X scope N' C s₃ H₃ fp) elt te)
  (hsw:swapsWith (.ListComp elt [⟨tg,iter,ifs,0⟩] scope pos) (some (.Name x pos')) spos.line X.env=pure true)
  (hs:∀ x,foldedSetIterable iter X.env x=pure x:=by intro _;rfl) :
  PS X (.Assign [.Name x pos'] (.ListComp elt [⟨tg,iter,ifs,0⟩] scope pos) spos) (b4r (b3H wi cap g tc te) (b0H i)):=by
 intro pins s σ H Dn I h
 rw [exec_Assign_Name_used _ _ _ _ hsw]
 refine wpAny_bind (wpAny_standAt (wpAny_bind ?_))
 show wpAny _ X.A (do let _ ←comprehension (.ListComp elt [⟨tg,iter,ifs,0⟩] scope pos) scope X.env _ (newList []) false (eval iter X.env) (some (assign (.Name x pos') X.env))) _ _ s
 refine wpAny_bind (wpAny_mono (wpAny_comprehension_free (use:=some (assign (.Name x pos') X.env)) (Q:=fun _ s'=>SP X pins Dn .next s') rfl hs (mO fun p hp hk=>I.ok.has p.1 (.inl (B.free p hp hk))) B.kind B.names ?_) (fun _ s' hq=>wpAny_pure (wpAny_pure hq)) fun _ _ e=>e)
 refine thn (hi pins s σ H _ I h) fun v s1 h1=>thn h1 fun itv s2 ⟨it,fp,tn,J,H2,e,I2,T,st2,f2,w⟩=>?_
 subst e
 refine a3X (RR:=fun acc C=>compPost (model X.prog X.w) X.A X.xe (some (assign (.Name x pos') X.env)) (fun _ s'=>SP X pins Dn .next s') acc C) hc B I2 T st2 f2 hg ht he w ?_
 intro D C s' H' m' hC hCs hn hCf I' q
 have nL:C≠X.env.locals:=jK (qR I2.lt hCs)
 have nC:∀ y c,X.env.cells.lookup y=some c→c≠C:=fun y c e z=>by
  obtain ⟨v,q⟩:=I2.cell y c e
  exact absurd (qR q.lt (by rw [z];exact hCs)) (jU _)
 show wpAny _ X.A (assign (.Name x pos') X.env (.ref D)) _ _ _
 refine wpAny_assign_Name (a0J (v:=.ref D) I' hN hxi (.inl hx) rfl (fun s3 I3 ⟨a,hsb,ha⟩=>?_) (.inr hx))
 have ne:C≠a:=by
  rcases ha with z | z
  ·rw [z];exact nL
  ·exact fun y=>nC x a z y.symm
 refine ⟨m',hn.sameBut hsb ne,fun h'' hs''=>⟨_,H',?_,q⟩⟩
 refine I3.turned (t':=s3.toks) (it:=C) (fun b o hb e=>hs''.extBut b o hb e) hCf nL (.inr (ql I2.sz hCs)) nC ?_
 intro p hp z
 exact absurd (qR (qH (I2.pin p hp).1) (by rw [z];exact hCs)) (jU _)
end
end L2
namespace L2.L3
open PySem PySem.Spec PyProof.Rows PySem.W
def fR (K:Frag) (c:Str):Option Addr:=match nsIn K mainGlobals c with
 | some (some (.ref C))=>some C
 | _=>none
theorem a2w {K:Frag} {c:Str} {C:Addr} (h:fR K c=some C):nsIn K mainGlobals c=some (some (.ref C)):=by
 unfold fR at h
 split at h
 ·rename_i e;cases h;exact e
 ·cases h
structure ExO (h:Heap) (a C:Addr) (ox:Obj):Prop where
 at_:h.get? a=some ox
 cls:ox.cls=.ref C
theorem ExO.type {h:Heap} {a C:Addr} {ox:Obj} {M:Model} (I:ExO h a C ox):Looks M h (typeOf (.ref a)) (.ref C):=I.cls▸(Looks.ld I.at_).andThen .now
end L2.L3
namespace L2.L3
open PySem PySem.Spec PyProof.Rows
def dB:Key→PyData
 | .inl i=>.int i
 | .inr x=>.str x
mutual
inductive Rep (K:qB) (G:Hp):V→PyData→Prop
 | none:Rep K G .non .none
 | bool (b:Bool):Rep K G (.bl b) (.bool b)
 | int (i:Int):Rep K G (.int i) (.int i)
 | str (x:Str):Rep K G (.str x) (.str x)
 | list {a:Addr} {xs:List V} {ds:List PyData}:SqL K G a xs→RepAll K G xs ds→Rep K G (.ref a) (.list ds)
 | tuple {a:Addr} {xs:List V} {ds:List PyData}:SqT K G a xs→RepAll K G xs ds→Rep K G (.ref a) (.tuple ds)
 | dict {a:Addr} {kvs:List (Key×V)} {D:List (PyData×PyData)}:G a=some (.dK kvs)→D.map (·.1)=kvs.map (fun p=>dB p.1)→RepAll K G (kvs.map (·.2)) (D.map (·.2))→Rep K G (.ref a) (.dict D)
inductive RepAll (K:qB) (G:Hp):List V→List PyData→Prop
 | nil:RepAll K G [] []
 | cons {v:V} {vs:List V} {d:PyData} {ds:List PyData}:Rep K G v d→RepAll K G vs ds→RepAll K G (v::vs) (d::ds)
end
theorem gM {K:qB} {H H':Hp} {a:Addr} {xs:List V} (e:bH H H') (h:SqT K H a xs):SqT K H' a xs:=by
 rcases h with (h | ⟨o,h⟩) | h
 ·exact .inl (.inl (e _ _ h))
 ·exact .inl (.inr ⟨o,e _ _ h⟩)
 ·exact .inr h
section
variable {K:qB} {G G':Hp}
mutual
theorem Rep.mono (s:bH G G'):∀ {v:V} {d:PyData},Rep K G v d→Rep K G' v d
 | _,_,.none=>.none
 | _,_,.bool b=>.bool b
 | _,_,.int i=>.int i
 | _,_,.str x=>.str x
 | _,_,.list h r=>.list (s.seq h) (RepAll.mono s r)
 | _,_,.tuple h r=>.tuple (gM s h) (RepAll.mono s r)
 | _,_,.dict h e r=>.dict (s _ _ h) e (RepAll.mono s r)
theorem RepAll.mono (s:bH G G'):∀ {vs:List V} {ds:List PyData},RepAll K G vs ds→RepAll K G' vs ds
 | _,_,.nil=>.nil
 | _,_,.cons r t=>.cons (Rep.mono s r) (RepAll.mono s t)
end
theorem RepAll.length:∀ {vs:List V} {ds:List PyData},RepAll K G vs ds→vs.length=ds.length
 | _,_,.nil=>rfl
 | _,_,.cons _ t=>by simp [RepAll.length t]
theorem RepAll.get:∀ {vs:List V} {ds:List PyData} {i:Nat} {d:PyData},RepAll K G vs ds→ds[i]?=some d→∃ v,vs[i]?=some v∧Rep K G v d
 | _,_,_,_,.nil,e=>by simp at e
 | _,_,0,_,.cons r _,e=>by simp at e;subst e;exact ⟨_,rfl,r⟩
 | _,_,i+1,d,.cons _ t,e=>by
  obtain ⟨u,h1,h2⟩:=RepAll.get (i:=i) (d:=d) t (by simpa using e)
  exact ⟨u,by simpa using h1,h2⟩
theorem RepAll.append:∀ {vs ws:List V} {ds es:List PyData},RepAll K G vs ds→RepAll K G ws es→RepAll K G (vs++ws) (ds++es)
 | _,_,_,_,.nil,h=>h
 | _,_,_,_,.cons r t,h=>.cons r (RepAll.append t h)
theorem RepAll.set {v:V} {d:PyData} (r:Rep K G v d):∀ {vs:List V} {ds:List PyData} (i:Nat),RepAll K G vs ds→RepAll K G (vs.set i v) (ds.set i d)
 | _,_,_,.nil=>.nil
 | _,_,0,.cons _ t=>.cons r t
 | _,_,i+1,.cons q t=>.cons q (RepAll.set r i t)
theorem RepAll.take:∀ {vs:List V} {ds:List PyData} (n:Nat),RepAll K G vs ds→RepAll K G (vs.take n) (ds.take n)
 | _,_,0,_=>.nil
 | _,_,_+1,.nil=>.nil
 | _,_,n+1,.cons r t=>.cons r (RepAll.take n t)
theorem RepAll.drop:∀ {vs:List V} {ds:List PyData} (n:Nat),RepAll K G vs ds→RepAll K G (vs.drop n) (ds.drop n)
 | _,_,0,r=>r
 | _,_,_+1,.nil=>.nil
 | _,_,n+1,.cons _ t=>RepAll.drop n t
theorem RepAll.ints:∀ {vs:List V} {ns:List Int},RepAll K G vs (ns.map .int)→vs=ns.map V.int
 | [],[],_=>rfl
 | _,[],.nil=>rfl
 | _,n::r,.cons (.int _) t=>by rw [RepAll.ints (ns:=r) t];rfl
theorem RepAll.strs:∀ {vs:List V} {ns:List Str},RepAll K G vs (ns.map .str)→vs=ns.map V.str
 | [],[],_=>rfl
 | _,[],.nil=>rfl
 | _,n::r,.cons (.str _) t=>by rw [RepAll.strs (ns:=r) t];rfl
theorem RepAll.bools:∀ {vs:List V} {ns:List Bool},RepAll K G vs (ns.map .bool)→vs=ns.map V.bl
 | [],[],_=>rfl
 | _,[],.nil=>rfl
 | _,n::r,.cons (.bool _) t=>by rw [RepAll.bools (ns:=r) t];rfl
end
section
variable {P:Program} {w:World}
theorem rV:∀ {kvs:List (Key×V)} {vs:List (Key×Value)},KV kvs vs→kvs.map (·.1)=vs.map (·.1)∧aX (kvs.map (·.2)) (vs.map (·.2))
 | _,_,.nil=>⟨rfl,.nil⟩
 | _,_,.cons h t=>by
  obtain ⟨a,b⟩:=rV t
  exact ⟨by rw [qG,qG,a,h.1],.cons h.2 b⟩
theorem uR {h:Heap}:∀ {es:List DictEntry} {vs:List (Key×Value)},Pairs (bF P w) es vs→(∃ as,ReadsAll h (es.map (·.key)) (vs.map fun p=>dB p.1) as)∧es.map (·.val)=vs.map (·.2)
 | _,_,.nil=>⟨⟨_,.nil⟩,rfl⟩
 | e::es,kv::vs,.cons hk hv t=>by
  obtain ⟨⟨as,a⟩,b⟩:=uR (h:=h) t
  refine ⟨?_,by rw [qG,qG,b,hv]⟩
  rcases bW (show uW kv.1 e.key=true from hk) with ⟨i,t,e1,e2⟩ | ⟨x,t,e1,e2⟩
  ·refine ⟨_,.cons (as:=[]) (by dsimp only;rw [e1,e2];exact .int i t) a⟩
  ·refine ⟨_,.cons (as:=[]) (by dsimp only;rw [e1,e2];exact .str x t) a⟩
end
section
variable {X:Cx} {pins:List (Addr×Obj)} {σ:St} {H:Hp} {s:Shared}
mutual
theorem Rep.reads (I:Inv X pins σ H s):∀ {v:V} {d:PyData} {u:Value},Rep X.K H v d→RelV v u→∃ as,Reads s.heap u d as
 | _,_,_,.none,r=>by cases r;exact ⟨_,.none⟩
 | _,_,_,.bool b,r=>by cases r;exact ⟨_,.bool b⟩
 | _,_,_,.int i,r=>by obtain ⟨t,rfl⟩:=r;exact ⟨_,.int i t⟩
 | _,_,_,.str x,r=>by obtain ⟨t,rfl⟩:=r;exact ⟨_,.str x t⟩
 | _,_,_,.list h q,r=>by
  cases r
  obtain ⟨its,rv,⟨o,n,e,hc,_,hd⟩,_⟩:=I.list h
  obtain ⟨as,z⟩:=RepAll.reads I q rv
  exact ⟨_,.list e hc hd (by simpa using z)⟩
 | _,_,_,.tuple h q,r=>by
  cases r
  obtain ⟨its,rv,⟨o,e,hc,n,hd⟩,_⟩:=I.tuple h
  obtain ⟨as,z⟩:=RepAll.reads I q rv
  exact ⟨_,.tuple e hc hd (by simpa using z)⟩
 | _,_,_,.dict h e0 q,r=>by
  cases r
  obtain ⟨hz,hS,vs,kv,o,es,ep,e,hex,hd,_,hp,_⟩:=I.hok _ _ h
  obtain ⟨a1,a2⟩:=rV kv
  obtain ⟨⟨as,b1⟩,b2⟩:=uR (h:=s.heap) hp
  obtain ⟨bs,z⟩:=RepAll.reads I q a2
  refine ⟨_,.dict e hex.1 hd (as:=as) (bs:=bs) ?_ (by rw [b2];exact z)⟩
  rw [e0,show (fun p:Key×V=>dB p.1)=dB∘(·.1) from rfl,←qV,a1,qV];exact b1
theorem RepAll.reads (I:Inv X pins σ H s):∀ {vs:List V} {ds:List PyData} {us:List Value},RepAll X.K H vs ds→aX vs us→∃ as,ReadsAll s.heap us ds as
 | _,_,_,.nil,.nil=>⟨_,.nil⟩
 | _,_,_,.cons r t,.cons q w=>by
  obtain ⟨as,a⟩:=Rep.reads I r q
  obtain ⟨bs,b⟩:=RepAll.reads I t w
  exact ⟨_,.cons a b⟩
end
end
def gD:List Str:=["in_ending_order", "in_laying_order", "law", "_law_did", "by_heads", "best_choice"]
def lamQ (x:Str):Str:=x ++ ".<locals>." ++ "<lambda>"
def cdO (c:Addr) (q:Str):HO:=.ext fun h=>h.CodeRec (.ref c) q
def Tab (P:Addr) (q:Str) (H:Hp):Prop:=
 ∃ ps,H P=some (.tbl (q,ps))∧TriplesOk ps.toList∧∀ pos cv,codeAmong pos ps.toList=some cv→∃ c,cv=.ref c∧H c=some (cdO c q)
def NoT (G:Hp):Prop:=∀ b ps,G b≠some (.tbl ps)
def lN (K:qB) (G H:Hp):Prop:=(∀ x∈gD,∀ c P,jq K x=some (c,P)→Tab P (lamQ x) H)∧NoT G
theorem NoT.upd {G:Hp} {a:Addr} {o:HO} (n:NoT G) (h:∀ ps,o≠.tbl ps):NoT (L2.upd G a o):=fun b ps e=>by
 by_cases hb:b=a
 ·subst hb;rw [aL] at e;cases e;exact h _ rfl
 ·rw [aH hb] at e;exact n b ps e
theorem Tab.same {P:Addr} {q:Str} {H H':Hp} (t:Tab P q H) (s:bH H H'):Tab P q H':=by
 obtain ⟨ps,h1,h2,h3⟩:=t
 refine ⟨ps,s _ _ h1,h2,fun pos cv e=>?_⟩
 obtain ⟨c,e1,e2⟩:=h3 pos cv e
 exact ⟨c,e1,s _ _ e2⟩
theorem Tab.wr {P a:Addr} {q:Str} {H:Hp} {xs:List V} {o:HO} (t:Tab P q H) (h:H a=some (.lst xs)):Tab P q (upd H a o):=by
 obtain ⟨ps,h1,h2,h3⟩:=t
 refine ⟨ps,by rw [aH (eV h1 h (by nofun))];exact h1,h2,fun pos cv e=>?_⟩
 obtain ⟨c,e1,e2⟩:=h3 pos cv e
 exact ⟨c,e1,by rw [aH (eV e2 h (by unfold cdO;nofun))];exact e2⟩
structure Sm (H H':Hp):Prop where
 keep:∀ b o,H b=some o→(∀ ps,o≠.tbl ps)→H' b=some o
 tbl:∀ b ps,H b=some (.tbl ps)→∃ ps',H' b=some (.tbl ps')
 tab:∀ P q,Tab P q H→Tab P q H'
theorem Sm.of {H H':Hp} (s:bH H H'):Sm H H':=⟨fun b o h _=>s b o h,fun b ps h=>⟨ps,s _ _ h⟩,fun P q t=>t.same s⟩
theorem Sm.refl (H:Hp):Sm H H:=.of (.refl _)
theorem Sm.trans {H H1 H2:Hp} (a:Sm H H1) (b:Sm H1 H2):Sm H H2:=⟨fun c o h n=>b.keep c o (a.keep c o h n) n,fun c ps h=>by
 obtain ⟨p1,h1⟩:=a.tbl c ps h
 exact b.tbl c p1 h1,fun P q t=>b.tab P q (a.tab P q t)⟩
theorem Sm.ne {H H':Hp} (s:Sm H H') {b:Addr} {o:HO} (h:H b=some o):∃ o',H' b=some o':=by
 cases o with
 | tbl ps=>obtain ⟨p,e⟩:=s.tbl b ps h;exact ⟨_,e⟩
 | _=>exact ⟨_,s.keep b _ h (by nofun)⟩
theorem Sm.free {H H':Hp} (s:Sm H H') {l:Addr} (h:H' l=none):H l=none:=by
 cases q:H l with
 | none=>rfl
 | some o=>
  obtain ⟨o',e⟩:=s.ne q
  rw [h] at e;cases e
theorem Sm.lst {H H':Hp} (s:Sm H H') {l:Addr} {xs:List V} (h:H l=some (.lst xs)):H' l=some (.lst xs):=s.keep l _ h (by nofun)
theorem Sm.wr {H H':Hp} (s:Sm H H') {l:Addr} {xs:List V} {o:HO} (h0:H l=none) (h:H' l=some (.lst xs)):Sm H (upd H' l o):=
 ⟨fun b u e n=>by rw [aH (aW e h0)];exact s.keep b u e n,fun b ps e=>by rw [aH (aW e h0)];exact s.tbl b ps e,fun P q t=>(s.tab P q t).wr h⟩
theorem lN.wr {K:qB} {G H:Hp} {a:Addr} {xs:List V} {o:HO} (t:lN K G H) (h:H a=some (.lst xs)):lN K G (upd H a o):=⟨fun x hx c P e=>(t.1 x hx c P e).wr h,t.2⟩
structure Grow (G H G' H':Hp):Prop where
 gg:bH G G'
 hh:Sm H H'
 sub:bH G' H'
 new:∀ a,G a=none→H a≠none→G' a=none
 nt:NoT G→NoT G'
theorem lN.more {K:qB} {G H G' H':Hp} (t:lN K G H) (g:Grow G H G' H'):lN K G' H':=⟨fun x hx c P e=>g.hh.tab _ _ (t.1 x hx c P e),g.nt t.2⟩
theorem Grow.refl {G H:Hp} (s:bH G H):Grow G H G H:=⟨.refl _,.refl _,s,fun _ e _=>e,id⟩
theorem Grow.trans {G H G1 H1 G2 H2:Hp} (a:Grow G H G1 H1) (b:Grow G1 H1 G2 H2):Grow G H G2 H2:=
 ⟨a.gg.trans b.gg,a.hh.trans b.hh,b.sub,fun c e n=>b.new c (a.new c e n) (fun z=>by
  cases q:H c with
  | none=>exact n q
  | some o=>obtain ⟨o',e'⟩:=a.hh.ne q;rw [e'] at z;cases z),fun n=>b.nt (a.nt n)⟩
theorem bJ {H:Hp} {p:Addr} {o:HO} (h:H p=none):bH H (upd H p o):=fun b u e=>by rw [aH (aW e h)];exact e
theorem a7x {G H:Hp} {p:Addr} {o:HO} (s:bH G H):bH (upd G p o) (upd H p o):=fun b u e=>by
 by_cases hb:b=p
 ·subst hb;rw [aL] at e ⊢;exact e
 ·rw [aH hb] at e ⊢;exact s b u e
theorem Grow.put {G H:Hp} {p:Addr} {o:HO} (s:bH G H) (h:H p=none) (ho:∀ ps,o≠.tbl ps:=by nofun):Grow G H (upd G p o) (upd H p o):=
 ⟨bJ (s.free h),.of (bJ h),a7x s,fun a e n=>by rw [aH (fun z=>n (by rw [z];exact h))];exact e,fun n=>n.upd ho⟩
theorem Grow.side {G H:Hp} {p:Addr} {o:HO} (s:bH G H) (h:H p=none):Grow G H G (upd H p o):=
 ⟨.refl _,.of (bJ h),s.trans (bJ h),fun a e _=>e,id⟩
inductive Ent where
 | no
 | val (d:PyData)
 | lst (ds:List PyData)
 | exc (c:Str)
 | nst (dss:List (List PyData))
 | dct (kvs:List (Key×PyData))
def xcO (a C:Addr):HO:=.ext fun h=>∃ ox,ExO h a C ox
def b8J (K:qB) (H0 G H:Hp) (b:Addr) (ds:List PyData):Prop:=∃ xs,H b=some (.lst xs)∧G b=none∧H0 b=none∧RepAll K G xs ds
def dD (K:qB) (G:Hp) (vs:List (Key×V)) (kvs:List (Key×PyData)):Prop:=vs.map (·.1)=kvs.map (·.1)∧RepAll K G (vs.map (·.2)) (kvs.map (·.2))
theorem dD.mono {K:qB} {G G':Hp} {vs:List (Key×V)} {kvs:List (Key×PyData)} (h:dD K G vs kvs) (s:bH G G'):dD K G' vs kvs:=⟨h.1,h.2.mono s⟩
def a4j (K:qB) (H0 G H:Hp) (o:Option V):Ent→Prop
 | .no=>True
 | .val d=>∃ v,o=some v∧Rep K G v d
 | .lst ds=>∃ a xs,o=some (.ref a)∧H a=some (.lst xs)∧G a=none∧H0 a=none∧RepAll K G xs ds
 | .exc c=>∃ a C,o=some (.ref a)∧fR K c=some C∧H a=some (xcO a C)
 | .nst dss=>∃ a bs,o=some (.ref a)∧H a=some (.lst (bs.map V.ref))∧G a=none∧H0 a=none∧a∉bs∧bs.Nodup∧Paired (b8J K H0 G H) bs dss
 | .dct kvs=>∃ a vs,o=some (.ref a)∧H a=some (.dK vs)∧G a=none∧H0 a=none∧dD K G vs kvs
def a6v:Ent→Bool
 | .lst _=>true
 | .nst _=>true
 | .dct _=>true
 | _=>false
structure Inj (H:Hp) (σ:St) (ρ:List Ent):Prop where
 two:∀ (i j:Nat) (a:Addr) (ds es:List PyData),i≠j→σ[i]?=some (some (.ref a))→ρ[i]?=some (.lst ds)→σ[j]?=some (some (.ref a))→ρ[j]?=some (.lst es)→False
 mix:∀ (i j:Nat) (a a':Addr) (ds:List PyData) (dss:List (List PyData)),σ[i]?=some (some (.ref a))→ρ[i]?=some (.lst ds)→σ[j]?=some (some (.ref a'))→ρ[j]?=some (.nst dss)→a≠a'∧∀ vs,H a'=some (.lst vs)→V.ref a∉vs
 one:∀ (i j:Nat) (dss ess:List (List PyData)),ρ[i]?=some (.nst dss)→ρ[j]?=some (.nst ess)→i=j
 oneD:∀ (i j:Nat) (ks ls:List (Key×PyData)),ρ[i]?=some (.dct ks)→ρ[j]?=some (.dct ls)→i=j
theorem Inj.sub {H:Hp} {σ σ':St} {ρ ρ':List Ent} (I:Inj H σ ρ) (h:∀ (i:Nat) (e:Ent),ρ'[i]?=some e→a6v e=true→ρ[i]?=some e∧σ'[i]?=σ[i]?):Inj H σ' ρ':=by
 refine ⟨fun i j a ds es n h1 h2 h3 h4=>?_,fun i j a a' ds dss h1 h2 h3 h4=>?_,fun i j dss ess h1 h2=>?_,fun i j ks ls h1 h2=>I.oneD i j ks ls (h i _ h1 rfl).1 (h j _ h2 rfl).1⟩
 ·obtain ⟨x1,x2⟩:=h i _ h2 rfl
  obtain ⟨y1,y2⟩:=h j _ h4 rfl
  rw [x2] at h1;rw [y2] at h3
  exact I.two i j a ds es n h1 x1 h3 y1
 ·obtain ⟨x1,x2⟩:=h i _ h2 rfl
  obtain ⟨y1,y2⟩:=h j _ h4 rfl
  rw [x2] at h1;rw [y2] at h3
  exact I.mix i j a a' ds dss h1 x1 h3 y1
 ·exact I.one i j dss ess (h i _ h1 rfl).1 (h j _ h2 rfl).1
theorem Inj.other {H H':Hp} {σ:St} {ρ:List Ent} (I:Inj H σ ρ) (h:∀ (j:Nat) (a':Addr) (dss:List (List PyData)),σ[j]?=some (some (.ref a'))→ρ[j]?=some (.nst dss)→∀ vs,H' a'=some (.lst vs)→H a'=some (.lst vs)):Inj H' σ ρ:=
 ⟨I.two,fun i j a a' ds dss h1 h2 h3 h4=>⟨(I.mix i j a a' ds dss h1 h2 h3 h4).1,fun vs e=>(I.mix i j a a' ds dss h1 h2 h3 h4).2 vs (h j a' dss h3 h4 vs e)⟩,I.one,I.oneD⟩
theorem Inj.free {H:Hp} {σ:St} {ρ:List Ent} (h:∀ (i:Nat) (e:Ent),ρ[i]?=some e→a6v e=false):Inj H σ ρ:=
 ⟨fun i j a ds es n h1 h2 h3 h4=>zK (h i _ h2),fun i j a a' ds dss h1 h2 h3 h4=>zK (h i _ h2),fun i j dss ess h1 h2=>zK (h i _ h1),fun i j ks ls h1 h2=>zK (h i _ h1)⟩
theorem hJ {α β:Type} {F F':α→β→Prop}:∀ {l:List α} {m:List β},Paired F l m→(∀ a b,a∈l→F a b→F' a b)→Paired F' l m
 | _,_,.nil,_=>.nil
 | _,_,.cons r t,h=>.cons (h _ _ qT r) (hJ t fun a b ha=>h a b (qE _ ha))
theorem a0W {α β:Type} {F:α→β→Prop} {a:α}:∀ {l:List α} {m:List β},Paired F l m→a∈l→∃ b,F a b
 | _,_,.cons r t,h=>by
  rcases qF.mp h with rfl | h
  ·exact ⟨_,r⟩
  ·exact a0W t h
structure RepS (K:qB) (H0 G₀ G H:Hp) (σ:St) (ρ:List Ent):Prop where
 grow:Grow G₀ H0 G H
 len:σ.length=ρ.length
 ent:∀ (i:Nat) (o:Option V) (e:Ent),σ[i]?=some o→ρ[i]?=some e→a4j K H0 G H o e
 inj:Inj H σ ρ
 tab:lN K G H
theorem a4j.more {K:qB} {H0 G H G' H':Hp} {o:Option V} {e:Ent} (g:Grow G H G' H') (h:a4j K H0 G H o e):a4j K H0 G' H' o e:=by
 cases e with
 | no=>trivial
 | val d=>obtain ⟨v,e,r⟩:=h;exact ⟨v,e,r.mono g.gg⟩
 | lst ds=>
  obtain ⟨a,xs,e,h1,h2,h3,r⟩:=h
  exact ⟨a,xs,e,g.hh.lst h1,g.new a h2 (by rw [h1];simp),h3,r.mono g.gg⟩
 | exc c=>obtain ⟨a,C,e,h1,h2⟩:=h;exact ⟨a,C,e,h1,g.hh.keep a _ h2 (by unfold xcO;nofun)⟩
 | nst dss=>
  obtain ⟨a,bs,e,h1,h2,h3,h4,h5,r⟩:=h
  exact ⟨a,bs,e,g.hh.lst h1,g.new a h2 (by rw [h1];simp),h3,h4,h5,Paired.mapP r fun b ds ⟨xs,x1,x2,x3,x4⟩=>⟨xs,g.hh.lst x1,g.new b x2 (by rw [x1];simp),x3,x4.mono g.gg⟩⟩
 | dct kvs=>
  obtain ⟨a,vs,e,h1,h2,h3,r⟩:=h
  exact ⟨a,vs,e,g.hh.keep a _ h1 (by nofun),g.new a h2 (by rw [h1];simp),h3,r.mono g.gg⟩
section
variable {K:qB} {H0 G₀ G H G' H':Hp} {σ:St} {ρ:List Ent}
theorem RepS.more (R:RepS K H0 G₀ G H σ ρ) (g:Grow G H G' H'):RepS K H0 G₀ G' H' σ ρ:=
 ⟨R.grow.trans g,R.len,fun i o e h1 h2=>(R.ent i o e h1 h2).more g,R.inj.other (fun j a' dss h1 h2 vs e=>by
  obtain ⟨a,bs,e1,e2,_⟩:=R.ent j _ _ h1 h2
  cases e1
  rw [g.hh.lst e2] at e
  cases e
  exact e2),R.tab.more g⟩
theorem RepS.sub (R:RepS K H0 G₀ G H σ ρ):bH G H:=R.grow.sub
theorem RepS.at {i:Nat} {e:Ent} (R:RepS K H0 G₀ G H σ ρ) (h:ρ[i]?=some e):∃ o,σ[i]?=some o∧a4j K H0 G H o e:=by
 have hi:i<σ.length:=by rw [R.len];exact (qS.mp h).1
 exact ⟨σ[i],by simp [hi],R.ent i _ e (by simp [hi]) h⟩
theorem RepS.val {i:Nat} {d:PyData} (R:RepS K H0 G₀ G H σ ρ) (h:ρ[i]?=some (.val d)):∃ v,σ[i]?=some (some v)∧Rep K G v d:=by
 obtain ⟨o,e,v,rfl,r⟩:=R.at h
 exact ⟨v,e,r⟩
theorem RepS.own {i:Nat} {ds:List PyData} (R:RepS K H0 G₀ G H σ ρ) (h:ρ[i]?=some (.lst ds)):∃ a xs,σ[i]?=some (some (.ref a))∧H a=some (.lst xs)∧G a=none∧H0 a=none∧RepAll K G xs ds:=by
 obtain ⟨o,e,a,xs,rfl,r⟩:=R.at h
 exact ⟨a,xs,e,r⟩
theorem aJ {α:Type} {l:List α} {i j:Nat} {x y:α} (h:(l.set i x)[j]?=some y):(j=i∧y=x∧i<l.length)∨(j≠i∧l[j]?=some y):=by
 by_cases e:j=i
 ·subst e
  have hl:j<l.length:=by
   have:=(qS.mp h).1
   simpa using this
  rw [kD hl] at h
  exact .inl ⟨rfl,(qA h).symm,hl⟩
 ·rw [qk (jh e)] at h
  exact .inr ⟨e,h⟩
theorem RepS.set {i:Nat} {v:V} {d:PyData} (R:RepS K H0 G₀ G H σ ρ) (r:Rep K G v d):RepS K H0 G₀ G H (σ.set i (some v)) (ρ.set i (.val d)):=by
 refine ⟨R.grow,by simp [R.len],fun j o e h1 h2=>?_,R.inj.sub fun j e h1 h2=>?_,R.tab⟩
 ·rcases aJ h1 with ⟨rfl,rfl,_⟩ | ⟨n,h1⟩
  ·rcases aJ h2 with ⟨_,rfl,_⟩ | ⟨n,_⟩
   ·exact ⟨v,rfl,r⟩
   ·exact absurd rfl n
  ·rcases aJ h2 with ⟨z,_⟩ | ⟨_,h2⟩
   ·exact absurd z n
   ·exact R.ent j o e h1 h2
 ·rcases aJ h1 with ⟨_,rfl,_⟩ | ⟨n,h1⟩
  ·cases h2
  ·exact ⟨h1,qk (jh n)⟩
theorem RepS.freeze {i:Nat} {ds:List PyData} (R:RepS K H0 G₀ G H σ ρ) (h:ρ[i]?=some (.lst ds)):∃ G',bH G G'∧RepS K H0 G₀ G' H σ (ρ.set i (.val (.list ds))):=by
 obtain ⟨a,xs,e,h1,h2,h3,r⟩:=R.own h
 have gg:bH G (upd G a (.lst xs)):=bJ h2
 refine ⟨upd G a (.lst xs),gg,⟨⟨R.grow.gg.trans gg,R.grow.hh,fun b o q=>?_,fun b q n=>?_,fun n=>(R.grow.nt n).upd (by nofun)⟩,by simp [R.len],fun j o e' q1 q2=>?_,R.inj.sub fun j e h1 h2=>?_,R.tab.1,R.tab.2.upd (by nofun)⟩⟩
 ·by_cases hb:b=a
  ·subst hb;rw [aL] at q;cases q;exact h1
  ·rw [aH hb] at q;exact R.sub b o q
 ·have nb:b≠a:=fun z=>n (by rw [z];exact h3)
  rw [aH nb];exact R.grow.new b q n
 ·rcases aJ q2 with ⟨rfl,rfl,_⟩ | ⟨nj,q2⟩
  ·rw [e] at q1;cases q1
   exact ⟨.ref a,rfl,.list (.of aL) (r.mono gg)⟩
  ·have E:=R.ent j o e' q1 q2
   cases e' with
   | no=>trivial
   | val d=>obtain ⟨v,z,rv⟩:=E;exact ⟨v,z,rv.mono gg⟩
   | lst es=>
    obtain ⟨b,ys,z,g1,g2,g3,rv⟩:=E
    have nb:b≠a:=fun w=>by
     subst w z
     exact R.inj.two j i b es ds nj q1 q2 e h
    exact ⟨b,ys,z,g1,by rw [aH nb];exact g2,g3,rv.mono gg⟩
   | exc c=>exact E
   | nst dss=>
    obtain ⟨b,bs,z,g1,g2,g3,g4,g5,rv⟩:=E
    subst z
    obtain ⟨m1,m2⟩:=R.inj.mix i j a b ds dss e h q1 q2
    have ni:∀ c∈bs,c≠a:=fun c hc w=>m2 _ g1 (by subst w;exact qU.mpr ⟨c,hc,rfl⟩)
    exact ⟨b,bs,rfl,g1,by rw [aH (jh m1)];exact g2,g3,g4,g5,hJ rv fun c dd hc ⟨xs',x1,x2,x3,x4⟩=>⟨xs',x1,by rw [aH (ni c hc)];exact x2,x3,x4.mono gg⟩⟩
   | dct kvs=>
    obtain ⟨b,vs,z,g1,g2,g3,rv⟩:=E
    exact ⟨b,vs,z,g1,by rw [aH (eV g1 h1 (by nofun))];exact g2,g3,rv.mono gg⟩
 ·rcases aJ h1 with ⟨_,rfl,_⟩ | ⟨n,h1⟩
  ·cases h2
  ·exact ⟨h1,rfl⟩
theorem RepS.wrote {i:Nat} {a:Addr} {ds ds':List PyData} {xs:List V} (R:RepS K H0 G₀ G H σ ρ) (h:ρ[i]?=some (.lst ds)) (e:σ[i]?=some (some (.ref a))) (r:RepAll K G xs ds'):RepS K H0 G₀ G (upd H a (.lst xs)) σ (ρ.set i (.lst ds')):=by
 obtain ⟨a',xs',e',h1,h2,h3,_⟩:=R.own h
 rw [e] at e';cases e'
 refine ⟨⟨R.grow.gg,R.grow.hh.wr h3 h1,fun b o q=>?_,fun b q n=>R.grow.new b q n,R.grow.nt⟩,by simp [R.len],fun j o e' q1 q2=>?_,⟨fun j k b es fs hjk q1 q2 q3 q4=>?_,fun j k b a' es dss q1 q2 q3 q4=>?_,fun j k dss ess q1 q2=>?_,fun j k ks ls q1 q2=>?_⟩,R.tab.wr h1⟩
 ·rw [aH (aW q h2)];exact R.sub b o q
 ·rcases aJ q2 with ⟨rfl,rfl,_⟩ | ⟨nj,q2⟩
  ·rw [e] at q1;cases q1
   exact ⟨a,xs,rfl,aL,h2,h3,r⟩
  ·have E:=R.ent j o e' q1 q2
   cases e' with
   | no=>trivial
   | val d=>exact E
   | lst es=>
    obtain ⟨b,ys,z,g1,g2,g3,rv⟩:=E
    have nb:b≠a:=fun w=>by
     subst w z
     exact R.inj.two j i b es ds nj q1 q2 e h
    exact ⟨b,ys,z,by rw [aH nb];exact g1,g2,g3,rv⟩
   | exc c=>obtain ⟨b,C,z,g1,g2⟩:=E;exact ⟨b,C,z,g1,by rw [aH (eV g2 h1 (by unfold xcO;nofun))];exact g2⟩
   | nst dss=>
    obtain ⟨b,bs,z,g1,g2,g3,g4,g5,rv⟩:=E
    subst z
    obtain ⟨m1,m2⟩:=R.inj.mix i j a b ds dss e h q1 q2
    have ni:∀ c∈bs,c≠a:=fun c hc w=>m2 _ g1 (by subst w;exact qU.mpr ⟨c,hc,rfl⟩)
    exact ⟨b,bs,rfl,by rw [aH (jh m1)];exact g1,g2,g3,g4,g5,hJ rv fun c dd hc ⟨xs',x1,x2,x3,x4⟩=>⟨xs',by rw [aH (ni c hc)];exact x1,x2,x3,x4⟩⟩
   | dct kvs=>
    obtain ⟨b,vs,z,g1,g2,g3,rv⟩:=E
    exact ⟨b,vs,z,by rw [aH (eV g1 h1 (by nofun))];exact g1,g2,g3,rv⟩
 ·rcases aJ q2 with ⟨rfl,_,_⟩ | ⟨n2,q2⟩
  ·rcases aJ q4 with ⟨z,_,_⟩ | ⟨n4,q4⟩
   ·exact hjk z.symm
   ·exact R.inj.two j k b ds fs hjk q1 h q3 q4
  ·rcases aJ q4 with ⟨z,_,_⟩ | ⟨n4,q4⟩
   ·subst z;exact R.inj.two j k b es ds hjk q1 ‹ρ[j]?=some (Ent.lst es)› q3 h
   ·exact R.inj.two j k b es fs hjk q1 ‹ρ[j]?=some (Ent.lst es)› q3 q4
 ·rcases aJ q4 with ⟨_,z,_⟩ | ⟨_,q4⟩
  ·cases z
  ·have old:∃ fs,ρ[j]?=some (.lst fs):=by
    rcases aJ q2 with ⟨rfl,_,_⟩ | ⟨_,q2⟩
    ·exact ⟨_,h⟩
    ·exact ⟨_,q2⟩
   obtain ⟨fs,q2⟩:=old
   obtain ⟨m1,m2⟩:=R.inj.mix j k b a' fs dss q1 q2 q3 q4
   have m3:=(R.inj.mix i k a a' ds dss e h q3 q4).1
   exact ⟨m1,fun vs z=>m2 vs (by rw [aH (jh m3)] at z;exact z)⟩
 ·rcases aJ q1 with ⟨_,z,_⟩ | ⟨_,q1⟩
  ·cases z
  ·rcases aJ q2 with ⟨_,z,_⟩ | ⟨_,q2⟩
   ·cases z
   ·exact R.inj.one j k dss ess q1 q2
 ·rcases aJ q1 with ⟨_,z,_⟩ | ⟨_,q1⟩
  ·cases z
  ·rcases aJ q2 with ⟨_,z,_⟩ | ⟨_,q2⟩
   ·cases z
   ·exact R.inj.oneD j k ks ls q1 q2
theorem RepS.fresh {i:Nat} {p:Addr} {ds:List PyData} {xs:List V} (R:RepS K H0 G₀ G H σ ρ) (h:H p=none) (r:RepAll K G xs ds):RepS K H0 G₀ G (upd H p (.lst xs)) (σ.set i (some (.ref p))) (ρ.set i (.lst ds)):=by
 have R':=R.more (Grow.side (o:=.lst xs) R.sub h)
 refine ⟨R'.grow,by simp [R.len],fun j o e h1 h2=>?_,⟨fun j k a es fs hjk h1 h2 h3 h4=>?_,fun j k b a' es dss q1 q2 q3 q4=>?_,fun j k dss ess q1 q2=>?_,fun j k ks ls q1 q2=>?_⟩,R'.tab⟩
 ·rcases aJ h1 with ⟨rfl,rfl,_⟩ | ⟨n,h1⟩
  ·rcases aJ h2 with ⟨_,rfl,_⟩ | ⟨n,_⟩
   ·exact ⟨p,xs,rfl,aL,R.sub.free h,R.grow.hh.free h,r⟩
   ·exact absurd rfl n
  ·rcases aJ h2 with ⟨z,_⟩ | ⟨_,h2⟩
   ·exact absurd z n
   ·exact R'.ent j o e h1 h2
 ·have old:∀ j es,j≠i→σ[j]?=some (some (.ref p))→ρ[j]?=some (.lst es)→False:=fun j es _ q1 q2=>by
   obtain ⟨b,ys,e,g1,_⟩:=R.own q2
   rw [q1] at e;cases e
   rw [h] at g1;cases g1
  rcases aJ h2 with ⟨rfl,_,_⟩ | ⟨n2,h2⟩
  ·rcases aJ h1 with ⟨_,z,_⟩ | ⟨n,_⟩
   ·cases z
    rcases aJ h4 with ⟨z,_,_⟩ | ⟨n4,h4⟩
    ·exact hjk z.symm
    ·rw [qk (jh n4)] at h3
     exact old k fs n4 h3 h4
   ·exact absurd rfl n
  ·rw [qk (jh n2)] at h1
   rcases aJ h4 with ⟨zk,_,_⟩ | ⟨n4,h4⟩
   ·subst zk
    rcases aJ h3 with ⟨_,z,_⟩ | ⟨n,_⟩
    ·cases z;exact old j es n2 h1 ‹ρ[j]?=some (Ent.lst es)›
    ·exact absurd rfl n
   ·rw [qk (jh n4)] at h3
    exact R.inj.two j k a es fs hjk h1 h2 h3 h4
 ·rcases aJ q4 with ⟨_,z,_⟩ | ⟨n4,q4⟩
  ·cases z
  ·rw [qk (jh n4)] at q3
   obtain ⟨a1,bs,z,g1,g2,g3,g4,g5,rv⟩:=R.ent k _ _ q3 q4
   have z':a'=a1:=by cases z;rfl
   subst z'
   have pa:a'≠p:=aW g1 h
   have pb:V.ref p∉bs.map V.ref:=fun z=>by
    obtain ⟨c,hc,e⟩:=qU.mp z
    cases e
    obtain ⟨dd,⟨xs',x1,_⟩⟩:=a0W rv hc
    rw [h] at x1;cases x1
   rcases aJ q2 with ⟨rfl,_,_⟩ | ⟨n2,q2⟩
   ·rcases aJ q1 with ⟨_,z,_⟩ | ⟨n,_⟩
    ·cases z
     exact ⟨jh pa,fun vs e=>by rw [aH pa,g1] at e;cases e;exact pb⟩
    ·exact absurd rfl n
   ·rw [qk (jh n2)] at q1
    obtain ⟨m1,m2⟩:=R.inj.mix j k b a' es dss q1 q2 q3 q4
    exact ⟨m1,fun vs e=>m2 vs (by rw [aH pa] at e;exact e)⟩
 ·rcases aJ q1 with ⟨_,z,_⟩ | ⟨_,q1⟩
  ·cases z
  ·rcases aJ q2 with ⟨_,z,_⟩ | ⟨_,q2⟩
   ·cases z
   ·exact R.inj.one j k dss ess q1 q2
 ·rcases aJ q1 with ⟨_,z,_⟩ | ⟨_,q1⟩
  ·cases z
  ·rcases aJ q2 with ⟨_,z,_⟩ | ⟨_,q2⟩
   ·cases z
   ·exact R.inj.oneD j k ks ls q1 q2
theorem RepS.ownD {i:Nat} {kvs:List (Key×PyData)} (R:RepS K H0 G₀ G H σ ρ) (h:ρ[i]?=some (.dct kvs)):∃ a vs,σ[i]?=some (some (.ref a))∧H a=some (.dK vs)∧G a=none∧H0 a=none∧dD K G vs kvs:=by
 obtain ⟨o,e,a,vs,rfl,r⟩:=R.at h
 exact ⟨a,vs,e,r⟩
theorem Tab.wrD {P a:Addr} {q:Str} {H:Hp} {vs:List (Key×V)} {o:HO} (t:Tab P q H) (h:H a=some (.dK vs)):Tab P q (upd H a o):=by
 obtain ⟨ps,h1,h2,h3⟩:=t
 refine ⟨ps,by rw [aH (eV h1 h (by nofun))];exact h1,h2,fun pos cv e=>?_⟩
 obtain ⟨c,e1,e2⟩:=h3 pos cv e
 exact ⟨c,e1,by rw [aH (eV e2 h (by unfold cdO;nofun))];exact e2⟩
theorem Sm.wrD {H H':Hp} (s:Sm H H') {l:Addr} {vs:List (Key×V)} {o:HO} (h0:H l=none) (h:H' l=some (.dK vs)):Sm H (upd H' l o):=
 ⟨fun b u e n=>by rw [aH (aW e h0)];exact s.keep b u e n,fun b ps e=>by rw [aH (aW e h0)];exact s.tbl b ps e,fun P q t=>(s.tab P q t).wrD h⟩
theorem lN.wrD {K:qB} {G H:Hp} {a:Addr} {vs:List (Key×V)} {o:HO} (t:lN K G H) (h:H a=some (.dK vs)):lN K G (upd H a o):=⟨fun x hx c P e=>(t.1 x hx c P e).wrD h,t.2⟩
theorem RepS.freezeD {i:Nat} {kvs:List (Key×PyData)} (R:RepS K H0 G₀ G H σ ρ) (h:ρ[i]?=some (.dct kvs)):∃ G',bH G G'∧RepS K H0 G₀ G' H σ (ρ.set i (.val (.dict (kvs.map fun p=>(dB p.1,p.2))))):=by
 obtain ⟨a,vs,e,h1,h2,h3,r⟩:=R.ownD h
 have gg:bH G (upd G a (.dK vs)):=bJ h2
 refine ⟨upd G a (.dK vs),gg,⟨⟨R.grow.gg.trans gg,R.grow.hh,fun b o q=>?_,fun b q n=>?_,fun n=>(R.grow.nt n).upd (by nofun)⟩,by simp [R.len],fun j o e' q1 q2=>?_,R.inj.sub fun j e h1 h2=>?_,R.tab.1,R.tab.2.upd (by nofun)⟩⟩
 ·by_cases hb:b=a
  ·subst hb;rw [aL] at q;cases q;exact h1
  ·rw [aH hb] at q;exact R.sub b o q
 ·have nb:b≠a:=fun z=>n (by rw [z];exact h3)
  rw [aH nb];exact R.grow.new b q n
 ·rcases aJ q2 with ⟨rfl,rfl,_⟩ | ⟨nj,q2⟩
  ·rw [e] at q1;cases q1
   refine ⟨.ref a,rfl,.dict (kvs:=vs) aL ?_ ?_⟩
   ·rw [qV]
    have:=congrArg (List.map dB) r.1
    rw [qV,qV] at this
    exact this.symm
   ·rw [qV];exact r.2.mono gg
  ·have E:=R.ent j o e' q1 q2
   cases e' with
   | no=>trivial
   | val d=>obtain ⟨v,z,rv⟩:=E;exact ⟨v,z,rv.mono gg⟩
   | lst es=>
    obtain ⟨b,ys,z,g1,g2,g3,rv⟩:=E
    exact ⟨b,ys,z,g1,by rw [aH (eV g1 h1 (by nofun))];exact g2,g3,rv.mono gg⟩
   | exc c=>exact E
   | nst dss=>
    obtain ⟨b,bs,z,g1,g2,g3,g4,g5,rv⟩:=E
    exact ⟨b,bs,z,g1,by rw [aH (eV g1 h1 (by nofun))];exact g2,g3,g4,g5,hJ rv fun c dd hc ⟨xs',x1,x2,x3,x4⟩=>⟨xs',x1,by rw [aH (eV x1 h1 (by nofun))];exact x2,x3,x4.mono gg⟩⟩
   | dct ks=>exact absurd (R.inj.oneD j i ks kvs q2 h) nj
 ·rcases aJ h1 with ⟨_,rfl,_⟩ | ⟨n,h1⟩
  ·cases h2
  ·exact ⟨h1,rfl⟩
theorem RepS.wroteD {i:Nat} {a:Addr} {kvs kvs':List (Key×PyData)} {vs:List (Key×V)} (R:RepS K H0 G₀ G H σ ρ) (h:ρ[i]?=some (.dct kvs)) (e:σ[i]?=some (some (.ref a))) (r:dD K G vs kvs'):RepS K H0 G₀ G (upd H a (.dK vs)) σ (ρ.set i (.dct kvs')):=by
 obtain ⟨a',xs',e',h1,h2,h3,_⟩:=R.ownD h
 rw [e] at e';cases e'
 refine ⟨⟨R.grow.gg,R.grow.hh.wrD h3 h1,fun b o q=>?_,fun b q n=>R.grow.new b q n,R.grow.nt⟩,by simp [R.len],fun j o e' q1 q2=>?_,⟨fun j k b es fs hjk q1 q2 q3 q4=>?_,fun j k b a' es dss q1 q2 q3 q4=>?_,fun j k dss ess q1 q2=>?_,fun j k ks ls q1 q2=>?_⟩,R.tab.wrD h1⟩
 ·rw [aH (aW q h2)];exact R.sub b o q
 ·rcases aJ q2 with ⟨rfl,rfl,_⟩ | ⟨nj,q2⟩
  ·rw [e] at q1;cases q1
   exact ⟨a,vs,rfl,aL,h2,h3,r⟩
  ·have E:=R.ent j o e' q1 q2
   cases e' with
   | no=>trivial
   | val d=>exact E
   | lst es=>
    obtain ⟨b,ys,z,g1,g2,g3,rv⟩:=E
    exact ⟨b,ys,z,by rw [aH (eV g1 h1 (by nofun))];exact g1,g2,g3,rv⟩
   | exc c=>obtain ⟨b,C,z,g1,g2⟩:=E;exact ⟨b,C,z,g1,by rw [aH (eV g2 h1 (by unfold xcO;nofun))];exact g2⟩
   | nst dss=>
    obtain ⟨b,bs,z,g1,g2,g3,g4,g5,rv⟩:=E
    exact ⟨b,bs,z,by rw [aH (eV g1 h1 (by nofun))];exact g1,g2,g3,g4,g5,hJ rv fun c dd hc ⟨xs',x1,x2,x3,x4⟩=>⟨xs',by rw [aH (eV x1 h1 (by nofun))];exact x1,x2,x3,x4⟩⟩
   | dct ks=>exact absurd (R.inj.oneD j i ks kvs q2 h) nj
 ·rcases aJ q2 with ⟨_,z,_⟩ | ⟨_,q2⟩
  ·cases z
  ·rcases aJ q4 with ⟨_,z,_⟩ | ⟨_,q4⟩
   ·cases z
   ·exact R.inj.two j k b es fs hjk q1 q2 q3 q4
 ·rcases aJ q2 with ⟨_,z,_⟩ | ⟨_,q2⟩
  ·cases z
  ·rcases aJ q4 with ⟨_,z,_⟩ | ⟨_,q4⟩
   ·cases z
   ·obtain ⟨m1,m2⟩:=R.inj.mix j k b a' es dss q1 q2 q3 q4
    refine ⟨m1,fun ws z=>m2 ws ?_⟩
    by_cases n:a'=a
    ·subst n;rw [aL] at z;cases z
    ·rw [aH n] at z;exact z
 ·rcases aJ q1 with ⟨_,z,_⟩ | ⟨_,q1⟩
  ·cases z
  ·rcases aJ q2 with ⟨_,z,_⟩ | ⟨_,q2⟩
   ·cases z
   ·exact R.inj.one j k dss ess q1 q2
 ·have old:∀ (j:Nat) (ks:List (Key×PyData)),(ρ.set i (.dct kvs'))[j]?=some (.dct ks)→∃ ks',ρ[j]?=some (.dct ks'):=fun j ks q=>by
   rcases aJ q with ⟨rfl,_,_⟩ | ⟨_,q⟩
   ·exact ⟨_,h⟩
   ·exact ⟨_,q⟩
  obtain ⟨k1,q1⟩:=old j ks q1
  obtain ⟨k2,q2⟩:=old k ls q2
  exact R.inj.oneD j k k1 k2 q1 q2
theorem RepS.freshD {i:Nat} {p:Addr} {kvs:List (Key×PyData)} {vs:List (Key×V)} (R:RepS K H0 G₀ G H σ ρ) (h:H p=none) (hno:∀ (j:Nat) (ks:List (Key×PyData)),ρ[j]?=some (.dct ks)→j=i) (r:dD K G vs kvs):RepS K H0 G₀ G (upd H p (.dK vs)) (σ.set i (some (.ref p))) (ρ.set i (.dct kvs)):=by
 have R':=R.more (Grow.side (o:=.dK vs) R.sub h)
 refine ⟨R'.grow,by simp [R.len],fun j o e h1 h2=>?_,⟨fun j k a es fs hjk h1 h2 h3 h4=>?_,fun j k b a' es dss q1 q2 q3 q4=>?_,fun j k dss ess q1 q2=>?_,fun j k ks ls q1 q2=>?_⟩,R'.tab⟩
 ·rcases aJ h1 with ⟨rfl,rfl,_⟩ | ⟨n,h1⟩
  ·rcases aJ h2 with ⟨_,rfl,_⟩ | ⟨n,_⟩
   ·exact ⟨p,vs,rfl,aL,R.sub.free h,R.grow.hh.free h,r⟩
   ·exact absurd rfl n
  ·rcases aJ h2 with ⟨z,_⟩ | ⟨_,h2⟩
   ·exact absurd z n
   ·exact R'.ent j o e h1 h2
 ·rcases aJ h2 with ⟨_,z,_⟩ | ⟨n2,h2⟩
  ·cases z
  ·rcases aJ h4 with ⟨_,z,_⟩ | ⟨n4,h4⟩
   ·cases z
   ·rw [qk (jh n2)] at h1
    rw [qk (jh n4)] at h3
    exact R'.inj.two j k a es fs hjk h1 h2 h3 h4
 ·rcases aJ q2 with ⟨_,z,_⟩ | ⟨n2,q2⟩
  ·cases z
  ·rcases aJ q4 with ⟨_,z,_⟩ | ⟨n4,q4⟩
   ·cases z
   ·rw [qk (jh n2)] at q1
    rw [qk (jh n4)] at q3
    exact R'.inj.mix j k b a' es dss q1 q2 q3 q4
 ·rcases aJ q1 with ⟨_,z,_⟩ | ⟨_,q1⟩
  ·cases z
  ·rcases aJ q2 with ⟨_,z,_⟩ | ⟨_,q2⟩
   ·cases z
   ·exact R.inj.one j k dss ess q1 q2
 ·have all:∀ (j:Nat) (ks:List (Key×PyData)),(ρ.set i (.dct kvs))[j]?=some (.dct ks)→j=i:=fun j ks q=>by
   rcases aJ q with ⟨z,_,_⟩ | ⟨_,q⟩
   ·exact z
   ·exact hno j ks q
  rw [all j ks q1,all k ls q2]
end
structure PD (X:Cx) (e:Expr) (ρ:List Ent) (d:PyData):Prop where
 run:∀ (H0 G₀ G:Hp) (pins:List (Addr×Obj)) (s:Shared) (σ:St) (H:Hp) (Q:VK),Inv X pins σ H s→RepS X.K H0 G₀ G H σ ρ→(∀ v G' H',Grow G H G' H'→Rep X.K G' v d→Q v H') →
  wpAny (model X.prog X.w) X.A (eval e X.env) (EP X pins σ Q) X.xe s
structure PTD (X:Cx) (e:Expr) (ρ:List Ent) (b:Bool):Prop where
 run:∀ (H0 G₀ G:Hp) (pins:List (Addr×Obj)) (s:Shared) (σ:St) (H:Hp) (Q:Bool→Hp→Prop),Inv X pins σ H s→RepS X.K H0 G₀ G H σ ρ→(∀ G' H',Grow G H G' H'→Q b H') →
  wpAny (model X.prog X.w) X.A (isTrue e X.env (eval e X.env)) (TP X pins σ Q) X.xe s
structure PAD (X:Cx) (es:List Expr) (ρ:List Ent) (ds:List PyData):Prop where
 run:∀ (H0 G₀ G:Hp) (pos:Pos) (pins:List (Addr×Obj)) (s:Shared) (σ:St) (H:Hp) (Q:List V→Hp→Prop),Inv X pins σ H s→RepS X.K H0 G₀ G H σ ρ→(∀ vs G' H',Grow G H G' H'→RepAll X.K G' vs ds→Q vs H') →
  wpAny (model X.prog X.w) X.A (spliced (backTo pos (starEach es X.env))) (AP X pins σ Q) X.xe s
def tD (X:Cx) (ρ:List Ent) (d:PyData):TE:=fun σ H Q=>∃ H0 G₀ G,RepS X.K H0 G₀ G H σ ρ∧∀ v G' H',Grow G H G' H'→Rep X.K G' v d→Q v H'
def tTD (X:Cx) (ρ:List Ent) (b:Bool):TT:=fun σ H Q=>∃ H0 G₀ G,RepS X.K H0 G₀ G H σ ρ∧∀ G' H',Grow G H G' H'→Q b H'
def tAD (X:Cx) (ρ:List Ent) (ds:List PyData):TA:=fun σ H Q=>∃ H0 G₀ G,RepS X.K H0 G₀ G H σ ρ∧∀ vs G' H',Grow G H G' H'→RepAll X.K G' vs ds→Q vs H'
section
variable {X:Cx} {e a b c:Expr} {es:List Expr} {ρ:List Ent} {d da db dc:PyData} {ds:List PyData} {pos p:Pos}
theorem PD.pe (h:PD X e ρ d):PE X e (tD X ρ d):=fun pins s σ H Q I ⟨H0,G₀,G,R,k⟩=>h.run H0 G₀ G pins s σ H Q I R k
theorem PTD.pt {b:Bool} (h:PTD X e ρ b):PT X e (tTD X ρ b):=fun pins s σ H Q I ⟨H0,G₀,G,R,k⟩=>h.run H0 G₀ G pins s σ H Q I R k
theorem PAD.pa (h:PAD X es ρ ds):PA X es (tAD X ρ ds):=fun pos pins s σ H Q I ⟨H0,G₀,G,R,k⟩=>h.run H0 G₀ G pos pins s σ H Q I R k
theorem PD.of {t:TE} (h:PE X e t) (k:∀ H0 G₀ G σ H Q,RepS X.K H0 G₀ G H σ ρ→(∀ v G' H',Grow G H G' H'→Rep X.K G' v d→Q v H')→t σ H Q):PD X e ρ d:=
 ⟨fun H0 G₀ G pins s σ H Q I R q=>h pins s σ H Q I (k H0 G₀ G σ H Q R q)⟩
theorem b4Q {i:Int} {j}:PD X (.Constant (.int i) j pos) ρ (.int i):=.of b4M fun _ _ _ _ _ _ R q=>q _ _ _ (.refl R.sub) (.int i)
theorem b4P {x:Str} {j}:PD X (.Constant (.str x) j pos) ρ (.str x):=.of a9w fun _ _ _ _ _ _ R q=>q _ _ _ (.refl R.sub) (.str x)
theorem b2l {x:Bool} {j}:PD X (.Constant (.bool x) j pos) ρ (.bool x):=.of b6P fun _ _ _ _ _ _ R q=>q _ _ _ (.refl R.sub) (.bool x)
theorem b4O (i:Nat) {x:Str} (h:ρ[i]?=some (.val d)) (hN:X.N[i]?=some x:=by rfl) (hv:Vis X.env.scope x:=by first | exact jx rfl | exact jX (jx rfl) | exact jX (jX rfl)) (hd:(x==("__debug__" : Str))=false:=by decide)
  (hcd:(x==("__classdict__" : Str))=false:=by decide):PD X (.Name x pos) ρ d:=.of (gZ hN hv hd hcd) fun H0 G₀ G σ H Q R q=>by
 obtain ⟨v,e,r⟩:=R.val h
 exact ⟨v,e,q v G H (.refl R.sub) r⟩
theorem a9C {x:Str} {i:Int} {t:Tok} (hg:Gl X x) (hm:X.mg x=some (.int i t)) (hd:(x==("__debug__" : Str))=false:=by decide):PD X (.Name x pos) ρ (.int i):=
 .of (a6c (v:=.int i) hg hm ⟨t,rfl⟩ hd) fun _ _ _ _ _ _ R q=>q _ _ _ (.refl R.sub) (.int i)
end
end L2.L3
namespace L2.L3
open PySem PySem.Spec PyProof.Rows
section
variable {X:Cx} {e a b c:Expr} {es:List Expr} {ρ:List Ent} {d da db dc:PyData} {ds:List PyData} {pos p:Pos}
theorem mE:PAD X [] ρ []:=⟨fun H0 G₀ G pos pins s σ H Q I R q=>iX pos pins s σ H Q I (q [] G H (.refl R.sub) .nil)⟩
theorem fE (ha:PD X e ρ d) (hr:PAD X es ρ ds) (hs:starEach (e::es) X.env=(false,eval e X.env)::starEach es X.env:=by rfl):PAD X (e::es) ρ (d::ds):=by
 refine ⟨?_⟩
 intro H0 G₀ G pos pins s σ H Q I R q
 exact eE ha.pe hr.pa hs pos pins s σ H Q I ⟨H0,G₀,G,R,fun x G1 H1 g1 r1=>⟨H0,G₀,G1,R.more g1,fun xs G2 H2 g2 r2=>q _ G2 H2 (g1.trans g2) (.cons (r1.mono g2.gg) r2)⟩⟩
structure CmpD (X:Cx) (op:CmpOp) (da db:PyData) (t:Bool):Prop where
 ex:∃ r:R2,OpR X (compareOp op) r∧∀ x y G H Q,bH G H→Rep X.K G x da→Rep X.K G y db→Q (V.bl t) H→r x y H Q
theorem b5Y {i j:Int}:CmpD X .Lt (.int i) (.int j) (decide (i<j)):=⟨_,b6S,fun x y G H Q _ rx ry q=>by cases rx;cases ry;exact ⟨_,_,rfl,rfl,q⟩⟩
theorem b5Z {i j:Int}:CmpD X .LtE (.int i) (.int j) (decide (i≤j)):=⟨_,b6T,fun x y G H Q _ rx ry q=>by cases rx;cases ry;exact ⟨_,_,rfl,rfl,q⟩⟩
theorem cmp_gt {i j:Int}:CmpD X .Gt (.int i) (.int j) (decide (j<i)):=⟨_,b6U,fun x y G H Q _ rx ry q=>by cases rx;cases ry;exact ⟨_,_,rfl,rfl,q⟩⟩
def b6I (X:Cx) (da db:PyData) (neg:Bool):R2:=fun x y H Q=>Rep X.K H x da∧Rep X.K H y db∧qQ da=true∧qQ db=true∧Q (.bl (if neg then !PyData.eqv da db else jC da db)) H
theorem b4X (hu:X.A.units+64<cLine) (da db:PyData):OpR X (compareOp .Eq) (b6I X da db false):=by
 intro pins s σ H x y v u Q I rx ry ⟨r1,r2,h1,h2,q⟩
 obtain ⟨as,w1⟩:=r1.reads I rx
 obtain ⟨bs,w2⟩:=r2.reads I ry
 exact eq_dataH w1 w2 h1 h2 hu ⟨.bl _,H,I,rfl,q⟩
theorem b4T (hu:X.A.units+64<cLine) (da db:PyData):OpR X (compareOp .NotEq) (b6I X da db true):=by
 intro pins s σ H x y v u Q I rx ry ⟨r1,r2,h1,h2,q⟩
 obtain ⟨as,w1⟩:=r1.reads I rx
 obtain ⟨bs,w2⟩:=r2.reads I ry
 exact ne_dataH w1 w2 h1 h2 hu ⟨.bl _,H,I,rfl,q⟩
theorem b6a (hu:X.A.units+64<cLine) (h1:qQ da=true) (h2:qQ db=true):CmpD X .Eq da db (jC da db):=
 ⟨_,b4X hu da db,fun x y G H Q s rx ry q=>⟨rx.mono s,ry.mono s,h1,h2,q⟩⟩
theorem b5X (hu:X.A.units+64<cLine) (h1:qQ da=true) (h2:qQ db=true):CmpD X .NotEq da db (!PyData.eqv da db):=
 ⟨_,b4T hu da db,fun x y G H Q s rx ry q=>⟨rx.mono s,ry.mono s,h1,h2,q⟩⟩
variable {rest:List Expr}
theorem a6Y {K:qB} {G:Hp} {xs:List V} {ds:List PyData} {i:Int} {d:PyData} (r:RepAll K G xs ds) (h:atI ds i=some d):∃ v,atI xs i=some v∧Rep K G v d:=by
 unfold atI at h ⊢
 rw [r.length]
 cases e:ixN ds.length i with
 | none=>rw [e] at h;cases h
 | some j=>
  rw [e] at h
  exact r.get h
def spD (K:qB) (F:List PyData→PyData→Prop):Sp:=fun vs H Q _=>∃ G ds d,(bH G H∧lN K G H)∧RepAll K G vs ds∧F ds d∧∀ v G' H',Grow G H G' H'→Rep K G' v d→Q v H'
end
end L2.L3
namespace L2.L3
open PySem PySem.Spec PyProof.Rows
def Walk (K:qB) (J:It) (G:Hp) (ds:List PyData):Prop:=
 ∀ (i:Nat) (G' H':Hp),bH G G'→bH G' H'→(∀ d,ds[i]?=some d→J.go i H'∧∀ x H2,J.yld i H' x H2→∃ G2,Grow G' H' G2 H2∧Rep K G2 x d)∧(ds.length≤i→J.stop i H')
def tID (K:qB) (ρ:List Ent) (ds:List PyData):TI:=fun σ H R=>∃ H0 G₀ G,RepS K H0 G₀ G H σ ρ∧∀ J G' H',Grow G H G' H'→Walk K J G' ds→R J H'
structure PID (X:Cx) (tg iter:Expr) (ρ:List Ent) (ds:List PyData):Prop where
 run:PI X tg iter (tID X.K ρ ds)
theorem a7c {K:qB} {G:Hp} {a:Addr} {xs:List V} {ds:List PyData} (hq:SqL K G a xs) (r:RepAll K G xs ds):Walk K (Itl K a) G ds:=by
 intro i G' H' s1 s2
 refine ⟨fun d e=>?_,fun hl=>⟨xs,(s1.trans s2).seq hq,by rw [r.length];exact hl⟩⟩
 obtain ⟨v,ev,rv⟩:=r.get e
 refine ⟨⟨xs,v,(s1.trans s2).seq hq,ev⟩,fun x H2 ⟨e2,y⟩=>?_⟩
 subst e2
 have z:=y xs ((s1.trans s2).seq hq)
 rw [ev] at z
 cases z
 exact ⟨G',.refl s2,rv.mono s1⟩
theorem a8O {K:qB} {G:Hp} {a:Addr} {xs:List V} {ds:List PyData} (hq:SqT K G a xs) (r:RepAll K G xs ds):Walk K (Itt K a) G ds:=by
 intro i G' H' s1 s2
 refine ⟨fun d e=>?_,fun hl=>⟨xs,gM (s1.trans s2) hq,by rw [r.length];exact hl⟩⟩
 obtain ⟨v,ev,rv⟩:=r.get e
 refine ⟨⟨xs,v,gM (s1.trans s2) hq,ev⟩,fun x H2 ⟨e2,y⟩=>?_⟩
 subst e2
 have z:=y xs (gM (s1.trans s2) hq)
 rw [ev] at z
 cases z
 exact ⟨G',.refl s2,rv.mono s1⟩
def mD (lo:Int) (n:Nat):List PyData:=(qd n).map fun (k:Nat)=>.int (lo+(k:Int))
theorem a8P {K:qB} {G:Hp} (lo:Int) (n:Nat):Walk K (Itr lo n) G (mD lo n):=by
 intro i G' H' s1 s2
 unfold mD
 refine ⟨fun d e=>?_,fun hl=>by rw [qD,jm] at hl;exact hl⟩
 rw [qP] at e
 by_cases hi:i<n
 ·rw [kT hi] at e
  cases e
  refine ⟨hi,fun x H2 ⟨e1,e2⟩=>?_⟩
  subst e1 e2
  exact ⟨G',.refl s2,.int _⟩
 ·rw [qY (by simpa using hi)] at e
  cases e
section
variable {X:Cx} {tg iter a b:Expr} {ρ:List Ent} {ds:List PyData} {p pos:Pos}
theorem PI.imp {wi wi':TI} (h:PI X tg iter wi) (k:∀ σ H R,wi' σ H R→wi σ H R):PI X tg iter wi':=fun pins s σ H R I w=>h pins s σ H R I (k σ H R w)
theorem a9t (h:PD X iter ρ (.list ds)):PID X tg iter ρ ds:=⟨PI.imp (a2a h.pe) fun σ H R ⟨H0,G₀,G,S,q⟩=>⟨H0,G₀,G,S,fun v G1 H1 g1 r1=>by
 cases r1 with
 | list hq r=>exact ⟨_,rfl,⟨_,g1.sub.seq hq⟩,q _ _ _ g1 (a7c hq r)⟩⟩⟩
theorem b2d (h:PD X iter ρ (.tuple ds)):PID X tg iter ρ ds:=⟨PI.imp (b4F h.pe) fun σ H R ⟨H0,G₀,G,S,q⟩=>⟨H0,G₀,G,S,fun v G1 H1 g1 r1=>by
 cases r1 with
 | tuple hq r=>exact ⟨_,rfl,⟨_,gM g1.sub hq⟩,q _ _ _ g1 (a8O hq r)⟩⟩⟩
theorem a4H {n:Int} (hm:X.mg "range" = none) (ha:PD X a ρ (.int n)) (h1:-(2 ^ 62)≤n) (h2:n<2 ^ 62) (hs:starEach [a] X.env=[(false,eval a X.env)]:=by rfl) (hs':starEach [a] X.env=(false,eval a X.env)::starEach [] X.env:=by rfl) (hg:Gl X "range":=by rfl) :
  PID X tg (.Call (.Name "range" p) [a] [] pos) ρ (mD 0 n.toNat):=
 ⟨PI.imp (a7A hg hm (fE ha mE hs').pa hs) fun σ H R ⟨H0,G₀,G,S,q⟩=>⟨H0,G₀,G,S,fun vs G1 H1 g1 r1=>by
  cases r1 with
  | cons r rr=>
   cases rr
   cases r
   exact ⟨n,rfl,h1,h2,q _ _ _ g1 (a8P 0 n.toNat)⟩⟩⟩
end
def tGD (K:qB) (ρ:List Ent) (d:PyData) (ρ':List Ent):TG:=fun v σ H Q=>∃ H0 G₀ G,RepS K H0 G₀ G H σ ρ∧Rep K G v d∧∀ σ',RepS K H0 G₀ G H σ' ρ'→Q σ' H
def b7T (K:qB) (ρ:List Ent) (ds:List PyData) (ρ':List Ent):TGs:=fun vs σ H Q=>∃ H0 G₀ G,RepS K H0 G₀ G H σ ρ∧RepAll K G vs ds∧∀ σ',RepS K H0 G₀ G H σ' ρ'→Q σ' H
structure PGD (X:Cx) (tg:Expr) (ρ:List Ent) (d:PyData) (ρ':List Ent):Prop where
 run:PG X tg (tGD X.K ρ d ρ')
structure PGsD (X:Cx) (ts:List Expr) (ρ:List Ent) (ds:List PyData) (ρ':List Ent):Prop where
 run:PGs X ts (b7T X.K ρ ds ρ')
section
variable {X:Cx} {e:Expr} {es:List Expr} {ρ ρ1 ρ2:List Ent} {d:PyData} {ds:List PyData} {pos:Pos}
theorem xQ (i:Nat) {x:Str} (hN:X.N.Nodup) (hi:X.N[i]?=some x:=by rfl) (hx:Loc X.env.scope x:=by first | exact jx rfl | exact jX rfl) (hf:X.fn x=true∨X.env.scope.names.lookup x=some .local:=by first | exact .inl rfl | exact .inr rfl) :
  PGD X (.Name x pos) ρ d (ρ.set i (.val d)):=⟨fun pins s σ H v u Q I r ⟨H0,G₀,G,S,rv,q⟩=>b2g hN hi hx hf pins s σ H v u Q I r (q _ (S.set rv))⟩
theorem a3p:PGsD X [] ρ [] ρ:=⟨fun pins s σ H vs us Q I r ⟨H0,G₀,G,S,rv,q⟩=>by
 cases rv
 exact b2f pins s σ H [] us Q I r ⟨rfl,q σ S⟩⟩
theorem tM (h1:PGD X e ρ d ρ1) (h2:PGsD X es ρ1 ds ρ2) (hs:(assignEach (e::es) X.env).map (·.2)=assign e X.env::(assignEach es X.env).map (·.2):=by rfl):PGsD X (e::es) ρ (d::ds) ρ2:=⟨fun pins s σ H vs us Q I r ⟨H0,G₀,G,S,rv,q⟩=>by
 cases rv with
 | cons r1 r2=>exact a9v h1.run h2.run hs pins s σ H _ us Q I r ⟨_,_,rfl,H0,G₀,G,S,r1,fun σ' S'=>⟨H0,G₀,G,S',r2,q⟩⟩⟩
theorem a2b {k:Nat} (hc:X.calm=true) (h:PGsD X es ρ ds ρ1) (hn:(assignEach es X.env).length=ds.length:=by rfl) (hst:(assignEach es X.env).findIdx? (·.1)=none:=by rfl):PGD X (.Tuple es k pos) ρ (.tuple ds) ρ1:=⟨fun pins s σ H v u Q I r ⟨H0,G₀,G,S,rv,q⟩=>by
 cases rv with
 | tuple hq rr=>exact b4G hc h.run hn hst pins s σ H _ u Q I r ⟨_,_,rfl,gM S.sub hq,rr.length,H0,G₀,G,S,rr,q⟩⟩
end
inductive Out where
 | nx (ρ:List Ent)
 | rt (d:PyData)
 | bk (ρ:List Ent)
 | ct (ρ:List Ent)
def b4b (K:qB) (H0 G₀ G:Hp) (D:Ends):Out→Prop
 | .nx ρ=>∀ G' H' σ',bH G G'→RepS K H0 G₀ G' H' σ' ρ→D.nx σ' H'
 | .rt d=>∀ v G' H',bH G G'→Grow G₀ H0 G' H'→Rep K G' v d→D.rt v H'
 | .bk ρ=>∀ G' H' σ',bH G G'→RepS K H0 G₀ G' H' σ' ρ→D.bk σ' H'
 | .ct ρ=>∀ G' H' σ',bH G G'→RepS K H0 G₀ G' H' σ' ρ→D.ct σ' H'
def tSD (K:qB) (ρ:List Ent) (o:Out):TS:=fun D σ H=>∃ H0 G₀ G,RepS K H0 G₀ G H σ ρ∧b4b K H0 G₀ G D o
structure PSD (X:Cx) (st:Stmt) (ρ:List Ent) (o:Out):Prop where
 run:PS X st (tSD X.K ρ o)
inductive Weak:List Ent→List Ent→Prop
 | nil:Weak [] []
 | keep {e:Ent} {a b:List Ent}:Weak a b→Weak (e::a) (e::b)
 | no {e:Ent} {a b:List Ent}:Weak a b→Weak (e::a) (.no::b)
theorem Weak.refl:∀ ρ:List Ent,Weak ρ ρ
 | []=>.nil
 | _::r=>.keep (Weak.refl r)
theorem Weak.at:∀ {a b:List Ent} {i:Nat} {e:Ent},Weak a b→b[i]?=some e→e=.no∨a[i]?=some e
 | _,_,_,_,.nil,h=>by simp at h
 | _,_,0,e,.keep _,h=>.inr (by simpa using h)
 | _,_,0,e,.no _,h=>.inl (by simpa using h.symm)
 | _,_,i+1,e,.keep w,h=>by
  rcases Weak.at (i:=i) w (by simpa using h) with z | z
  ·exact .inl z
  ·exact .inr (by simpa using z)
 | _,_,i+1,e,.no w,h=>by
  rcases Weak.at (i:=i) w (by simpa using h) with z | z
  ·exact .inl z
  ·exact .inr (by simpa using z)
theorem Weak.length:∀ {a b:List Ent},Weak a b→a.length=b.length
 | _,_,.nil=>rfl
 | _,_,.keep w=>by simp [Weak.length w]
 | _,_,.no w=>by simp [Weak.length w]
theorem RepS.weak {K:qB} {H0 G₀ G H:Hp} {σ:St} {ρ ρ':List Ent} (R:RepS K H0 G₀ G H σ ρ) (w:Weak ρ ρ'):RepS K H0 G₀ G H σ ρ':=by
 refine ⟨R.grow,R.len.trans w.length,fun i o e h1 h2=>?_,R.inj.sub fun i e h1 h2=>?_,R.tab⟩
 ·rcases w.at h2 with z | z
  ·subst z;trivial
  ·exact R.ent i o e h1 z
 ·rcases w.at h1 with z | z
  ·subst z;cases h2
  ·exact ⟨z,rfl⟩
section
variable {X:Cx} {st:Stmt} {rest:List Stmt} {ρ ρ1 ρ2:List Ent} {o:Out} {e c:Expr} {d:PyData} {ds:List PyData} {pos:Pos}
theorem PSD.of {t:TS} (h:PS X st t) (k:∀ H0 G₀ G σ H D,RepS X.K H0 G₀ G H σ ρ→b4b X.K H0 G₀ G D o→t D σ H):PSD X st ρ o:=⟨fun pins s σ H D I ⟨H0,G₀,G,S,q⟩=>h pins s σ H D I (k H0 G₀ G σ H D S q)⟩
end
def dX (cap:List (Option Nat)) (ρ:List Ent):List Ent:=cap.map fun o=>match o with
 | some j=>(match ρ[j]? with | some (.val d)=>.val d | _=>.no)
 | none=>.no
theorem a1z (cap:List (Option Nat)) (ρ:List Ent):∀ (i:Nat) (e:Ent),(dX cap ρ)[i]?=some e→a6v e=false:=fun i e h=>by
 unfold dX at h
 rw [qP] at h
 cases hc:cap[i]? with
 | none=>rw [hc] at h;cases h
 | some c=>
  rw [hc] at h
  cases c with
  | none=>cases h;rfl
  | some j=>
   have h2:(match ρ[j]? with | some (Ent.val d)=>Ent.val d | _=>Ent.no)=e:=qA h
   cases hr:ρ[j]? with
   | none=>rw [hr] at h2;subst h2;rfl
   | some q=>rw [hr] at h2;cases q<;>(subst h2;rfl)
theorem RepS.cap {K:qB} {H0 G₀ G H:Hp} {σ:St} {ρ:List Ent} (R:RepS K H0 G₀ G H σ ρ) (cap:List (Option Nat)):RepS K H G G H (fM cap σ) (dX cap ρ):=by
 refine ⟨.refl R.sub,by simp [fM,dX],fun i o e h1 h2=>?_,Inj.free (a1z cap ρ),R.tab⟩
 ·unfold fM at h1
  unfold dX at h2
  rw [qP] at h1 h2
  cases hc:cap[i]? with
  | none=>rw [hc] at h1;cases h1
  | some c=>
   rw [hc] at h1 h2
   cases c with
   | none=>cases h2;trivial
   | some j=>
    have h1:(σ[j]?).getD none=o:=qA h1
    have h2:(match ρ[j]? with | some (Ent.val d)=>Ent.val d | _=>Ent.no)=e:=qA h2
    cases hr:ρ[j]? with
    | none=>rw [hr] at h2;subst h2;trivial
    | some q=>
     rw [hr] at h2
     cases q with
     | no=>subst h2;trivial
     | lst ds=>subst h2;trivial
     | exc c=>subst h2;trivial
     | nst dss=>subst h2;trivial
     | dct kvs=>subst h2;trivial
     | val d=>
      subst h2
      obtain ⟨v,e,r⟩:=R.val hr
      rw [e] at h1
      subst h1
      exact ⟨v,rfl,r⟩
section
variable {X:Cx} {elt iter tg:Expr} {ifs:List Expr} {scope:Scope} {pos spos:Pos} {N':List Str} {cap:List (Option Nat)} {ρ ρb:List Ent} {α:Type} {xs:List α} {φ f:α→PyData} {cnd:α→Bool} {ρx:α→List Ent}
structure PTsD (X:Cx) (ifs:List Expr) (ρ:List Ent) (b:Bool):Prop where
 run:PTs X ifs (tTD X ρ b)
theorem a9m:PTsD X [] ρ true:=⟨fun pins s σ H Q I ⟨H0,G₀,G,R,q⟩=>b1W pins s σ H Q I (q G H (.refl R.sub))⟩
theorem a9l {c:Expr} {t:Bool} (h:PTD X c ρ t):PTsD X [c] ρ t:=⟨b1V h.pt⟩
def gU (K:qB) (xs:List α) (φ:α→PyData) (ρb:List Ent) (ρx:α→List Ent):TG:=fun v σ H Q=>∃ x∈xs,tGD K ρb (φ x) (ρx x) v σ H Q
def tU (K:qB) (xs:List α) (ρx:α→List Ent) (cnd:α→Bool):TT:=fun σ H Q=>∃ x∈xs,∃ H0 G₀ G,RepS K H0 G₀ G H σ (ρx x)∧∀ G' H',Grow G H G' H'→Q (cnd x) H'
def eU (K:qB) (xs:List α) (ρx:α→List Ent) (cnd:α→Bool) (f:α→PyData):TE:=fun σ H Q=>∃ x∈xs,cnd x=true∧∃ H0 G₀ G,RepS K H0 G₀ G H σ (ρx x)∧∀ v G' H',Grow G H G' H'→Rep K G' v (f x)→Q v H'
def eUF (K:qB) (xs:List α) (ρx:α→List Ent) (cnd:α→Bool) (f:α→PyData) (H0 G₀:Hp):TE:=fun σ H Q=>∃ x∈xs,cnd x=true∧∃ G,RepS K H0 G₀ G H σ (ρx x)∧∀ v G' H',Grow G H G' H'→Rep K G' v (f x)→Q v H'
theorem a8V {J:It} {g:TG} {tc:TT} {te te':TE} {σ₀:St} {H:Hp} {Q:VK} (h:∀ σ H Q,te σ H Q→te' σ H Q) (hg:∀ x σ H Q Q',(∀ σ H,Q σ H→Q' σ H)→g x σ H Q→g x σ H Q') (ht:∀ σ H Q Q',(∀ b H,Q b H→Q' b H)→tc σ H Q→tc σ H Q') (t:wG J g tc te σ₀ H Q):wG J g tc te' σ₀ H Q:=by
 obtain ⟨W,hW⟩:=t
 refine ⟨W,fun D hD=>⟨(hW D hD).1,fun i m ys σ1 H1 w h1=>?_⟩⟩
 rcases (hW D hD).2 i m ys σ1 H1 w h1 with z | ⟨go,z⟩
 ·exact .inl z
 ·refine .inr ⟨go,fun x H2 y=>hg _ _ _ _ _ (fun σ3 H3 q3=>ht _ _ _ _ (fun b H4 q4=>?_) q3) (z x H2 y)⟩
  cases b with
  | true=>rw [if_pos rfl] at q4 ⊢;exact h _ _ _ q4
  | false=>rw [if_neg (by decide)] at q4 ⊢;exact q4
theorem b4p {K:qB} {J:It} {H0 G₀ G H:Hp} {σ:St} {Q:VK} (R:RepS K H0 G₀ G H σ ρ) (wk:Walk K J G (xs.map φ)) (hb:Weak (dX cap ρ) ρb) (hw:∀ x∈xs,Weak (ρx x) ρb) (hz:xs.length≤sizeLine)
  (q:∀ D ys G' H',Grow G H G' H'→G' D=some (.lst ys)→H D=none→RepAll K G' ys ((xs.filter cnd).map f)→Q (.ref D) H'):wG J (gU K xs φ ρb ρx) (tU K xs ρx cnd) (eUF K xs ρx cnd f H G) (fM cap σ) H Q:=by
 refine ⟨fun D i m ys σ' H'=>m=xs.length - i∧i≤xs.length∧∃ G',RepS K H G G' H' σ' ρb∧G' D=none∧RepAll K G' ys (((xs.take i).filter cnd).map f),fun D hD=>⟨⟨xs.length,by simp,jn _,G,?_,R.sub.free hD,by simpa using RepAll.nil⟩,?_⟩⟩
 ·exact ((R.cap cap).more (.side R.sub hD)).weak hb
 ·rintro i m ys σ1 H1 ⟨rfl,hi,G1,R1,hG1,ra⟩ hD1
  obtain ⟨wgo,wstop⟩:=wk i G1 H1 R1.grow.gg R1.sub
  by_cases hlt:i<xs.length
  ·have hx:xs[i]?=some xs[i]:=qM hlt
   have hm:xs[i]∈xs:=jM hlt
   obtain ⟨go,yl⟩:=wgo (φ xs[i]) (by rw [qP,hx];rfl)
   have tk:(xs.take (i+1)).filter cnd=(xs.take i).filter cnd++(if cnd xs[i]=true then [xs[i]] else []):=by
    rw [List.take_succ,hx,List.filter_append]
    cases hcx:cnd xs[i]<;>simp [hcx]
   refine .inr ⟨go,fun x H2 y=>?_⟩
   obtain ⟨G2,g2,rx⟩:=yl x H2 y
   refine ⟨xs[i],hm,H,G,G2,R1.more g2,rx,fun σ3 R3=>⟨xs[i],hm,H,G,G2,R3,fun G4 H4 g4=>?_⟩⟩
   have g14:=g2.trans g4
   have hD4:H4 D=some (.lst ys):=g14.hh.lst hD1
   have hG4:G4 D=none:=g14.new D hG1 (by rw [hD1];simp)
   dsimp only
   by_cases hcx:cnd xs[i]=true
   ·rw [if_pos hcx]
    refine ⟨xs[i],hm,hcx,G4,R3.more g4,fun v G5 H5 g5 rv=>?_⟩
    have hD5:H5 D=some (.lst ys):=g5.hh.lst hD4
    have hG5:G5 D=none:=g5.new D hG4 (by rw [hD4];simp)
    have hlen:ys.length<sizeLine:=by
     have h1:=ra.length
     have h2:(((xs.take i).filter cnd).map f).length≤i:=by
      rw [qD]
      exact ql (kJ _ _) (by rw [ji];omega)
     omega
    refine ⟨hD5,hlen,xs.length - (i+1),by omega,rfl,hlt,G5,?_,hG5,?_⟩
    ·have R5:RepS K H G G5 H5 σ3 ρb:=((R3.more g4).more g5).weak (hw _ hm)
     -- the list at D has one item more;nothing else speaks of D
     have noOwn:∀ (j:Nat) (e:Ent),ρb[j]?=some e→a6v e=false:=fun j e h2=>by
      rcases hb.at h2 with z' | z'
      ·rw [z'];rfl
      ·exact a1z cap ρ j e z'
     have hHD:H D=none:=hD
     refine ⟨⟨R5.grow.gg,R5.grow.hh.wr hHD hD5,fun b o e=>?_,R5.grow.new,R5.grow.nt⟩,R5.len,fun j o e h1 h2=>?_,Inj.free (fun j e h2=>noOwn j e h2),R5.tab.wr hD5⟩
     ·rw [aH (aW e hG5)];exact R5.sub b o e
     ·have E:=R5.ent j o e h1 h2
      cases e with
      | no=>trivial
      | val d=>exact E
      | exc c=>obtain ⟨b,C,z,g1,g2⟩:=E;exact ⟨b,C,z,g1,by rw [aH (eV g2 hD5 (by unfold xcO;nofun))];exact g2⟩
      | lst es=>have:=noOwn j _ h2;cases this
      | nst dss=>have:=noOwn j _ h2;cases this
      | dct kvs=>have:=noOwn j _ h2;cases this
    ·rw [tk,if_pos hcx,qj]
     exact (ra.mono ((g14.trans g5).gg)).append (.cons rv .nil)
   ·rw [if_neg hcx]
    refine ⟨hD4,xs.length - (i+1),by omega,rfl,hlt,G4,(R3.more g4).weak (hw _ hm),hG4,?_⟩
    rw [tk,if_neg hcx,kM]
    exact ra.mono g14.gg
  ·refine .inl ⟨wstop (by rw [qD];omega),?_⟩
   have hi':i=xs.length:=by omega
   subst hi'
   rw [wB] at ra
   have sD:bH G1 (upd G1 D (.lst ys)):=bJ hG1
   refine q D ys (upd G1 D (.lst ys)) H1 ⟨R1.grow.gg.trans sD,R1.grow.hh,fun b o e=>?_,fun b e n=>?_,fun n=>(R1.grow.nt n).upd (by nofun)⟩ aL hD (ra.mono sD)
   ·by_cases hbD:b=D
    ·subst hbD;rw [aL] at e;cases e;exact hD1
    ·rw [aH hbD] at e;exact R1.sub b o e
   ·rw [aH (fun z=>n (by rw [z];exact hD))]
    exact R1.grow.new b e n
theorem a7f {K:qB} {J:It} {H0 G₀ G H:Hp} {σ:St} {Q:VK} (R:RepS K H0 G₀ G H σ ρ) (wk:Walk K J G (xs.map φ)) (hb:Weak (dX cap ρ) ρb) (hw:∀ x∈xs,Weak (ρx x) ρb) (hz:xs.length≤sizeLine)
  (q:∀ D ys G' H',Grow G H G' H'→G' D=some (.lst ys)→H D=none→RepAll K G' ys ((xs.filter cnd).map f)→Q (.ref D) H'):wG J (gU K xs φ ρb ρx) (tU K xs ρx cnd) (eU K xs ρx cnd f) (fM cap σ) H Q:=
 a8V (t:=b4p R wk hb hw hz q) (fun σ H' Q' ⟨x,hx,hc,G',R',q'⟩=>⟨x,hx,hc,H,G,G',R',q'⟩) (fun v σ H' Q1 Q2 h ⟨x,hx,H1,G1,G2,R2,r2,q2⟩=>⟨x,hx,H1,G1,G2,R2,r2,fun σ3 R3=>h _ _ (q2 σ3 R3)⟩)
  fun σ H' Q1 Q2 h ⟨x,hx,H1,G1,G2,R2,q2⟩=>⟨x,hx,H1,G1,G2,R2,fun G4 H4 g4=>h _ _ (q2 G4 H4 g4)⟩
theorem a2Z {K:qB} {J:It} {H0 G₀ G H:Hp} {σ:St} {Q:VK} (R:RepS K H0 G₀ G H σ ρ) (wk:Walk K J G (xs.map φ)) (hb:Weak (dX cap ρ) ρb) (hw:∀ x∈xs,Weak (ρx x) ρb) (hz:xs.length≤sizeLine)
  (q:∀ v G' H',Grow G H G' H'→Rep K G' v (.list ((xs.filter cnd).map f))→Q v H'):wG J (gU K xs φ ρb ρx) (tU K xs ρx cnd) (eU K xs ρx cnd f) (fM cap σ) H Q:=
 a7f R wk hb hw hz fun D ys G' H' g h _ ra=>q _ G' H' g (.list (.of h) ra)
theorem b2k (hc:X.calm=true) (B:Blk X scope N' cap) (hi:PID X tg iter ρ (xs.map φ)) (hb:Weak (dX cap ρ) ρb) (hw:∀ x∈xs,Weak (ρx x) ρb) (hz:xs.length≤sizeLine)
  (hg:∀ C s₃ H₃ fp x,x∈xs→PGD (cF X scope N' C s₃ H₃ fp) tg ρb (φ x) (ρx x))
  (ht:∀ C s₃ H₃ fp x,x∈xs→PTsD (cF X scope N' C s₃ H₃ fp) ifs (ρx x) (cnd x))
  (he:∀ C s₃ H₃ fp x,x∈xs→cnd x=true→PD (cF X scope N' C s₃ H₃ fp) elt (ρx x) (f x))
  (hs:∀ x,foldedSetIterable iter X.env x=pure x:=by intro _;rfl):PD X (.ListComp elt [⟨tg,iter,ifs,0⟩] scope pos) ρ (.list ((xs.filter cnd).map f)):=
 .of (a6d (g:=gU X.K xs φ ρb ρx) (tc:=tU X.K xs ρx cnd) (te:=eU X.K xs ρx cnd f) hc B hi.run (fun C s₃ H₃ fp pins s σ H v u Q I r ⟨x,hx,q⟩=>(hg C s₃ H₃ fp x hx).run pins s σ H v u Q I r q)
  (fun C s₃ H₃ fp pins s σ H Q I ⟨x,hx,q⟩=>(ht C s₃ H₃ fp x hx).run pins s σ H Q I q) (fun C s₃ H₃ fp pins s σ H Q I ⟨x,hx,hcx,H0,G₀,G,R,q⟩=>(he C s₃ H₃ fp x hx hcx).run H0 G₀ G pins s σ H Q I R q) hs)
  fun H0 G₀ G σ H Q R q=>⟨H0,G₀,G,R,fun J G' H' g wk=>a2Z (R.more g) wk hb hw hz fun v G2 H2 g2 r2=>q v G2 H2 (g.trans g2) r2⟩
theorem a9q (i:Nat) {x:Str} {p:Pos} (hN:X.N.Nodup) (hc:X.calm=true) (B:Blk X scope N' cap) (hi:PID X tg iter ρ (xs.map φ)) (hb:Weak (dX cap ρ) ρb) (hw:∀ x∈xs,Weak (ρx x) ρb) (hz:xs.length≤sizeLine)
  (hg:∀ C s₃ H₃ fp x,x∈xs→PGD (cF X scope N' C s₃ H₃ fp) tg ρb (φ x) (ρx x))
  (ht:∀ C s₃ H₃ fp x,x∈xs→PTsD (cF X scope N' C s₃ H₃ fp) ifs (ρx x) (cnd x))
  (he:∀ C s₃ H₃ fp x,x∈xs→cnd x=true→PD (cF X scope N' C s₃ H₃ fp) elt (ρx x) (f x))
  (hxi:X.N[i]?=some x:=by rfl) (hx:X.env.scope.names.lookup x=some .local:=by rfl)
  (hsw:swapsWith (.ListComp elt [⟨tg,iter,ifs,0⟩] scope pos) (some (.Name x p)) spos.line X.env=pure true:=by rfl)
  (hs:∀ x,foldedSetIterable iter X.env x=pure x:=by intro _;rfl):PSD X (.Assign [.Name x p] (.ListComp elt [⟨tg,iter,ifs,0⟩] scope pos) spos) ρ (.nx (ρ.set i (.val (.list ((xs.filter cnd).map f))))):=
 .of (a6a (g:=gU X.K xs φ ρb ρx) (tc:=tU X.K xs ρx cnd) (te:=eU X.K xs ρx cnd f) hN hxi hx hc B hi.run (fun C s₃ H₃ fp pins s σ H v u Q I r ⟨x,hx,q⟩=>(hg C s₃ H₃ fp x hx).run pins s σ H v u Q I r q)
  (fun C s₃ H₃ fp pins s σ H Q I ⟨x,hx,q⟩=>(ht C s₃ H₃ fp x hx).run pins s σ H Q I q) (fun C s₃ H₃ fp pins s σ H Q I ⟨x,hx,hcx,H0,G₀,G,R,q⟩=>(he C s₃ H₃ fp x hx hcx).run H0 G₀ G pins s σ H Q I R q) hsw hs)
  fun H0 G₀ G σ H D R q=>⟨H0,G₀,G,R,fun J G' H' g wk=>a2Z (R.more g) wk hb hw hz fun v G2 H2 g2 r2=>q G2 H2 _ (g.gg.trans g2.gg) (((R.more g).more g2).set r2)⟩
end
def gF (N:List Str) (ds:List PyData):List Ent:=ds.map .val++zH (N.length - ds.length) .no
theorem fP {K:qB} {G H:Hp} {N:List Str} {vs:List V} {ds:List PyData} (s:bH G H∧lN K G H) (r:RepAll K G vs ds):RepS K H G G H (start N vs) (gF N ds):=by
 have hl:=r.length
 refine ⟨.refl s.1,by simp [start,gF,hl],fun i o e h1 h2=>?_,Inj.free (fun i e h2=>?_),s.2⟩
 ·unfold gF at h2
  unfold start at h1
  by_cases hi:i<ds.length
  ·rw [jL (by simpa using hi),qP] at h2
   rw [jL (by simp;omega),qP] at h1
   rw [qM hi] at h2
   obtain ⟨v,ev,rv⟩:=r.get (qM hi)
   rw [ev] at h1
   cases h1;cases h2
   exact ⟨v,rfl,rv⟩
  ·rw [jW (by simpa using hi),kC] at h2
   split at h2
   ·cases h2;trivial
   ·cases h2
 ·unfold gF at h2
  by_cases hi:i<ds.length
  ·rw [jL (by simpa using hi),qP,qM hi] at h2
   cases h2;rfl
  ·rw [jW (by simpa using hi),kC] at h2
   split at h2
   ·cases h2;rfl
   ·cases h2
section
variable {P:Program} {w:World} {K:qB} {mg:Str→Option Value} {base:Heap}
abbrev fcx (P:Program) (w:World) (K:qB) (mg:Str→Option Value) (base:Heap) (N:List Str) (qual:Str) (scope:Scope) (f:Addr) (cd:Value) (A:Around) (outer:List Env) (s:Shared) (H:Hp) (E:XK):Cx:=(wK CX0 P w K mg base N qual scope f cd A outer s H E).nox
end
end L2.L3
namespace L2.L3
open PySem PySem.Spec PyProof.Rows
section
variable {prog:Program} {w:World} {A:Around} {E:Value→Shared→Prop} {s:Shared} {l:Addr} {us:List Value} {ns:List Int} {Q:Value→Shared→Prop}
theorem yE (hi:IntsAre us ns):∃ xs:Array (Int×Tok),us.toArray=intItems xs∧ns=xs.toList.map (·.1):=by
 obtain ⟨xs,e⟩:=hi.allInts.items
 exact ⟨xs,e,by rw [←hi.numsOf,←nums_intItems,←e]⟩
theorem b2y (hh:A.handled=none) (hl:s.heap.IsList l us.toArray) (hi:IntsAre us ns) (hne:ns≠[])
  (h:∀ h' M t tk,(∀ b o,s.heap.get? b=some o→h'.get? b=some o)→M∈ns→(∀ a,a∈ns→a≤M)→Q (.int M t) { s with heap:=h',toks:=tk }) :
  wpAny (model prog w) A (call (.builtin "max") [.ref l]) Q E s:=by
 obtain ⟨xs,e,hns⟩:=yE hi
 have hpos:0<xs.size:=by
  cases hx:ns with
  | nil=>exact absurd hx hne
  | cons a r=>
   have:ns.length=xs.size:=by rw [hns];simp
   rw [←this,hx];simp
 rw [e] at hl
 refine max_intList hh hl hpos fun v h' tk hv kp=>?_
 obtain ⟨t,rfl⟩:=intItems_at hv
 have best:=argBest_gt (numAt xs) (xs.size - 1)
 refine h h' _ t tk kp ?_ fun a ha=>?_
 ·rw [hns,numAt_eq]
  exact getD_mem (by rw [qD,qO];have:=best.1;omega)
 ·rw [hns] at ha
  obtain ⟨j,hj,rfl⟩:=mem_getD ha
  rw [qD,qO] at hj
  rw [←numAt_eq]
  exact best.2 j (by omega)
theorem b2A (hh:A.handled=none) (hl:s.heap.IsList l us.toArray) (hi:IntsAre us ns) (hne:ns≠[])
  (h:∀ h' M t tk,(∀ b o,s.heap.get? b=some o→h'.get? b=some o)→M∈ns→(∀ a,a∈ns→M≤a)→Q (.int M t) { s with heap:=h',toks:=tk }) :
  wpAny (model prog w) A (call (.builtin "min") [.ref l]) Q E s:=by
 obtain ⟨xs,e,hns⟩:=yE hi
 have hpos:0<xs.size:=by
  cases hx:ns with
  | nil=>exact absurd hx hne
  | cons a r=>
   have:ns.length=xs.size:=by rw [hns];simp
   rw [←this,hx];simp
 rw [e] at hl
 refine min_intList hh hl hpos fun v h' tk hv kp=>?_
 obtain ⟨t,rfl⟩:=intItems_at hv
 have best:=argBest_lt (numAt xs) (xs.size - 1)
 refine h h' _ t tk kp ?_ fun a ha=>?_
 ·rw [hns,numAt_eq]
  exact getD_mem (by rw [qD,qO];have:=best.1;omega)
 ·rw [hns] at ha
  obtain ⟨j,hj,rfl⟩:=mem_getD ha
  rw [qD,qO] at hj
  rw [←numAt_eq]
  exact best.2 j (by omega)
theorem b1M (hh:A.handled=none) (hl:s.heap.IsList l us.toArray) (hi:IntsAre us ns)
  (h:∀ h' t tk,(∀ b o,s.heap.get? b=some o→h'.get? b=some o)→Q (.int ns.sum t) { s with heap:=h',toks:=tk }) :
  wpAny (model prog w) A (call (.builtin "sum") [.ref l]) Q E s:=by
 obtain ⟨xs,e,hns⟩:=yE hi
 rw [e] at hl
 refine sum_intListG hh hl fun h' tk t' kp=>?_
 have z:=h h' t' tk kp
 rw [hns] at z
 rw [preSum_eq,kl (by simp)]
 exact z
end
section
variable {X:Cx}
theorem a8o (hc:X.calm=true):dU X (.builtin "max") (fun xs H Q=>∃ p ns,xs=[.ref p]∧SqL X.K H p (ns.map V.int)∧ns≠[]∧∀ M,M∈ns→(∀ a,a∈ns→a≤M)→Q (.int M) H):=by
 intro pins s σ H xs us Q I r ⟨p,ns,e,hq,hne,q⟩
 subst e
 obtain ⟨u,rfl,rx⟩:=vals1 r
 cases rx
 obtain ⟨its,rv,pl,hz⟩:=I.list hq
 exact b2y (I.ok.hd hc) pl.isList (intsAre_of rv) hne fun h' M t tk kp m1 m2=>⟨.int M,H,I.kept kp,⟨t,rfl⟩,q M m1 m2⟩
theorem a8m (hc:X.calm=true):dU X (.builtin "min") (fun xs H Q=>∃ p ns,xs=[.ref p]∧SqL X.K H p (ns.map V.int)∧ns≠[]∧∀ M,M∈ns→(∀ a,a∈ns→M≤a)→Q (.int M) H):=by
 intro pins s σ H xs us Q I r ⟨p,ns,e,hq,hne,q⟩
 subst e
 obtain ⟨u,rfl,rx⟩:=vals1 r
 cases rx
 obtain ⟨its,rv,pl,hz⟩:=I.list hq
 exact b2A (I.ok.hd hc) pl.isList (intsAre_of rv) hne fun h' M t tk kp m1 m2=>⟨.int M,H,I.kept kp,⟨t,rfl⟩,q M m1 m2⟩
theorem a8l (hc:X.calm=true):dU X (.builtin "sum") (fun xs H Q=>∃ (p:Addr) (ns:List Int),xs=[.ref p]∧SqL X.K H p (ns.map V.int)∧Q (.int ns.sum) H):=by
 intro pins s σ H xs us Q I r ⟨p,ns,e,hq,q⟩
 subst e
 obtain ⟨u,rfl,rx⟩:=vals1 r
 cases rx
 obtain ⟨its,rv,pl,hz⟩:=I.list hq
 exact b1M (I.ok.hd hc) pl.isList (intsAre_of rv) fun h' t tk kp=>⟨.int ns.sum,H,I.kept kp,⟨t,rfl⟩,q⟩
variable {e a b c:Expr} {es:List Expr} {ρ:List Ent} {d:PyData} {ds:List PyData} {pos p:Pos}
def b5j:List Int→Int
 | []=>0
 | a::r=>r.foldl max a
def b5i:List Int→Int
 | []=>0
 | a::r=>r.foldl min a
theorem rZ:∀ (r:List Int) (a:Int),a≤r.foldl max a∧∀ b∈r,b≤r.foldl max a
 | [],a=>⟨jo _,fun _ h=>by cases h⟩
 | x::r,a=>by
  have ih:=rZ r (max a x)
  rw [jG]
  refine ⟨by have:=ih.1;omega,fun b hb=>?_⟩
  rcases qF.mp hb with rfl | hb
  ·have:=ih.1;omega
  ·exact ih.2 b hb
theorem oS:∀ (r:List Int) (a:Int),r.foldl max a=a∨r.foldl max a∈r
 | [],a=>.inl rfl
 | x::r,a=>by
  rw [jG]
  rcases oS r (max a x) with h | h
  ·by_cases hx:a≤x
   ·right;rw [h];simp [Int.max_def,hx]
   ·left;rw [h];simp [Int.max_def,hx]
  ·exact .inr (qE _ h)
theorem b2D {ns:List Int} {M:Int} (h1:M∈ns) (h2:∀ a,a∈ns→a≤M):M=b5j ns:=by
 cases ns with
 | nil=>cases h1
 | cons a r=>
  show M=r.foldl max a
  have g:=rZ r a
  have m:=oS r a
  apply Int.le_antisymm
  ·rcases qF.mp h1 with rfl | h1
   ·exact g.1
   ·exact g.2 M h1
  ·rcases m with m | m
   ·rw [m];exact h2 a qT
   ·exact h2 _ (qE _ m)
theorem rY:∀ (r:List Int) (a:Int),r.foldl min a≤a∧∀ b∈r,r.foldl min a≤b
 | [],a=>⟨jo _,fun _ h=>by cases h⟩
 | x::r,a=>by
  have ih:=rY r (min a x)
  rw [jG]
  refine ⟨by have:=ih.1;omega,fun b hb=>?_⟩
  rcases qF.mp hb with rfl | hb
  ·have:=ih.1;omega
  ·exact ih.2 b hb
theorem oR:∀ (r:List Int) (a:Int),r.foldl min a=a∨r.foldl min a∈r
 | [],a=>.inl rfl
 | x::r,a=>by
  rw [jG]
  rcases oR r (min a x) with h | h
  ·by_cases hx:a≤x
   ·left;rw [h];simp [Int.min_def,hx]
   ·right;rw [h];simp [Int.min_def,hx]
  ·exact .inr (qE _ h)
theorem b2B {ns:List Int} {M:Int} (h1:M∈ns) (h2:∀ a,a∈ns→M≤a):M=b5i ns:=by
 cases ns with
 | nil=>cases h1
 | cons a r=>
  show M=r.foldl min a
  have g:=rY r a
  have m:=oR r a
  apply Int.le_antisymm
  ·rcases m with m | m
   ·rw [m];exact h2 a qT
   ·exact h2 _ (qE _ m)
  ·rcases qF.mp h1 with rfl | h1
   ·exact g.1
   ·exact g.2 M h1
def b6L (K:qB):R2:=fun x y H Q=>∃ l b xs zs,x=.ref l∧y=.ref b∧SqL K H l xs∧SqL K H b zs∧xs.length+zs.length≤sizeLine∧∀ p,H p=none→Q (.ref p) (upd H p (.lst (xs++zs)))
end
end L2.L3
namespace L2.L3
open PySem PySem.Spec PyProof.Rows
def b4a (so:Scope) (NN:List Str) (scope:Scope) (N':List Str) (cap:List (Option Nat)):Bool:=
 decide (scope.kind=.function)&&scope.names.all (fun y=>decide (y.2=.cell→scope.names.lookup y.1=some .cell))&&scope.names.all (fun y=>decide (y.2=.local→scope.names.lookup y.1=some .local))
  && scope.names.all (fun y=>decide (y.2=.free→so.names.lookup y.1=some .cell))
  && (qd cap.length).all (fun i=>match cap[i]? with
   | some (some j)=>(match N'[i]?,NN[j]? with | some x,some y=>decide (x=y∧scope.names.lookup x=some .free) | _,_=>false)
   | _=>true)
  && decide (cap.length=N'.length)&&decide N'.Nodup
theorem bU {X:Cx} {scope so:Scope} {N' NN:List Str} {cap:List (Option Nat)} (hs:X.env.scope=so) (hN:X.N=NN) (h:b4a so NN scope N' cap=true):Blk X scope N' cap:=by
 unfold b4a at h
 simp only [qJ,decide_eq_true_eq,jN] at h
 obtain ⟨⟨⟨⟨⟨⟨h1,h2⟩,h3⟩,h4⟩,h5⟩,h6⟩,h7⟩:=h
 refine ⟨h1,h2,h3,fun y hy hk=>?_,fun i j hij=>?_,h6,h7⟩
 ·show X.env.scope.names.lookup y.1=some .cell
  rw [hs]
  exact h4 y hy hk
 ·have hi:i<cap.length:=(qS.mp hij).1
  have q:=h5 i (kS.mpr hi)
  rw [hij] at q
  dsimp only at q
  cases e1:N'[i]? with
  | none=>rw [e1] at q;cases q
  | some x=>
   rw [e1] at q
   cases e2:NN[j]? with
   | none=>rw [e2] at q;cases q
   | some y=>
    rw [e2] at q
    have q':x=y∧scope.names.lookup x=some .free:=of_decide_eq_true q
    exact ⟨x,rfl,by rw [hN,e2,q'.1],q'.2⟩
section
variable {X:Cx} {e a b c:Expr} {es:List Expr} {ρ:List Ent} {d da db dc:PyData} {ds:List PyData} {pos p:Pos}
end
abbrev Mt:=Str×Int×Int
abbrev dM (m:Mt):PyData:=.tuple [.str m.1,.int m.2.1,.int m.2.2]
abbrev dS (s:List Mt):PyData:=.tuple (s.map dM)
end L2.L3
namespace L2.L3
open PySem PySem.Spec PyProof.Rows
section
variable {prog:Program} {w:World} {A:Around} {R:Result→Shared→Prop} {I S:Addr} {fp wr:List Addr} {n:Nat} {P:Nat→Value→Prop} {St:Nat→Heap→Prop} {kw:List (Str×Value)}
end
end L2.L3
namespace L2.L3
open PySem PySem.Spec PyProof.Rows
section
variable {prog:Program} {w:World} {A:Around} {E:Value→Shared→Prop} {s:Shared} {l:Addr} {us:List Value} {ns:List Int} {Q:Value→Shared→Prop}
end
end L2.L3
namespace L2.L3
open PySem PySem.Spec PyProof.Rows
section
variable {X:Cx} {a b:Expr} {ρ:List Ent} {db:PyData} {pos p kp:Pos}
end
end L2.L3
namespace L2.L3
open PySem PySem.Spec PyProof.Rows
section
variable {X:Cx}
theorem a6g:OpR X (binaryOp .Add) (b6L X.K):=by
 intro pins s σ H x y v u Q I rx ry ⟨l,b,xs,zs,e1,e2,h1,h2,hz,q⟩
 subst e1 e2
 cases rx
 cases ry
 obtain ⟨its,r1,p1,_⟩:=I.list h1
 obtain ⟨its2,r2,p2,_⟩:=I.list h2
 obtain ⟨⟨c1,d1,t1,sl1⟩,n1,g1,k1,_,m1⟩:=p1
 obtain ⟨⟨c2,d2,t2,sl2⟩,n2,g2,k2,_,m2⟩:=p2
 dsimp only at k1 m1 k2 m2
 subst k1 m1 k2 m2
 have hz':its.toArray.size+its2.toArray.size≤sizeLine:=by rw [qL,qL,←r1.length,←r2.length];exact hz
 refine concat_meets ⟨_,g1,rfl⟩ ⟨_,g2,rfl⟩ noFill_list_add seq_list_add F.slot_list_add F.entry_list_add (F.args_list_add_2 _ _) (list_addW l b _ _ n1 n2 d1 d2 sl1 sl2 hz') ⟨g1,g2,?_⟩
 have ea:its.toArray++its2.toArray=(its++its2).toArray:=by simp
 rw [ea]
 exact ⟨.ref _,_,I.lnew (t':=s.toks) (r1.append r2) (by rw [jA];exact hz),rfl,q _ I.fresh⟩
def b6J (K:qB):R2:=fun x y H Q=>∃ l b xs zs,x=.ref l∧y=.ref b∧SqT K H l xs∧SqT K H b zs∧xs.length+zs.length≤sizeLine ∧
 (xs=[]→Q (.ref b) H)∧(xs≠[]→zs=[]→Q (.ref l) H)∧(xs≠[]→zs≠[]→∀ p,H p=none→Q (.ref p) (upd H p (.tup (xs++zs))))
theorem b2r:OpR X (binaryOp .Add) (b6J X.K):=by
 intro pins s σ H x y v u Q I rx ry ⟨l,b,xs,zs,e1,e2,h1,h2,hz,q0,q1,q2⟩
 by_cases hx:xs=[]
 ·subst e1 e2
  cases rx
  cases ry
  obtain ⟨its,r1,p1,_⟩:=I.tuple h1
  obtain ⟨its2,r2,p2,_⟩:=I.tuple h2
  obtain ⟨⟨c1,d1,t1,sl1⟩,g1,k1,n1,m1⟩:=p1
  obtain ⟨⟨c2,d2,t2,sl2⟩,g2,k2,n2,m2⟩:=p2
  dsimp only at k1 m1 k2 m2
  subst k1 m1 k2 m2
  have hi:its=[]:=by
   subst hx
   cases r1
   rfl
  refine concat_meets ⟨_,g1,rfl⟩ ⟨_,g2,rfl⟩ noFill_tuple_add seq_tuple_add F.slot_tuple_add F.entry_tuple_add (F.args_tuple_add_2 _ _) (tuple_addW0 l b _ _ n1 n2 d1 d2 sl1 sl2 (by rw [hi];rfl)) ⟨g1,g2,?_⟩
  exact ⟨.ref b,H,I,rfl,q0 hx⟩
 ·exact b2s pins s σ H x y v u Q I rx ry ⟨l,b,xs,zs,e1,e2,h1,h2,hx,hz,q1 hx,q2 hx⟩
variable {e a b c o:Expr} {es:List Expr} {ρ:List Ent} {d da db dc:PyData} {ds:List PyData} {pos p:Pos}
theorem a9D {T id:String} {name:Str} {r:V→List V→Hp→VK→Prop} {apos cpos:Pos} (pa:PlainAttrs T) (slot:Slot T name id) (hty:typeOf (.builtin id)=pure (.type "method_descriptor")) (hm:MtR X id r)
  (ho:PD X o ρ da) (ha:PAD X (e::es) ρ ds) (ht:∀ x G H,bH G H→Rep X.K G x da→tyV X.K T x H)
  (k:∀ x vs G H Q,bH G H→Rep X.K G x da→RepAll X.K G vs ds→(∀ v G' H',Grow G H G' H'→Rep X.K G' v d→Q v H')→r x vs H Q)
  (hbase:attributeBase o name X.env (eval o X.env)=eval o X.env:=by rfl)
  (hfew:((backTo cpos (starEach (e::es) X.env)).all (fun x=>!x.1)&&(backToKw cpos (keywordEach [] X.env)).all (fun x=>x.1.isSome)
   && decide ((e::es).length+([]:List Keyword).length+(if ([]:List Keyword).isEmpty then 0 else 1)<30))=true:=by rfl)
  (hline:(apos.endLine==cpos.line)=true:=by rfl) (hs:starEach (e::es) X.env=(false,eval e X.env)::starEach es X.env:=by rfl) (hplain:(backTo cpos (starEach es X.env)).any (·.1)=false:=by rfl) :
  PD X (.Call (.Attribute o name apos) (e::es) [] cpos) ρ d:=
 .of (a9B pa slot hty hm ho.pe ha.pa hbase hfew hline hs hplain) fun H0 G₀ G σ H Q R q=>⟨H0,G₀,G,R,fun x G1 H1 g1 r1=>⟨ht x G1 H1 g1.sub r1,H0,G₀,G1,R.more g1,fun vs G2 H2 g2 r2=>
  k x vs G2 H2 Q g2.sub (r1.mono g2.gg) r2 fun v G3 H3 g3 r3=>q v G3 H3 (g1.trans (g2.trans g3)) r3⟩⟩
theorem b3s {i j:Int}:CmpD X .Eq (.int i) (.int j) (decide (i=j)):=⟨_,a9H,fun x y G H Q _ rx ry q=>by cases rx;cases ry;exact ⟨rfl,by simpa using q⟩⟩
theorem b3o {i j:Int}:CmpD X .NotEq (.int i) (.int j) (!decide (i=j)):=⟨_,a9G,fun x y G H Q _ rx ry q=>by cases rx;cases ry;exact ⟨rfl,by simpa using q⟩⟩
theorem b3r {i j:Str}:CmpD X .Eq (.str i) (.str j) (decide (i=j)):=⟨_,a9H,fun x y G H Q _ rx ry q=>by cases rx;cases ry;exact ⟨rfl,by simpa using q⟩⟩
theorem b3n {i j:Str}:CmpD X .NotEq (.str i) (.str j) (!decide (i=j)):=⟨_,a9G,fun x y G H Q _ rx ry q=>by cases rx;cases ry;exact ⟨rfl,by simpa using q⟩⟩
theorem b3t {i j:Bool}:CmpD X .Eq (.bool i) (.bool j) (decide (i=j)):=⟨_,a9H,fun x y G H Q _ rx ry q=>by cases rx;cases ry;exact ⟨rfl,by simpa using q⟩⟩
theorem b3p {i j:Bool}:CmpD X .NotEq (.bool i) (.bool j) (!decide (i=j)):=⟨_,a9G,fun x y G H Q _ rx ry q=>by cases rx;cases ry;exact ⟨rfl,by simpa using q⟩⟩
end
end L2.L3
namespace L2.L3
open PySem PySem.Spec PyProof.Rows
structure Callee (P:Program) (w:World) (K:qB) (mg:Str→Option Value) (base:Heap) (x:Str) (k:Nat) (ps:List Str) (Fn:List PyData→PyData→Prop):Prop where
 ex:∃ f fd,mg x=some (.ref f)∧ju K (.ref f)=true∧Binds K fd ps []∧FnOk P w K mg base CX0 k f fd ps (spD K Fn)
structure Def (K:qB) (mg:Str→Option Value) (x:Str) (st:Stmt):Prop where
 ex:∃ f fd,Fun K x x st f fd∧mg x=some (.ref f)
theorem def_mk {K:qB} {h:Heap} {mg:Str→Option Value} {x:Str} {st:Stmt} {f:Addr} {oc:Value} {od an:Option Addr} {sl:Array (Option Value)} {kV doc pm cdv ct:Value} (X:K.In h) (G:h.Ns mainGlobals mg)
  (a:qp K mainGlobals x=some (some (.ref f))) (l:K.lookup f=some ⟨oc,od,.func (jd x x (fH st) (cA st) (aD st) .none kV doc pm an cdv ct),sl⟩) (c:zj K cdv x=true) (k:ju K (.ref f)=true) :
  Def K mg x st:=⟨f,_,b0I l c k,kP X G a⟩
section
variable {P:Program} {w:World} {K:qB} {mg:Str→Option Value} {base:Heap} {X:Cx} {e:Expr} {es:List Expr} {ρ:List Ent} {d:PyData} {ds:List PyData} {pos p:Pos} {x:Str} {k:Nat} {ps N:List Str} {Fn:List PyData→PyData→Prop}
end
theorem yN (a b:List PyData):jC (.list a) (.list b)=qw a b:=by rw [jC]
theorem a1t (a b:List PyData):jC (.tuple a) (.tuple b)=qw a b:=by rw [jC]
theorem nV:∀ a b:List Str,qw (a.map .str) (b.map .str)=decide (a=b)
 | [],[]=>by simp [qw]
 | [],_::_=>by simp [qw]
 | _::_,[]=>by simp [qw]
 | x::a,y::b=>by
  have ih:=nV a b
  simp only [qG,qw,ih,jC]
  by_cases h:x=y
  ·subst h;by_cases h2:a=b<;>simp [h2]
  ·simp [h]
theorem a2x (a b:Mt):jC (dM a) (dM b)=decide (a=b):=by
 obtain ⟨a1,a2,a3⟩:=a
 obtain ⟨b1,b2,b3⟩:=b
 simp only [dM,jC,qw]
 by_cases h1:a1=b1<;>by_cases h2:a2=b2<;>by_cases h3:a3=b3<;>simp [h1,h2,h3]
theorem uE:∀ a b:List Mt,qw (a.map dM) (b.map dM)=decide (a=b)
 | [],[]=>by simp [qw]
 | [],_::_=>by simp [qw]
 | _::_,[]=>by simp [qw]
 | x::a,y::b=>by
  have ih:=uE a b
  rw [qG,qG,qw,ih,a2x]
  by_cases h:x=y
  ·subst h;by_cases h2:a=b<;>simp [h2]
  ·simp [h]
theorem sI {ds:List PyData} (h:∀ d∈ds,kA d=true):PyData.canLayAll0 ds=true:=by
 induction ds with
 | nil=>rfl
 | cons d r ih=>
  rw [PyData.canLayAll0,h d qT,ih fun e he=>h e (qE _ he)]
  rfl
theorem iS {ds:List PyData} {n:Nat} (h:∀ d∈ds,jb d≤n):zp ds≤n:=by
 induction ds with
 | nil=>simp [zp]
 | cons d r ih=>
  have h1:=h d qT
  have h2:=ih fun e he=>h e (qE _ he)
  simp only [zp]
  omega
theorem a0P {d:PyData} {n:Nat} (h1:kA d=true) (h2:jb d≤n) (h3:n≤64):qQ d=true:=by
 unfold qQ
 rw [h1,Bool.true_and]
 exact decide_eq_true (ql h2 h3)
end L2.L3
namespace L2.L3
open PySem PySem.Spec PyProof.Rows
section
variable {X:Cx} {e a b c o:Expr} {es:List Expr} {ρ:List Ent} {d da db dc:PyData} {ds:List PyData} {pos p p2:Pos}
def cutD (xs:List PyData) (lo hi:Option Int):List PyData:=(xs.drop (HT.sIx xs.length 0 lo)).take (HT.sIx xs.length xs.length hi - HT.sIx xs.length 0 lo)
theorem a3W {K:qB} {G:Hp} {xs:List V} (r:RepAll K G xs ds) (lo hi:Option Int):RepAll K G (a3V xs lo hi) (cutD ds lo hi):=by
 unfold a3V cutD
 rw [r.length]
 exact (r.drop _).take _
theorem a3F {ns:List Int} {i:Int}:inV (.int i) (ns.map V.int)=decide (i∈ns):=by
 unfold inV
 induction ns with
 | nil=>rfl
 | cons a r ih=>
  rw [qG,jk,ih]
  have e:eqV (.int a) (.int i)=decide (a=i):=rfl
  rw [e]
  by_cases h:a=i
  ·subst h;simp
  ·have h':¬i=a:=fun z=>h z.symm
   simp [h,h']
theorem a3E {ns:List Str} {i:Str}:inV (.str i) (ns.map V.str)=decide (i∈ns):=by
 unfold inV
 induction ns with
 | nil=>rfl
 | cons a r ih=>
  rw [qG,jk,ih]
  have e:eqV (.str a) (.str i)=(a==i):=rfl
  rw [e]
  by_cases h:a=i
  ·subst h;simp
  ·have h':¬i=a:=fun z=>h z.symm
   simp [h,h']
theorem a1s (ns:List Int):(ns.map V.int).all mU=true:=by simp [mU]
theorem a1r (ns:List Str):(ns.map V.str).all mU=true:=by simp [mU]
end
end L2.L3
namespace L2.L3
open PySem PySem.Spec PyProof.Rows
def tyD:PyData→String
 | .none => "NoneType"
 | .bool _ => "bool"
 | .int _ => "int"
 | .str _ => "str"
 | .list _ => "list"
 | .tuple _ => "tuple"
 | .dict _ => "dict"
example (K:qB):zG K (.type "int") (.type "int")=some true:=by rfl
example (K:qB):zG K (.type "bool") (.type "int")=some true:=by rfl
example (K:qB):zG K (.type "str") (.type "int")=some false:=by rfl
section
variable {X:Cx} {e a b c o:Expr} {es:List Expr} {ρ:List Ent} {d da db dc:PyData} {ds:List PyData} {pos p p2:Pos}
theorem b0r {pins:List (Addr×Obj)} {σ:St} {H:Hp} {s:Shared} {A:Around} {E:Value→Shared→Prop} {Q:Value→Shared→Prop} {cv u:Value} {t:Bool} {v:V} (I:Inv X pins σ H s) (r:Rep X.K H v d) (rx:RelV v u)
  (e:zG X.K (.type (tyD d)) cv=some t) (h:∀ tk,Q (.bool t) { s with toks:=tk }):wpAny (model X.prog X.w) A (call (.builtin "isinstance") [u,cv]) Q E s:=by
 cases r with
 | none=>exact lJ I rx .non e h
 | bool x=>exact lJ I rx (.bl x) e h
 | int x=>exact lJ I rx (.int x) e h
 | str x=>exact lJ I rx (.str x) e h
 | list hq ra=>
  cases rx
  obtain ⟨its,_,⟨o,n,e1,e2,_⟩,_⟩:=I.list hq
  exact jJ vm I.kIn ⟨o,e1,e2⟩ e (fun z=>nomatch z) h
 | tuple hq ra=>
  cases rx
  obtain ⟨its,_,⟨o,e1,e2,_⟩,_⟩:=I.tuple hq
  exact jJ PySem.W.kitx_tuple I.kIn ⟨o,e1,e2⟩ e (fun z=>nomatch z) h
 | dict hq _ _=>exact lJ I rx (.dK hq) e h
end
end L2.L3
namespace L2.L3
open PySem PySem.Spec PyProof.Rows
theorem a5N:∀ {bs:List Bool} {us:List Value},aX (bs.map V.bl) us→us=bs.map jR
 | [],_,r=>by cases r;rfl
 | b::bs,_,r=>by
  cases r with
  | cons r1 r2=>cases r1;rw [a5N r2];rfl
theorem range_all (bs:List Bool):((qd bs.length).all fun i=>bs.getD i false)=bs.all id:=by
 rw [kN]
 simp only [jN,kS]
 constructor
 ·intro h b hb
  obtain ⟨i,hi,rfl⟩:=zN.mp hb
  have:=h i hi
  simpa [zt,qM hi] using this
 ·intro h i hi
  have:=h bs[i] (jM hi)
  simpa [zt,qM hi] using this
section
variable {X:Cx} {e a b c o:Expr} {es:List Expr} {ρ:List Ent} {d da db dc:PyData} {ds:List PyData} {pos p p2:Pos}
theorem a8q (hc:X.calm=true):dU X (.builtin "all") (fun xs H Q=>∃ (p:Addr) (bs:List Bool),xs=[.ref p]∧SqL X.K H p (bs.map V.bl)∧Q (.bl (bs.all id)) H):=by
 intro pins s σ H xs us Q I r ⟨p,bs,e,hq,q⟩
 subst e
 obtain ⟨u,rfl,rx⟩:=vals1 r
 cases rx
 obtain ⟨its,rv,pl,hz⟩:=I.list hq
 have ev:=a5N rv
 subst ev
 have hl:=pl.isList
 have lt:p<s.heap.objs.size:=by obtain ⟨o,g,_⟩:=hl;exact qH g
 refine call_all_walk (wpAny_pyIter_list hl ?_)
 refine ⟨s.heap.objs.size,_,_,_,_,_,fun i=>bs.getD i false,rfl,Walks.list (A:=X.A.in1) (I.ok.hd hc) _ p (qW lt) (bs.map jR).toArray,⟨⟨_,qI _ rfl,rfl,rfl⟩,hl.push _⟩,fun i v s' Q' E' hP hQ=>?_,fun h' tk kp=>?_⟩
 ·have hP:(bs.map jR).toArray[i]?=some v:=hP
  rw [qt,qP] at hP
  cases eb:bs[i]? with
  | none=>rw [eb] at hP;cases hP
  | some b=>
   rw [eb] at hP
   cases hP
   refine wpAny_truthy_bool ?_
   have:bs.getD i false=b:=by rw [zt,eb];rfl
   rw [←this]
   exact hQ
 ·have sz:(bs.map jR).toArray.size=bs.length:=by simp
  rw [sz,range_all]
  refine ⟨.bl _,H,I.kept (fun b o g=>kp b o ?_ (qC _ g)),rfl,q⟩
  intro hb
  have z:b=s.heap.objs.size:=by simpa using hb
  exact absurd (qH g) (by rw [z];exact jU _)
theorem fD {K:qB} {G:Hp}:∀ ns:List Int,RepAll K G (ns.map V.int) (ns.map .int)
 | []=>.nil
 | _::r=>.cons (.int _) (fD r)
def sortI (ns:List Int):List Int:=ns.mergeSort (fun a b=>decide (a≤b))
theorem sortI_perm (ns:List Int):(sortI ns).Perm ns:=vW _ _
theorem a1Q (ns:List Int):(sortI ns).Pairwise (·≤·):=by
 have h:=zy (le:=fun (a b:Int)=>decide (a≤b)) (fun a b c h1 h2=>by simp only [decide_eq_true_eq] at *;omega) (fun a b=>by simp only [vP,decide_eq_true_eq];omega) ns
 exact h.imp fun h=>by simpa using h
theorem sortI_eq {ns ms:List Int} (hp:ms.Perm ns) (hs:ms.Pairwise (·≤·)):ms=sortI ns:=PySem.W.ksm_same (hp.trans (sortI_perm ns).symm) hs (a1Q ns)
theorem a2I:dU X (.builtin "sorted") (fun xs H Q=>∃ (p:Addr) (ns:List Int),xs=[.ref p]∧SqL X.K H p (ns.map V.int)∧ns.length<64∧∀ l,H l=none→Q (.ref l) (upd H l (.lst ((sortI ns).map V.int)))):=by
 intro pins s σ H xs us Q I r ⟨p,ns,e,hq,h64,q⟩
 subst e
 obtain ⟨u,rfl,rx⟩:=vals1 r
 cases rx
 obtain ⟨its,rv,pl,hz⟩:=I.list hq
 have hi:=intsAre_of rv
 refine sorted_ints pl.isList hi (by rw [hi.length];exact h64) fun out ns' ho hp hs=>?_
 have e:=sortI_eq hp hs
 subst e
 obtain ⟨ep,g⟩:=sortedAll_at s.heap its out
 have hf:H (s.heap.objs.size+1)=none:=I.hok.fresh (kB _)
 refine ⟨.ref (s.heap.objs.size+1),_,I.laid (t':=s.toks) (fun b o g=>sortedAll_old g) (kB _) ?_,rfl,q _ hf⟩
 refine ⟨?_,out.toList,ep,lD ho,?_⟩
 ·rw [qD,(sortI_perm ns).length_eq]
  exact qr (eB (by omega))
 ·rw [g]
end
end L2.L3
namespace L2.L3
open PySem PySem.Spec PyProof.Rows
def Its (n:Nat) (val:Nat→V):It:=⟨fun i _=>i<n,fun i H x H'=>H'=H∧x=val i,fun i _=>n≤i⟩
theorem a4n {P:Program} {w:World} {K:qB} {x:Str} {px:Pos} {it:Addr} {n:Nat} {PP:Nat→Value→Prop} {St:Nat→Heap→Prop} {val:Nat→V} (W:∀ A':Around,A'.handled=none→Walks P w A' it [it] [it] n PP St)
  (hobj:∀ i h,St i h→∃ o,h.get? it=some o∧∀ v,o.data≠.cell v) (hv:∀ i u,i<n→PP i u→RelV (val i) u)
  (hself:∀ (A:Around) (i:Nat) (s:Shared) (Q:Value→Shared→Prop) (E:Value→Shared→Prop),St i s.heap→Q (.ref it) s→wpAny (model P w) A (pyIter (.ref it)) Q E s):Turn P w K (.Name x px) (Its n val) [it] it (fun i h=>i≤n∧St i h) where
 mem:=by simp
 obj:=fun i h st b hb=>by
  have e:b=it:=by simpa using hb
  subst e
  exact hobj i h st.2
 keep:=fun i h h' st k=>⟨st.1,(W {} rfl).frame i h h' st.2 k⟩
 item:=by
  intro X hP hw hK hc i pins s σ H E I hf st hg
  subst hP hw hK
  obtain ⟨f0,f1,f2,f3,f4,f5⟩:=hf it (by simp)
  refine (W X.A (I.ok.hd hc)).item i s _ _ hg st.2 fun u h' tk pu st' kk=>⟨u,rfl,wpAny_pure ?_⟩
  have I1:Inv X pins σ H { s with heap:=h',toks:=tk }:=I.turned (fun b o hb e=>kk b o (by simpa using hb) e) f0 f1 f3 f4 f5
  exact ⟨val i,H,I1,hv i u hg pu,⟨rfl,rfl⟩,⟨hg,st'⟩,fun b hb=>(hf b hb).1⟩
 done:=by
  intro X hP hw hK hc i pins s σ H E I hf st hg
  subst hP hw hK
  obtain ⟨f0,f1,f2,f3,f4,f5⟩:=hf it (by simp)
  have e:i=n:=Nat.le_antisymm st.1 hg
  subst e
  exact (W X.A (I.ok.hd hc)).done s _ _ st.2 fun h' tk kk=>⟨rfl,I.turned (fun b o hb e=>kk b o (by simpa using hb) e) f0 f1 f3 f4 f5⟩
 self:=fun A i s Q E st h=>hself A i s Q E st.2 h
def lettersOf (z:Str):List Str:=z.cps.toList.map fun c=>⟨#[c]⟩
section
variable {X:Cx} {iter a b:Expr} {ρ:List Ent} {p pos px:Pos} {x:Str}
theorem b2e {z:Str} (h:PD X iter ρ (.str z)) (hc:X.calm=true):PID X (.Name x px) iter ρ ((lettersOf z).map .str):=by
 refine ⟨?_⟩
 intro pins s σ H R I ⟨H0,G₀,G,S,q⟩
 refine thn (h.run H0 G₀ G pins s σ H (fun v H'=>v=.str z∧∃ G',Grow G H G' H') I S fun v G' H' g r=>by cases r;exact ⟨rfl,G',g⟩) fun v s1 ⟨y,H1,I1,r1,e1,G1,g1⟩=>?_
 subst e1
 obtain ⟨t,rfl⟩:=r1
 have wk:Walk X.K (Its z.cps.size fun i=>.str ⟨#[z.cps.getD i 0]⟩) G1 ((lettersOf z).map .str):=by
  intro i G' H' s1 s2
  have hl:((lettersOf z).map jg).length=z.cps.size:=by simp [lettersOf]
  refine ⟨fun d e=>?_,fun hle=>by rw [hl] at hle;exact hle⟩
  have hi:i<z.cps.size:=by
   have:=(qS.mp e).1
   rw [hl] at this
   exact this
  refine ⟨hi,fun y H2 ⟨e2,e3⟩=>?_⟩
  subst e2 e3
  refine ⟨G',.refl s2,?_⟩
  have ed:d=.str ⟨#[z.cps.getD i 0]⟩:=by
   unfold lettersOf at e
   rw [qP,qP,je,qu hi] at e
   have:=qA e
   rw [←this]
   simp [zF,hi]
  rw [ed]
  exact .str _
 have hv:∀ i u,i<z.cps.size→SignAt z i u→RelV (.str ⟨#[z.cps.getD i 0]⟩) u:=by
  rintro i u hi ⟨c,t',ec,rfl⟩
  refine ⟨t',?_⟩
  rw [qu hi] at ec
  have:=qA ec
  simp [zF,hi,this]
 have fin:∀ (cl:String) (o:Obj),o={ cls:=.type cl,data:=.fields #[.str z t,.int 0 0] }→(∀ A':Around,A'.handled=none→Walks X.prog X.w A' s1.heap.objs.size [s1.heap.objs.size] [s1.heap.objs.size] z.cps.size (SignAt z) (fun i h=>h.IsStrIter s1.heap.objs.size cl z t i)) →
   (∀ (A:Around) (i:Nat) (s:Shared) (Q:Value→Shared→Prop) (E:Value→Shared→Prop),s.heap.IsStrIter s1.heap.objs.size cl z t i→Q (.ref s1.heap.objs.size) s→wpAny (model X.prog X.w) A (pyIter (.ref s1.heap.objs.size)) Q E s) →
   PIE X pins σ (.Name x px) R (.ref s1.heap.objs.size) { s1 with heap:=s1.heap.push o }:=by
  intro cl o eo W hself
  subst eo
  refine ⟨s1.heap.objs.size,[s1.heap.objs.size],_,_,H1,rfl,I1.kept (t':=s1.toks) fun b o e=>qC _ e,a4n W (fun i h ⟨o,g,_,gd⟩=>⟨o,g,fun v z=>by rw [gd] at z;cases z⟩) hv hself,⟨jn _,⟨_,qI _ rfl,rfl,rfl⟩⟩,fun b hb=>?_,q _ G1 H1 g1 wk⟩
  have e:b=s1.heap.objs.size:=by simpa using hb
  subst e
  exact I1.fpOk (qN _) (I1.hok.fresh (qN _))
 cases ha:z.cps.all (·<128)
 ·exact wpAny_pyIter_wide ha (fin "str_iterator" _ rfl (fun A' hA=>Walks.strWide hA _ z t) fun A i s Q E st hq=>wpAny_pyIter_striter_wide st hq)
 ·exact wpAny_pyIter_ascii ha (fin "str_ascii_iterator" _ rfl (fun A' hA=>Walks.strAscii hA _ z t) fun A i s Q E st hq=>wpAny_pyIter_striter_ascii st hq)
theorem b3q {i j:Str}:CmpD X .LtE (.str i) (.str j) (!decide (j.cps.toList<i.cps.toList)):=⟨fun x y H Q=>∃ i j,x=V.str i∧y=V.str j∧Q (.bl (!decide (j.cps.toList<i.cps.toList))) H,by
 intro pins s σ H x y v u Q I rx ry ⟨i,j,e1,e2,q⟩
 subst e1 e2
 obtain ⟨t,rfl⟩:=rx
 obtain ⟨t',rfl⟩:=ry
 exact PySem.P.le_str ⟨.bl _,H,I,rfl,q⟩,fun x y G H Q _ rx ry q=>by cases rx;cases ry;exact ⟨_,_,rfl,rfl,q⟩⟩
end
end L2.L3
namespace L2.L3
open PySem PySem.Spec PyProof.Rows
theorem bY.there {P:Program} {w:World} {H:Hp} {h:Heap} {a:Addr} {o:HO} (x:bY P w H h a o):∃ u,h.get? a=some u:=by
 cases o with
 | lst xs=>obtain ⟨_,_,_,_,e⟩:=x;exact ⟨_,e⟩
 | tup xs=>obtain ⟨_,_,_,u,e,_⟩:=x;exact ⟨u,e⟩
 | dK kvs=>obtain ⟨_,_,_,_,o,_,_,e,_⟩:=x;exact ⟨_,e⟩
 | dT kvs=>obtain ⟨_,_,_,_,o,_,_,e,_⟩:=x;exact ⟨_,e⟩
 | set S n=>obtain ⟨o,_,_,_,e,_⟩:=x;exact ⟨_,e⟩
 | ins C dx fs=>obtain ⟨_,_,_,e,_⟩:=x;exact ⟨_,e⟩
 | own y=>exact x
 | xd fs=>obtain ⟨_,⟨_,_,_,e,_⟩,_⟩:=x;exact ⟨_,e⟩
 | rng lo hi=>obtain ⟨_,_,_,e⟩:=x;exact ⟨_,e⟩
 | frz ob u=>obtain ⟨e,_⟩:=x;exact ⟨_,e⟩
 | tbl ps=>exact ⟨_,show h.get? a=some _ from x⟩
 | met f y=>exact ⟨_,show h.get? a=some _ from x⟩
 | ext φ=>exact x.2.1
theorem b0x {P:Program} {w:World} {H:Hp} {h:Heap} {a:Addr} (x:HOk P w H h) (e:h.get? a=none):H a=none:=by
 cases q:H a with
 | none=>rfl
 | some u=>obtain ⟨v,z⟩:=bY.there (x a u q);rw [e] at z;cases z
def a0n (X:Cx) (b:Addr):Prop:=(b∈X.ex∨X.s₀.heap.get? b=none)∧∀ p∈X.pn,p.1≠b
def a0F (fr:Addr→Prop) (fl:Value) (H:Hp) (a C:Addr) (h:Heap):Prop:=
 fr a∧H a=none∧∃ oe vs a0 T oT ts,h.get? a=some oe∧oe.cls=.ref C∧oe.data=.fields vs∧vs[0]?=some a0 ∧
  vs[1]?=some (.ref T)∧fr T∧H T=none∧T≠a∧h.get? T=some oT∧oT.data=.fields ts∧ts[3]?=some fl
def ExcAt (fr:Addr→Prop) (H:Hp) (a C:Addr) (h:Heap):Prop:=
 (fr a∧H a=none∧∃ oe vs a0,h.get? a=some oe∧oe.cls=.ref C∧oe.data=.fields vs∧vs[0]?=some a0∧vs[1]?=some .none)∨a0F fr .none H a C h
def mQ (X:Cx) (fr:Addr→Prop) (H:Hp) (a C:Addr) (h:Heap):Prop:=ExcAt fr H a C h∨∃ L,X.env.frame=some L∧a0F fr (rawInt L) H a C h
def b7z (X:Cx) (c:Str) (e:Value) (H:Hp) (s:Shared):Prop:=∃ a C,e=.ref a∧fR X.K c=some C∧mQ X (a0n X) H a C s.heap
theorem a0F.mono {fr fr':Addr→Prop} {fl:Value} {H:Hp} {a C:Addr} {h:Heap} (x:a0F fr fl H a C h) (k:∀ b,fr b→fr' b):a0F fr' fl H a C h:=by
 obtain ⟨h1,h2,oe,vs,a0,T,oT,ts,e1,e2,e3,e4,e5,e6,e7⟩:=x
 exact ⟨k _ h1,h2,oe,vs,a0,T,oT,ts,e1,e2,e3,e4,e5,k _ e6,e7⟩
theorem ExcAt.mono {fr fr':Addr→Prop} {H:Hp} {a C:Addr} {h:Heap} (x:ExcAt fr H a C h) (k:∀ b,fr b→fr' b):ExcAt fr' H a C h:=by
 rcases x with ⟨h1,h2⟩ | x
 ·exact .inl ⟨k _ h1,h2⟩
 ·exact .inr (x.mono k)
theorem mQ.mono {X:Cx} {fr fr':Addr→Prop} {H:Hp} {a C:Addr} {h:Heap} (x:mQ X fr H a C h) (k:∀ b,fr b→fr' b):mQ X fr' H a C h:=by
 rcases x with x | ⟨L,h1,x⟩
 ·exact .inl (x.mono k)
 ·exact .inr ⟨L,h1,x.mono k⟩
theorem ExcAt.ob {fr:Addr→Prop} {H:Hp} {a C:Addr} {h:Heap} (x:ExcAt fr H a C h):fr a∧H a=none∧∃ oe vs,ExO h a C oe∧oe.data=.fields vs:=by
 rcases x with ⟨h1,h2,oe,vs,a0,e1,e2,e3,_⟩ | ⟨h1,h2,oe,vs,a0,T,oT,ts,e1,e2,e3,_⟩
 ·exact ⟨h1,h2,oe,vs,⟨e1,e2⟩,e3⟩
 ·exact ⟨h1,h2,oe,vs,⟨e1,e2⟩,e3⟩
structure Chg (X:Cx) (fr:Addr→Prop) (cs:List Addr) (H:Hp) (h h':Heap):Prop where
 ch:∀ b∈cs,fr b∧H b=none∧∃ o vs,h.get? b=some o∧o.data=.fields vs
 un:Un (frs X.stack) cs H H h h'
 hok:HOk X.prog X.w H h'
section
variable {X:Cx} {pins:List (Addr×Obj)} {σ:List (Option V)} {H H':Hp} {s:Shared} {h':Heap} {a C:Addr} {fr:Addr→Prop}
theorem a3r {base:Heap} {Ts:List Addr} {a0 fl:Value} (I:Inv X pins σ H s) (hst:X.stack=X.env::X.outer) (ha:fr a∧H a=none∧∃ o vs,s.heap.get? a=some o∧o.data=.fields vs)
  (hT:∀ b∈Ts,fr b∧H b=none∧∃ o vs,s.heap.get? b=some o∧o.data=.fields vs) (hb:base=vH s.heap ((a::Ts)++frs X.stack)) (hnew:∀ b,s.heap.get? b=none→fr b)
  (N:Heap.NotedW base (X.env::X.outer) a (.ref C) a0 fl s.heap h'):Chg X fr (a::Ts) H s.heap h'∧a0F fr fl H a C h':=by
 obtain ⟨st,ff,⟨oe,vs,T,oT,ts,e1,⟨e2,e3⟩,e4,e5,e6,e7,e8,e9,e10⟩,up⟩:=N
 have hmem:∀ b∈frs X.stack,∃ o,s.heap.get? b=some o∧∀ vs,o.data≠.fields vs:=fun b hm=>by
  obtain ⟨_,o,ho,hd⟩:=I.stack.mem hm
  exact ⟨o,ho,hd⟩
 have keep:∀ b o,s.heap.get? b=some o→b∉frs X.stack→b∉a::Ts→h'.get? b=some o:=fun b o e n1 n2=>
  st b o (by rw [hb];exact vU _ e fun z=>(jE.mp z).elim n2 n1)
 have slot:∀ b o,s.heap.get? b=some o→b∈frs X.stack→∃ sl,h'.get? b=some { o with slots:=sl }:=fun b o e hm=>by
  obtain ⟨o',ho',hd⟩:=hmem b hm
  rw [e] at ho';cases ho'
  exact up b o e hd
 have hch:∀ b∈a::Ts,fr b∧H b=none∧∃ o vs,s.heap.get? b=some o∧o.data=.fields vs:=fun b hm=>by
  rcases qF.mp hm with rfl | hm
  ·exact ha
  ·exact hT b hm
 refine ⟨⟨hch,⟨fun b o e n n1 n2=>keep b o e n1 n2,fun b o e n n1 n2=>slot b o e n1,fun b o e n _=>n,fun b o e n2=>?_,fun _ _ q=>q,fun _ _ _ q=>q,fun _ ps q=>⟨#[],by rw [q];simp⟩⟩,fun b u q=>?_⟩,?_⟩
 ·by_cases hm:b∈frs X.stack
  ·obtain ⟨sl,z⟩:=slot b o e hm
   exact ⟨_,z⟩
  ·exact ⟨o,keep b o e hm n2⟩
 ·have tr:∀ c u,H c=some u→c∉frs X.stack∧c∉a::Ts:=fun c u q=>⟨fun z=>(by rw [I.stkFree c z] at q;cases q),fun z=>(by rw [(hch c z).2.1] at q;cases q)⟩
  refine (I.hok b u q).stay (fun c v hc z=>?_) (fun _ z=>z) fun _ _ z=>z
  rcases hc with rfl | hc
  ·exact keep c v z (tr c u q).1 (tr c u q).2
  ·exact keep c v z (tr c _ hc).1 (tr c _ hc).2
 ·refine ⟨ha.1,ha.2.1,oe,vs,a0,T,oT,ts,e1,e2,e4,e3,e5,?_⟩
  have hh:fr T∧H T=none:=by
   cases q:s.heap.get? T with
   | none=>exact ⟨hnew T q,b0x I.hok q⟩
   | some o=>
    have hm:T∈(a::Ts)++frs X.stack:=zn fun z=>by
     have:=vU _ q z
     rw [←hb,e6] at this;cases this
    rcases jE.mp hm with hm | hm
    ·exact ⟨(hch T hm).1,(hch T hm).2.1⟩
    ·exfalso
     obtain ⟨o',ho',hd⟩:=hmem T hm
     obtain ⟨sl,z⟩:=slot T o' ho' hm
     rw [e8] at z;cases z
     exact hd ts e9
  exact ⟨hh.1,hh.2,e7,e8,e9,e10⟩
theorem b2x {M:Model} {A:Around} {E:Value→Shared→Prop} {Q:Unit→Shared→Prop} (hfr:A.frames=some X.stack) (hst:X.stack=X.env::X.outer) (hf:X.env.frame=some X.env.locals) (I:Inv X pins σ H s) (x:ExcAt fr H a C s.heap) (hnew:∀ b,s.heap.get? b=none→fr b)
  (h:∀ h' ch,Chg X fr ch H s.heap h'→a0F fr (rawInt X.env.locals) H a C h'→Q () { s with heap:=h' }):wpAny M A (noteFrame (.ref a) X.env) Q E s:=by
 have frm:∀ (l:List Addr),∀ env∈X.env::X.outer,∀ b,env.frame=some b→b∈l++frs X.stack:=fun l env he b hb=>qm _ (by
  rw [hst];unfold frs
  exact ve.mpr ⟨env,he,hb⟩)
 have hl:=I.stack
 rcases x with ⟨h1,h2,oe,vs,a0,e1,e2,e3,e4,e5⟩ | ⟨h1,h2,oe,vs,a0,T,oT,ts,e1,e2,e3,e4,e5,e6,e7,e8,e9,e10,e11⟩
 ·have hl':s.heap.FunFrames (vH s.heap ([a]++frs X.stack)) (X.env::X.outer):=PySem.W.funFrames_hide (hst▸hl) (frm [a])
  unfold noteFrame
  simp only [hf]
  refine wpAny_bind (wpAny_field e1 e3 e5 ?_)
  rw [if_neg (by decide)]
  refine wpAny_entryW (hst▸hfr) hl' hf e1 (fun b o e=>vc ([a]++frs X.stack) e) (zL ([a]++frs X.stack) (by simp)) e3 (Array.getElem?_eq_some_iff.mp e5).1 e4 fun h' N=>?_
  rw [e2] at N
  obtain ⟨c1,c2⟩:=a3r (Ts:=[]) I hst ⟨h1,h2,oe,vs,e1,e3⟩ (fun _ z=>nomatch z) rfl hnew N
  exact h h' _ c1 c2
 ·have hl':s.heap.FunFrames (vH s.heap ([a,T]++frs X.stack)) (X.env::X.outer):=PySem.W.funFrames_hide (hst▸hl) (frm [a,T])
  refine wpAny_noteFrame_onW (hst▸hfr) hl' hf ⟨oe,vs,T,oT,ts,e1,⟨e2,e4⟩,e3,e5,zL ([a,T]++frs X.stack) (by simp),e8,e9,e10,e11⟩ (fun b o e=>vc ([a,T]++frs X.stack) e) (zL ([a,T]++frs X.stack) (by simp)) fun h' N=>?_
  obtain ⟨c1,c2⟩:=a3r (Ts:=[T]) I hst ⟨h1,h2,oe,vs,e1,e3⟩ (fun b z=>by cases qf.mp z;exact ⟨e6,e7,oT,ts,e9,e10⟩) rfl hnew N
  exact h h' _ c1 c2
theorem Chg.same {X:Cx} {fr:Addr→Prop} {H:Hp} {h:Heap} (hok:HOk X.prog X.w H h):Chg X fr [] H h h:=
 ⟨(fun _ z=>nomatch z),⟨fun _ _ e _ _ _=>e,fun _ o e _ _ _=>⟨o.slots,e⟩,fun _ _ _ n _=>n,fun _ o e _=>⟨o,e⟩,fun _ _ q=>q,fun _ _ _ q=>q,fun _ ps q=>⟨#[],by rw [q];simp⟩⟩,hok⟩
theorem a3s {M:Model} {A:Around} {E:Value→Shared→Prop} {Q:Unit→Shared→Prop} (hfr:A.frames=some X.stack) (hst:X.stack=X.env::X.outer) (hf:X.env.frame=some X.env.locals) (I:Inv X pins σ H s) (x:mQ X fr H a C s.heap) (hnew:∀ b,s.heap.get? b=none→fr b)
  (h:∀ h' ch,Chg X fr ch H s.heap h'→a0F fr (rawInt X.env.locals) H a C h'→Q () { s with heap:=h' }):wpAny M A (noteFrame (.ref a) X.env) Q E s:=by
 rcases x with x | ⟨L,hL,x⟩
 ·exact b2x hfr hst hf I x hnew h
 ·rw [hf] at hL;cases hL
  have q:=h s.heap [] (Chg.same I.hok) x
  obtain ⟨h1,h2,oe,vs,a0,T,oT,ts,e1,e2,e3,e4,e5,e6,e7,e8,e9,e10,e11⟩:=x
  unfold noteFrame
  simp only [hf]
  refine wpAny_bind (wpAny_field e1 e3 e5 ?_)
  rw [if_pos (by simp)]
  refine wpAny_bind (wpAny_field e9 e10 e11 ?_)
  rw [if_pos (by simp [rawInt])]
  exact wpAny_pure q
theorem a5j {M:Model} {A:Around} {E:Value→Shared→Prop} {Q:Unit→Shared→Prop} {fl:Value} (hok:HOk X.prog X.w H s.heap) (x:a0F fr fl H a C s.heap)
  (h:∀ h' ch,Chg X fr ch H s.heap h'→a0F fr .none H a C h'→Q () { s with heap:=h' }):wpAny M A (setFlight (.ref a) none) Q E s:=by
 obtain ⟨h1,h2,oe,vs,a0,T,oT,ts,e1,e2,e3,e4,e5,e6,e7,e8,e9,e10,e11⟩:=x
 have sz:3<ts.size:=(Array.getElem?_eq_some_iff.mp e11).1
 refine wpAny_setFlight_none e1 e3 e5 e9 e10 sz (h _ [T] ⟨fun b z=>?_,⟨fun b o e n _ n2=>?_,fun b o e n _ n2=>?_,fun b o e n _=>n,fun b o e n2=>?_,fun _ _ q=>q,fun _ _ _ q=>q,fun _ ps q=>⟨#[],by rw [q];simp⟩⟩,fun b u q=>?_⟩ ?_)
 ·cases qf.mp z;exact ⟨e6,e7,oT,ts,e9,e10⟩
 ·rw [jB _ _ (fun z=>n2 (by simp [z]))];exact e
 ·exact ⟨o.slots,by rw [jB _ _ (fun z=>n2 (by simp [z]))];exact e⟩
 ·exact ⟨o,by rw [jB _ _ (fun z=>n2 (by simp [z]))];exact e⟩
 ·have tr:∀ c u,H c=some u→T≠c:=fun c u q z=>by rw [←z,e7] at q;cases q
  refine (hok b u q).stay (fun c v hc z=>?_) (fun _ z=>z) fun _ _ z=>z
  rcases hc with rfl | hc
  ·rw [jB _ _ (tr c u q)];exact z
  ·rw [jB _ _ (tr c _ hc)];exact z
 ·refine ⟨h1,h2,oe,vs,a0,T,_,_,?_,e2,e3,e4,e5,e6,e7,e8,jj _ e9 (Obj.isFreed_of_fields (vA e10 _)),vA e10 _,by simp [sz]⟩
  rw [jB _ _ e8];exact e1
theorem a3A {M:Model} {A:Around} {E:Value→Shared→Prop} {Q:Unit→Shared→Prop} (hfr:A.frames=some X.stack) (hst:X.stack=X.env::X.outer) (hf:X.env.frame=some X.env.locals) (I:Inv X pins σ H s) (x:mQ X fr H a C s.heap) (hnew:∀ b,s.heap.get? b=none→fr b)
  (h:∀ h' ch,Un (frs X.stack) ch H H s.heap h'→(∀ b∈ch,fr b)→HOk X.prog X.w H h'→ExcAt fr H a C h'→Q () { s with heap:=h' }):wpAny M A (leaving X.env (.ref a)) Q E s:=by
 unfold leaving
 refine wpAny_bind (a3s hfr hst hf I x hnew fun h1 ch1 c1 x1=>?_)
 refine a5j (X:=X) (s:={ s with heap:=h1 }) c1.hok x1 fun h2 ch2 c2 x2=>?_
 refine h h2 (ch1++ch2) ((c1.un.mono (fun _ z=>z) fun b z=>jw _ z).trans (c2.un.mono (fun _ z=>z) fun b z=>qm _ z)) (fun b z=>?_) c2.hok (.inr x2)
 rcases jE.mp z with z | z
 ·exact (c1.ch b z).1
 ·exact (c2.ch b z).1
theorem Inv.chg {ch:List Addr} (I:Inv X pins σ H s) (c:Chg X (fun b=>a0n X b∧∀ p∈pins,p.1≠b) ch H s.heap h'):Inv X pins σ H { s with heap:=h' }:=by
 obtain ⟨m,hn,hl⟩:=id I.loc
 obtain ⟨oL,es,ep,hoL,rL⟩:=id hn
 have cL:X.env.locals∉ch:=fun z=>by
  obtain ⟨_,_,o,vs,e1,e2⟩:=c.ch _ z
  rw [hoL] at e1;cases e1
  rw [rL.1] at e2;cases e2
 have cC:∀ x d,X.env.cells.lookup x=some d→d∉ch:=fun x d e z=>by
  obtain ⟨_,_,o,vs,e1,e2⟩:=c.ch _ z
  obtain ⟨v,o',e3,e4⟩:=I.cell x d e
  rw [e3] at e1;cases e1
  rw [e4] at e2;cases e2
 have cS:∀ b o,X.s₀.heap.get? b=some o→b∉X.ex→b∉ch:=fun b o e n z=>by
  rcases (c.ch b z).1.1.1 with q | q
  ·exact n q
  ·rw [e] at q;cases q
 have cP:∀ p∈X.pn++pins,p.1∉ch:=fun p hp z=>by
  rcases jE.mp hp with hp | hp
  ·exact (c.ch _ z).1.1.2 p hp rfl
  ·exact (c.ch _ z).1.2 p hp rfl
 have neL:∀ b o,X.s₀.heap.get? b=some o→b≠X.env.locals:=fun b o e=>qW (qR (qH e) I.ok.above)
 have nst:∀ b,b≠X.env.locals→b∉X.fs→b∉frs X.stack:=fun b n1 n2 z=>(qF.mp (I.stkSub b z)).elim n1 n2
 have cellK:∀ x d,X.env.cells.lookup x=some d→∀ v,s.heap.IsCell d v→h'.IsCell d v:=fun x d e v ⟨o,ho,hd⟩=>by
  obtain ⟨sl,q⟩:=c.un.any ho (I.freeC x d e) (cC x d e)
  exact ⟨_,q,hd⟩
 refine ⟨I.ok,I.os,I.bare,⟨fun b o e n hb hx=>?_,fun b o e n hb hx=>?_,I.base.free,fun b o e hx=>?_,I.base.tups,I.base.frzs,I.base.tbls⟩,⟨m,?_,fun i x v e1 e2 e3=>?_⟩,fun x d e=>?_,I.free,I.freeC,fun p hp=>?_,c.hok,I.len⟩
 ·exact c.un.keep b o (I.base.keep b o e n hb hx) (I.base.free b o e n hx) (nst b (neL b o e) hb) (cS b o e hx)
 ·obtain ⟨sl,e1⟩:=I.base.slot b o e n hb hx
  obtain ⟨sl',e2⟩:=c.un.any e1 (I.base.free b o e n hx) (cS b o e hx)
  exact ⟨sl',e2⟩
 ·obtain ⟨o',e1⟩:=I.base.there b o e hx
  exact c.un.there b o' e1 (cS b o e hx)
 ·obtain ⟨sl,q⟩:=c.un.any hoL I.free cL
  exact ⟨_,es,ep,q,rL⟩
 ·obtain ⟨u,r,l⟩:=hl i x v e1 e2 e3
  refine ⟨u,r,?_⟩
  rcases l with l | ⟨k,d,e,z⟩
  ·exact .inl l
  ·exact .inr ⟨k,d,e,cellK x d e _ z⟩
 ·obtain ⟨v,z⟩:=I.cell x d e
  exact ⟨v,cellK x d e v z⟩
 ·obtain ⟨e,n,ne,nf,d⟩:=I.pin p hp
  exact ⟨c.un.keep p.1 p.2 e n (nst p.1 ne nf) (cP p hp),n,ne,nf,d⟩
theorem Inv.track {o:HO} (I:Inv X pins σ H s) (ha:a0n X a∧∀ p∈pins,p.1≠a) (hn:H a=none) (hd:∃ u vs,s.heap.get? a=some u∧u.data=.fields vs) (ok:bY X.prog X.w (upd H a o) s.heap a o):Inv X pins σ (upd H a o) s:=by
 obtain ⟨u,vs,hu,hv⟩:=hd
 have nL:X.env.locals≠a:=fun z=>by
  obtain ⟨m,⟨oL,es,ep,hoL,rL⟩,_⟩:=id I.loc
  rw [z,hu] at hoL;cases hoL
  rw [rL.1] at hv;cases hv
 have nC:∀ x d,X.env.cells.lookup x=some d→d≠a:=fun x d e z=>by
  obtain ⟨v,o',e3,e4⟩:=I.cell x d e
  rw [z,hu] at e3;cases e3
  rw [e4] at hv;cases hv
 refine ⟨I.ok,I.os,I.bare,⟨I.base.keep,I.base.slot,fun b o e n hx=>?_,I.base.there,fun b xs e=>?_,fun b o u e=>?_,fun b ps e=>?_⟩,I.loc,I.cell,?_,fun x d e=>?_,fun p hp=>?_,fun b v e=>?_,I.len⟩
 ·rw [aH (fun z=>by
   subst z
   rcases ha.1.1 with q | q
   ·exact hx q
   ·rw [e] at q;cases q)]
  exact I.base.free b o e n hx
 ·have q:=I.base.tups b xs e
  rw [aH (aW q hn)];exact q
 ·have q:=I.base.frzs b o u e
  rw [aH (aW q hn)];exact q
 ·obtain ⟨more,q⟩:=I.base.tbls b ps e
  exact ⟨more,by rw [aH (aW q hn)];exact q⟩
 ·rw [aH nL];exact I.free
 ·rw [aH (nC x d e)];exact I.freeC x d e
 ·obtain ⟨e,n,ne,nf,d⟩:=I.pin p hp
  have np:p.1≠a:=by
   rcases jE.mp hp with hp | hp
   ·exact ha.1.2 p hp
   ·exact ha.2 p hp
  exact ⟨e,by rw [aH np];exact n,ne,nf,d⟩
 ·by_cases hb:b=a
  ·subst hb;rw [aL] at e;cases e;exact ok
  ·rw [aH hb] at e
   exact (I.hok b v e).stay (fun c w' _ q=>q) (fun c q=>by rw [aH (aW q hn)];exact q) fun c xs q=>by rw [aH (aW q hn)];exact q
end
end L2.L3
namespace L2.L3
open PySem PySem.Spec PyProof.Rows
inductive Re (α:Type) where
 | ok (a:α)
 | ex (c:Str)
abbrev Mm (α:Type):=Option (Re α)
abbrev ret {α:Type} (a:α):Mm α:=some (.ok a)
def bnd {α β:Type} (m:Mm α) (k:α→Mm β):Mm β:=match m with
 | some (.ok a)=>k a
 | some (.ex c)=>some (.ex c)
 | none=>none
def lft {α:Type} (o:Option α):Mm α:=match o with
 | some a=>some (.ok a)
 | none=>none
abbrev EF:=List Ent→Mm PyData
abbrev TF:=List Ent→Mm Bool
abbrev AF:=List Ent→Mm (List PyData)
section
variable {α β:Type}
theorem cR {m:Mm α} {k:α→Mm β} {r:Re β} (h:bnd m k=some r):(∃ a,m=some (.ok a)∧k a=some r)∨∃ c,m=some (.ex c)∧r=.ex c:=by
 match m,h with
 | some (.ok a),h=>exact .inl ⟨a,rfl,h⟩
 | some (.ex c),h=>exact .inr ⟨c,rfl,(qA h).symm⟩
 | none,h=>cases h
theorem aY {o:Option α} {r:Re α} (h:lft o=some r):∃ a,o=some a∧r=.ok a:=by
 match o,h with
 | some a,h=>exact ⟨a,rfl,(qA h).symm⟩
 | none,h=>cases h
end
def lC (X:Cx) (H0 G₀ G:Hp) (ρ:List Ent) (c:Str):Prop:=
 ∀ (pins:List (Addr×Obj)) (s':Shared) (σ:St) (H' G':Hp) (e:Value),Inv X pins σ H' s'→RepS X.K H0 G₀ G' H' σ ρ→bH G G'→b7z X c e H' s'→X.xe e s'
theorem lC.mono {X:Cx} {H0 G₀ G G':Hp} {ρ:List Ent} {c:Str} (h:lC X H0 G₀ G ρ c) (s:bH G G'):lC X H0 G₀ G' ρ c:=
 fun pins s' σ H' G2 e I R g x=>h pins s' σ H' G2 e I R (s.trans g) x
def a4k (X:Cx) (H0 G₀ G:Hp) (ρ:List Ent) (H:Hp) (Q:VK):Re PyData→Prop
 | .ok d=>∀ v G' H',Grow G H G' H'→Rep X.K G' v d→Q v H'
 | .ex c=>lC X H0 G₀ G ρ c
def a8E (X:Cx) (H0 G₀ G:Hp) (ρ:List Ent) (H:Hp) (Q:Bool→Hp→Prop):Re Bool→Prop
 | .ok b=>∀ G' H',Grow G H G' H'→Q b H'
 | .ex c=>lC X H0 G₀ G ρ c
def a8F (X:Cx) (H0 G₀ G:Hp) (ρ:List Ent) (H:Hp) (Q:List V→Hp→Prop):Re (List PyData)→Prop
 | .ok ds=>∀ vs G' H',Grow G H G' H'→RepAll X.K G' vs ds→Q vs H'
 | .ex c=>lC X H0 G₀ G ρ c
def rE (X:Cx) (f:EF):TE:=fun σ H Q=>∃ ρ r H0 G₀ G,f ρ=some r∧RepS X.K H0 G₀ G H σ ρ∧a4k X H0 G₀ G ρ H Q r
def rT (X:Cx) (f:TF):TT:=fun σ H Q=>∃ ρ r H0 G₀ G,f ρ=some r∧RepS X.K H0 G₀ G H σ ρ∧a8E X H0 G₀ G ρ H Q r
def rA (X:Cx) (f:AF):TA:=fun σ H Q=>∃ ρ r H0 G₀ G,f ρ=some r∧RepS X.K H0 G₀ G H σ ρ∧a8F X H0 G₀ G ρ H Q r
structure DE (X:Cx) (e:Expr) (f:EF):Prop where
 run:PE X e (rE X f)
structure DT (X:Cx) (e:Expr) (f:TF):Prop where
 run:PT X e (rT X f)
structure DW (X:Cx) (e:Expr) (f:TF):Prop where
 run:PW X e (rT X f)
structure DA (X:Cx) (es:List Expr) (f:AF):Prop where
 run:PA X es (rA X f)
section
variable {X:Cx} {H0 G₀ G G1 H H1:Hp} {ρ:List Ent} {σ:St}
theorem a4k.more {Q:VK} {r:Re PyData} (q:a4k X H0 G₀ G ρ H Q r) (g:Grow G H G1 H1):a4k X H0 G₀ G1 ρ H1 Q r:=by
 cases r with
 | ok d=>exact fun v G' H' g' rv=>q v G' H' (g.trans g') rv
 | ex c=>exact lC.mono q g.gg
theorem a8E.more {Q:Bool→Hp→Prop} {r:Re Bool} (q:a8E X H0 G₀ G ρ H Q r) (g:Grow G H G1 H1):a8E X H0 G₀ G1 ρ H1 Q r:=by
 cases r with
 | ok d=>exact fun G' H' g'=>q G' H' (g.trans g')
 | ex c=>exact lC.mono q g.gg
theorem a8F.more {Q:List V→Hp→Prop} {r:Re (List PyData)} (q:a8F X H0 G₀ G ρ H Q r) (g:Grow G H G1 H1):a8F X H0 G₀ G1 ρ H1 Q r:=by
 cases r with
 | ok d=>exact fun v G' H' g' rv=>q v G' H' (g.trans g') rv
 | ex c=>exact lC.mono q g.gg
theorem bE {fa:EF} {β:Type} {k:PyData→Mm β} {r:Re β} (R:RepS X.K H0 G₀ G H σ ρ) (e:bnd (fa ρ) k=some r) {T:VK} (hx:∀ c,r=.ex c→lC X H0 G₀ G ρ c)
  (h:∀ x v G1 H1,Grow G H G1 H1→RepS X.K H0 G₀ G1 H1 σ ρ→Rep X.K G1 v x→k x=some r→T v H1):rE X fa σ H T:=by
 rcases cR e with ⟨x,e1,e2⟩ | ⟨c,e1,e2⟩
 ·exact ⟨ρ,_,H0,G₀,G,e1,R,fun v G1 H1 g1 rv=>h x v G1 H1 g1 (R.more g1) rv e2⟩
 ·exact ⟨ρ,_,H0,G₀,G,e1,R,hx c e2⟩
theorem bT {fa:TF} {β:Type} {k:Bool→Mm β} {r:Re β} (R:RepS X.K H0 G₀ G H σ ρ) (e:bnd (fa ρ) k=some r) {T:Bool→Hp→Prop} (hx:∀ c,r=.ex c→lC X H0 G₀ G ρ c)
  (h:∀ x G1 H1,Grow G H G1 H1→RepS X.K H0 G₀ G1 H1 σ ρ→k x=some r→T x H1):rT X fa σ H T:=by
 rcases cR e with ⟨x,e1,e2⟩ | ⟨c,e1,e2⟩
 ·exact ⟨ρ,_,H0,G₀,G,e1,R,fun G1 H1 g1=>h x G1 H1 g1 (R.more g1) e2⟩
 ·exact ⟨ρ,_,H0,G₀,G,e1,R,hx c e2⟩
theorem bA {fa:AF} {β:Type} {k:List PyData→Mm β} {r:Re β} (R:RepS X.K H0 G₀ G H σ ρ) (e:bnd (fa ρ) k=some r) {T:List V→Hp→Prop} (hx:∀ c,r=.ex c→lC X H0 G₀ G ρ c)
  (h:∀ x v G1 H1,Grow G H G1 H1→RepS X.K H0 G₀ G1 H1 σ ρ→RepAll X.K G1 v x→k x=some r→T v H1):rA X fa σ H T:=by
 rcases cR e with ⟨x,e1,e2⟩ | ⟨c,e1,e2⟩
 ·exact ⟨ρ,_,H0,G₀,G,e1,R,fun v G1 H1 g1 rv=>h x v G1 H1 g1 (R.more g1) rv e2⟩
 ·exact ⟨ρ,_,H0,G₀,G,e1,R,hx c e2⟩
theorem a4k.x {Q:VK} {r:Re PyData} (q:a4k X H0 G₀ G ρ H Q r):∀ c,r=.ex c→lC X H0 G₀ G ρ c:=fun c e=>by subst e;exact q
theorem a8E.x {Q:Bool→Hp→Prop} {r:Re Bool} (q:a8E X H0 G₀ G ρ H Q r):∀ c,r=.ex c→lC X H0 G₀ G ρ c:=fun c e=>by subst e;exact q
theorem a8F.x {Q:List V→Hp→Prop} {r:Re (List PyData)} (q:a8F X H0 G₀ G ρ H Q r):∀ c,r=.ex c→lC X H0 G₀ G ρ c:=fun c e=>by subst e;exact q
end
section
variable {X:Cx} {e a b c:Expr} {es:List Expr} {pos p:Pos} {fa fb fc:EF}
theorem yY {f:EF} (h:∀ ρ r,f ρ=some r→∃ d,r=.ok d∧PD X e ρ d):DE X e f:=⟨fun pins s σ H Q I ⟨ρ,r,H0,G₀,G,ef,R,q⟩=>by
 obtain ⟨d,rfl,hd⟩:=h ρ r ef
 exact hd.run H0 G₀ G pins s σ H Q I R q⟩
theorem DE.pd {f:EF} (h:DE X e f) {ρ:List Ent} {d:PyData} (q:f ρ=some (.ok d)):PD X e ρ d:=⟨fun H0 G₀ G pins s σ H Q I R k=>h.run pins s σ H Q I ⟨ρ,_,H0,G₀,G,q,R,k⟩⟩
theorem DT.ptd {f:TF} (h:DT X e f) {ρ:List Ent} {d:Bool} (q:f ρ=some (.ok d)):PTD X e ρ d:=⟨fun H0 G₀ G pins s σ H Q I R k=>h.run pins s σ H Q I ⟨ρ,_,H0,G₀,G,q,R,k⟩⟩
def cst (d:PyData):EF:=fun _=>some (.ok d)
def var (i:Nat):EF:=fun ρ=>match ρ[i]? with
 | some (.val d)=>some (.ok d)
 | _=>none
theorem aI {i:Int} {j}:DE X (.Constant (.int i) j pos) (cst (.int i)):=yY fun ρ r e=>⟨_,(qA e).symm,b4Q⟩
theorem cQ {x:Str} {j}:DE X (.Constant (.str x) j pos) (cst (.str x)):=yY fun ρ r e=>⟨_,(qA e).symm,b4P⟩
theorem eF {x:Bool} {j}:DE X (.Constant (.bool x) j pos) (cst (.bool x)):=yY fun ρ r e=>⟨_,(qA e).symm,b2l⟩
theorem sF {x:Str} {i:Int} (hg:Gl X x) (hm:∃ t,X.mg x=some (.int i t)) (hd:(x==("__debug__" : Str))=false:=by decide):DE X (.Name x pos) (cst (.int i)):=yY fun ρ r e=>⟨_,(qA e).symm,by
 obtain ⟨t,hm⟩:=hm
 exact a9C hg hm hd⟩
theorem b4i {i:Nat} {ρ:List Ent} {r:Re PyData} (h:var i ρ=some r):∃ d,r=.ok d∧ρ[i]?=some (.val d):=by
 unfold var at h
 split at h
 ·rename_i d e;exact ⟨d,(qA h).symm,e⟩
 ·cases h
theorem aA (i:Nat) {x:Str} (hN:X.N[i]?=some x:=by rfl) (hv:Vis X.env.scope x:=by first | exact jx rfl | exact jX (jx rfl) | exact jX (jX rfl)) (hd:(x==("__debug__" : Str))=false:=by decide)
  (hcd:(x==("__classdict__" : Str))=false:=by decide):DE X (.Name x pos) (var i):=yY fun ρ r e=>by
 obtain ⟨d,e1,e2⟩:=b4i e
 exact ⟨d,e1,b4O i e2 hN hv hd hcd⟩
structure OpD (X:Cx) (op:Operator) (x y d:PyData):Prop where
 ex:∃ r:R2,OpR X (binaryOp op) r∧∀ v u G H Q,bH G H→Rep X.K G v x→Rep X.K G u y→(∀ w G' H',Grow G H G' H'→Rep X.K G' w d→Q w H')→r v u H Q
def op2 (g:PyData→PyData→Option PyData) (fa fb:EF):EF:=fun ρ=>bnd (fa ρ) fun x=>bnd (fb ρ) fun y=>lft (g x y)
theorem mF {f:Value→Value→Sem Value}:OpR X f (fun v u H Q=>∃ r,OpR X f r∧r v u H Q):=fun pins s σ H x y v u Q I rx ry ⟨_,h,q⟩=>h pins s σ H x y v u Q I rx ry q
theorem bC {op:Operator} {g:PyData→PyData→Option PyData} (hg:∀ x y d,g x y=some d→OpD X op x y d) (ha:DE X a fa) (hb:DE X b fb):DE X (.BinOp a op b pos) (op2 g fa fb):=
 ⟨fun pins s σ H Q I ⟨ρ,r,H0,G₀,G,e,R,q⟩=>b3N mF ha.run hb.run pins s σ H Q I (bE R e q.x fun x v G1 H1 g1 R1 rv e1=>bE R1 e1 (q.more g1).x fun y u G2 H2 g2 R2 ru e2=>by
  obtain ⟨d,ed,rfl⟩:=aY e2
  obtain ⟨r,h1,h2⟩:=(hg x y d ed).ex
  exact ⟨r,h1,h2 v u G2 H2 Q g2.sub (rv.mono g2.gg) ru fun w G' H' g' rw'=>q w G' H' ((g1.trans g2).trans g') rw'⟩)⟩
def aG:AF:=fun _=>some (.ok [])
def aC (f:EF) (g:AF):AF:=fun ρ=>bnd (f ρ) fun x=>bnd (g ρ) fun xs=>some (.ok (x::xs))
theorem aE:DA X [] aG:=⟨fun pos pins s σ H Q I ⟨ρ,r,H0,G₀,G,e,R,q⟩=>iX pos pins s σ H Q I (by
 cases (qA e);exact q [] G H (.refl R.sub) .nil)⟩
theorem aB {f:AF} (ha:DE X e fa) (hr:DA X es f) (hs:starEach (e::es) X.env=(false,eval e X.env)::starEach es X.env:=by rfl):DA X (e::es) (aC fa f):=
 ⟨fun pos pins s σ H Q I ⟨ρ,r,H0,G₀,G,e,R,q⟩=>eE ha.run hr.run hs pos pins s σ H Q I (bE R e q.x fun x v G1 H1 g1 R1 rv e1=>bA R1 e1 (q.more g1).x fun ys us G2 H2 g2 R2 ru e2=>by
  cases (qA e2)
  exact q _ G2 H2 (g1.trans g2) (.cons (rv.mono g2.gg) ru))⟩
def fK (n:Nat):Bool:=decide (n≤100000)
theorem lE {n:Nat} (h:fK n=true):n≤sizeLine:=ql (of_decide_eq_true h) (by decide)
theorem b3I {n:Nat} (h:fK n=true):n<sizeLine:=kF (of_decide_eq_true h) (by decide)
def a1e (ds:List PyData):Option PyData:=if fK ds.length then some (.tuple ds) else none
def a1f (ds:List PyData):Option PyData:=if fK ds.length then some (.list ds) else none
def fN (f:AF):EF:=fun ρ=>bnd (f ρ) fun xs=>lft (a1e xs)
def gP (f:AF):EF:=fun ρ=>bnd (f ρ) fun xs=>lft (a1f xs)
theorem a9V {ds:List PyData} {d:PyData} (h:a1e ds=some d):d=.tuple ds∧ds.length≤sizeLine:=by
 unfold a1e at h
 split at h
 ·rename_i z;exact ⟨(qA h).symm,lE z⟩
 ·cases h
theorem a9W {ds:List PyData} {d:PyData} (h:a1f ds=some d):d=.list ds∧ds.length≤sizeLine:=by
 unfold a1f at h
 split at h
 ·rename_i z;exact ⟨(qA h).symm,lE z⟩
 ·cases h
theorem eJ {x1} {f:AF} (h:DA X es f):DE X (.Tuple es x1 pos) (fN f):=⟨fun pins s σ H Q I ⟨ρ,r,H0,G₀,G,e,R,q⟩=>b4I h.run pins s σ H Q I (bA R e q.x fun xs vs G1 H1 g1 R1 rv e1=>by
 obtain ⟨d,ed,rfl⟩:=aY e1
 obtain ⟨rfl,hz⟩:=a9V ed
 exact ⟨by rw [rv.length];exact hz,fun p hp=>q _ _ _ (g1.trans (.put g1.sub hp)) (.tuple (.of aL) (rv.mono (bJ (g1.sub.free hp))))⟩)⟩
theorem eR {f:AF} (h:DA X es f):DE X (.List es pos) (gP f):=⟨fun pins s σ H Q I ⟨ρ,r,H0,G₀,G,e,R,q⟩=>a9y h.run pins s σ H Q I (bA R e q.x fun xs vs G1 H1 g1 R1 rv e1=>by
 obtain ⟨d,ed,rfl⟩:=aY e1
 obtain ⟨rfl,hz⟩:=a9W ed
 exact ⟨by rw [rv.length];exact hz,fun p hp=>q _ _ _ (g1.trans (.put g1.sub hp)) (.list (.of aL) (rv.mono (bJ (g1.sub.free hp))))⟩)⟩
def mV (g:PyData→PyData→Option Bool) (fa fb:EF):EF:=fun ρ=>bnd (fa ρ) fun x=>bnd (fb ρ) fun y=>lft ((g x y).map .bool)
def cH (g:PyData→PyData→Option Bool) (fa fb:EF):TF:=fun ρ=>bnd (fa ρ) fun x=>bnd (fb ρ) fun y=>lft (g x y)
theorem pT {op:CmpOp} {g:PyData→PyData→Option Bool} (hg:∀ x y t,g x y=some t→CmpD X op x y t) (ha:DE X a fa) (hb:DE X b fb) (hm:behindInMarks op b=false:=by first | exact a9M _ | with_unfolding_all rfl):DE X (.Compare a [op] [b] pos) (mV g fa fb):=
 ⟨fun pins s σ H Q I ⟨ρ,r,H0,G₀,G,e,R,q⟩=>b2i mF ha.run hb.run hm pins s σ H Q I (bE R e q.x fun x v G1 H1 g1 R1 rv e1=>bE R1 e1 (q.more g1).x fun y u G2 H2 g2 R2 ru e2=>by
  obtain ⟨d,ed,rfl⟩:=aY e2
  obtain ⟨t,et,rfl⟩:=qK.mp ed
  obtain ⟨r,h1,h2⟩:=(hg x y t et).ex
  exact ⟨r,h1,h2 v u G2 H2 Q g2.sub (rv.mono g2.gg) ru (q _ _ _ (g1.trans g2) (.bool _))⟩)⟩
theorem bQ {op:CmpOp} {g:PyData→PyData→Option Bool} (hg:∀ x y t,g x y=some t→CmpD X op x y t) (ha:DE X a fa) (hb:DE X b fb) (hm:behindInMarks op b=false:=by first | exact a9M _ | with_unfolding_all rfl):DT X (.Compare a [op] [b] pos) (cH g fa fb):=
 ⟨fun pins s σ H Q I ⟨ρ,r,H0,G₀,G,e,R,q⟩=>b1X mF ha.run hb.run hm pins s σ H Q I (bE R e q.x fun x v G1 H1 g1 R1 rv e1=>bE R1 e1 (q.more g1).x fun y u G2 H2 g2 R2 ru e2=>by
  obtain ⟨t,et,rfl⟩:=aY e2
  obtain ⟨r,h1,h2⟩:=(hg x y t et).ex
  exact ⟨r,h1,h2 v u G2 H2 _ g2.sub (rv.mono g2.gg) ru ⟨_,rfl,q _ _ (g1.trans g2)⟩⟩)⟩
def b6b (g g':PyData→PyData→Option Bool) (fa fb fc:EF):EF:=fun ρ=>bnd (fa ρ) fun x=>bnd (fb ρ) fun y=>bnd (lft (g x y)) fun t=>if t then bnd (fc ρ) fun z=>lft ((g' y z).map .bool) else some (.ok (.bool false))
def a3Z (g g':PyData→PyData→Option Bool) (fa fb fc:EF):TF:=fun ρ=>bnd (fa ρ) fun x=>bnd (fb ρ) fun y=>bnd (lft (g x y)) fun t=>if t then bnd (fc ρ) fun z=>lft (g' y z) else some (.ok false)
theorem b5T {op op':CmpOp} {g g':PyData→PyData→Option Bool} (hg:∀ x y t,g x y=some t→CmpD X op x y t) (hg':∀ x y t,g' x y=some t→CmpD X op' x y t) (ha:DE X a fa) (hb:DE X b fb) (hc:DE X c fc)
  (hm:lastMarks [op,op'] [b,c]=false:=by with_unfolding_all rfl):DE X (.Compare a [op,op'] [b,c] pos) (b6b g g' fa fb fc):=
 ⟨fun pins s σ H Q I ⟨ρ,r,H0,G₀,G,e,R,q⟩=>a9A mF mF ha.run hb.run hc.run hm pins s σ H Q I (bE R e q.x fun x v G1 H1 g1 R1 rv e1=>bE R1 e1 (q.more g1).x fun y u G2 H2 g2 R2 ru e2=>by
  rcases cR e2 with ⟨t,et,e3⟩ | ⟨c,et,_⟩
  ·obtain ⟨t',et',z⟩:=aY et
   cases z
   obtain ⟨r1,h1,h2⟩:=(hg x y _ et').ex
   refine ⟨r1,h1,h2 v u G2 H2 _ g2.sub (rv.mono g2.gg) ru ⟨_,rfl,?_⟩⟩
   cases t with
   | false=>rw [if_neg (by decide)] at e3 ⊢;cases (qA e3);exact q _ _ _ (g1.trans g2) (.bool _)
   | true=>
    rw [if_pos rfl] at e3 ⊢
    exact bE R2 e3 ((q.more g1).more g2).x fun z w G3 H3 g3 R3 rw' e4=>by
     obtain ⟨d,ed,rfl⟩:=aY e4
     obtain ⟨t,et,rfl⟩:=qK.mp ed
     obtain ⟨r2,h3,h4⟩:=(hg' y z t et).ex
     exact ⟨r2,h3,h4 u w G3 H3 Q g3.sub (ru.mono g3.gg) rw' (q _ _ _ ((g1.trans g2).trans g3) (.bool _))⟩
  ·obtain ⟨_,_,z⟩:=aY et;cases z)⟩
theorem a2z {op op':CmpOp} {g g':PyData→PyData→Option Bool} (hg:∀ x y t,g x y=some t→CmpD X op x y t) (hg':∀ x y t,g' x y=some t→CmpD X op' x y t) (ha:DE X a fa) (hb:DE X b fb) (hc:DE X c fc)
  (hm:lastMarks [op,op'] [b,c]=false:=by with_unfolding_all rfl):DT X (.Compare a [op,op'] [b,c] pos) (a3Z g g' fa fb fc):=
 ⟨fun pins s σ H Q I ⟨ρ,r,H0,G₀,G,e,R,q⟩=>a9p mF mF ha.run hb.run hc.run hm pins s σ H Q I (bE R e q.x fun x v G1 H1 g1 R1 rv e1=>bE R1 e1 (q.more g1).x fun y u G2 H2 g2 R2 ru e2=>by
  rcases cR e2 with ⟨t,et,e3⟩ | ⟨c,et,_⟩
  ·obtain ⟨t',et',z⟩:=aY et
   cases z
   obtain ⟨r1,h1,h2⟩:=(hg x y _ et').ex
   refine ⟨r1,h1,h2 v u G2 H2 _ g2.sub (rv.mono g2.gg) ru ⟨_,rfl,?_⟩⟩
   cases t with
   | false=>rw [if_neg (by decide)] at e3;cases (qA e3);exact b8p ⟨false,rfl,q _ _ (g1.trans g2)⟩
   | true=>
    rw [if_pos rfl] at e3
    refine b8o ?_
    exact bE R2 e3 ((q.more g1).more g2).x fun z w G3 H3 g3 R3 rw' e4=>by
     obtain ⟨t,et,rfl⟩:=aY e4
     obtain ⟨r2,h3,h4⟩:=(hg' y z t et).ex
     exact ⟨r2,h3,h4 u w G3 H3 _ g3.sub (ru.mono g3.gg) rw' ⟨_,rfl,q _ _ ((g1.trans g2).trans g3)⟩⟩
  ·obtain ⟨_,_,z⟩:=aY et;cases z)⟩
end
end L2.L3
namespace L2.L3
open PySem PySem.Spec PyProof.Rows
section
variable {X:Cx} {e a b c:Expr} {es rest:List Expr} {pos p:Pos} {fa fb fc:EF} {ft fu:TF}
def a2W:PyData→Option Bool
 | .none=>some false
 | .bool b=>some b
 | .int i=>some (i != 0)
 | .str x=>if fK x.length then some ((x.length:Int) != 0) else none
 | .list ds=>some (!ds.isEmpty)
 | .tuple ds=>some (!ds.isEmpty)
 | .dict _=>none
theorem a0T {K:qB} {G:Hp} {vs:List V} {ds:List PyData} (r:RepAll K G vs ds):ds.isEmpty=vs.isEmpty:=by
 have h:=r.length
 cases vs<;>cases ds<;>simp at h ⊢
theorem b1E {K:qB} {G H:Hp} {v:V} {d:PyData} {t:Bool} (s:bH G H) (r:Rep K G v d) (h:a2W d=some t):b6h K v H t:=by
 cases r with
 | none=>exact (qA h).symm
 | bool b=>exact (qA h).symm
 | int i=>exact (qA h).symm
 | str x=>
  have h:(if fK x.length=true then some ((x.length:Int) != 0) else none)=some t:=h
  split at h
  ·rename_i z;exact ⟨lE z,(qA h).symm⟩
  ·cases h
 | list hq r=>exact .inl ⟨_,s.seq hq,by rw [←a0T r];exact (qA h).symm⟩
 | tuple hq r=>exact .inr (.inl ⟨_,gM s hq,by rw [←a0T r];exact (qA h).symm⟩)
 | dict _ _ _=>cases h
def rB (fa:EF):TF:=fun ρ=>bnd (fa ρ) fun x=>lft (a2W x)
theorem pR (ha:DE X a fa) (he:∀ whole,isTrue a X.env whole=(do let v ←whole;standAt a.pos;holding [v] (truthy v)):=by intro _;rfl):DT X a (rB fa):=
 ⟨fun pins s σ H Q I ⟨ρ,r,H0,G₀,G,e,R,q⟩=>a9n ha.run he pins s σ H Q I (bE R e q.x fun x v G1 H1 g1 R1 rv e1=>by
  obtain ⟨t,et,rfl⟩:=aY e1
  exact ⟨t,b1E g1.sub rv et,q _ _ g1⟩)⟩
def a2d (ft:TF):TF:=fun ρ=>bnd (ft ρ) fun t=>some (.ok (!t))
theorem uG (ha:DT X a ft):DT X (.UnaryOp .Not a pos) (a2d ft):=
 ⟨fun pins s σ H Q I ⟨ρ,r,H0,G₀,G,e,R,q⟩=>b4C ha.run pins s σ H Q I (bT R e q.x fun t G1 H1 g1 R1 e1=>by
  cases (qA e1);exact q _ _ g1)⟩
def oW:PyData→Option Bool
 | .bool b=>some b
 | _=>none
def b5b (fa:EF):EF:=fun ρ=>bnd (fa ρ) fun x=>lft ((oW x).map fun t=>.bool (!t))
theorem a0i {d:PyData} {t:Bool} (h:oW d=some t):d=.bool t:=by
 cases d<;>first | (cases h;done) | (cases (qA h);rfl)
theorem b5S (ha:DE X a fa):DE X (.UnaryOp .Not a pos) (b5b fa):=
 ⟨fun pins s σ H Q I ⟨ρ,r,H0,G₀,G,e,R,q⟩=>b4K ha.run pins s σ H Q I (bE R e q.x fun x v G1 H1 g1 R1 rv e1=>by
  obtain ⟨d,ed,rfl⟩:=aY e1
  obtain ⟨t,et,rfl⟩:=qK.mp ed
  cases a0i et
  cases rv
  exact ⟨_,rfl,q _ _ _ g1 (.bool _)⟩)⟩
def a0D (f g:TF):TF:=fun ρ=>bnd (f ρ) fun t=>if t then g ρ else some (.ok false)
def orT (f g:TF):TF:=fun ρ=>bnd (f ρ) fun t=>if t then some (.ok true) else g ρ
theorem a2y (ha:DT X a ft):DW X (.BoolOp .And [a] pos) ft:=⟨b1T ha.run⟩
theorem pQ (ha:DT X a ft):DW X (.BoolOp .Or [a] pos) ft:=⟨b4A ha.run⟩
theorem a5r (ha:DT X a ft) (hb:DW X (.BoolOp .And (b::rest) pos) fu):DW X (.BoolOp .And (a::b::rest) pos) (a0D ft fu):=
 ⟨fun wh pins s σ H Q I ⟨ρ,r,H0,G₀,G,e,R,q⟩=>b4B ha.run hb.run wh pins s σ H Q I (bT R e q.x fun t G1 H1 g1 R1 e1=>by
  cases t with
  | true=>rw [if_pos rfl] at e1 ⊢;exact ⟨ρ,r,H0,G₀,G1,e1,R1,q.more g1⟩
  | false=>rw [if_neg (by decide)] at e1 ⊢;cases (qA e1);exact q _ _ g1)⟩
theorem oU (ha:DT X a ft) (hb:DW X (.BoolOp .Or (b::rest) pos) fu):DW X (.BoolOp .Or (a::b::rest) pos) (orT ft fu):=
 ⟨fun wh pins s σ H Q I ⟨ρ,r,H0,G₀,G,e,R,q⟩=>b6M ha.run hb.run wh pins s σ H Q I (bT R e q.x fun t G1 H1 g1 R1 e1=>by
  cases t with
  | true=>rw [if_pos rfl] at e1 ⊢;cases (qA e1);exact q _ _ g1
  | false=>rw [if_neg (by decide)] at e1 ⊢;exact ⟨ρ,r,H0,G₀,G1,e1,R1,q.more g1⟩)⟩
theorem DW.dt (h:DW X e ft):DT X e ft:=⟨h.run _⟩
def a0l (f g:EF):EF:=fun ρ=>bnd (f ρ) fun x=>bnd (lft (oW x)) fun t=>if t then g ρ else some (.ok (.bool false))
def orE (f g:EF):EF:=fun ρ=>bnd (f ρ) fun x=>bnd (lft (oW x)) fun t=>if t then some (.ok (.bool true)) else g ρ
theorem yX {op} (ha:DE X a fa):DE X (.BoolOp op [a] pos) fa:=⟨b4J ha.run⟩
theorem pU (ha:DE X a fa) (hb:DE X (.BoolOp .And (b::rest) pos) fb):DE X (.BoolOp .And (a::b::rest) pos) (a0l fa fb):=
 ⟨fun pins s σ H Q I ⟨ρ,r,H0,G₀,G,e,R,q⟩=>b4N ha.run hb.run pins s σ H Q I (bE R e q.x fun x v G1 H1 g1 R1 rv e1=>by
  rcases cR e1 with ⟨t,et,e2⟩ | ⟨c,et,_⟩
  ·obtain ⟨t',et',z⟩:=aY et
   cases z
   cases a0i et'
   cases rv
   refine ⟨t,rfl,?_⟩
   cases t with
   | true=>rw [if_pos rfl] at e2 ⊢;exact ⟨ρ,r,H0,G₀,G1,e2,R1,q.more g1⟩
   | false=>rw [if_neg (by decide)] at e2 ⊢;cases (qA e2);exact q _ _ _ g1 (.bool _)
  ·obtain ⟨_,_,z⟩:=aY et;cases z)⟩
def ifE (f:TF) (fa fb:EF):EF:=fun ρ=>bnd (f ρ) fun t=>if t then fa ρ else fb ρ
def ixD (x i:PyData):Option PyData:=match x,i with
 | .tuple ds,.int k=>atI ds k
 | .list ds,.int k=>atI ds k
 | .str z,.int k=>if fK z.length then (atI z.cps.toList k).map fun c=>.str ⟨#[c]⟩ else none
 | _,_=>none
theorem b2J {K:qB} {G H:Hp} {v u:V} {x i d:PyData} {Q:VK} (s:bH G H) (rv:Rep K G v x) (ru:Rep K G u i) (h:ixD x i=some d) (q:∀ w,Rep K G w d→Q w H):rIx K v u H Q:=by
 cases ru with
 | int k=>
  cases rv with
  | tuple hq r=>
   obtain ⟨w,e,rw'⟩:=a6Y r (show atI _ k=some d from h)
   exact .inr (.inl ⟨_,_,_,w,rfl,rfl,gM s hq,e,q w rw'⟩)
  | list hq r=>
   obtain ⟨w,e,rw'⟩:=a6Y r (show atI _ k=some d from h)
   exact .inl ⟨_,_,_,w,rfl,rfl,s.seq hq,e,q w rw'⟩
  | str z=>
   have h:(if fK z.length=true then (atI z.cps.toList k).map fun c=>jg ⟨#[c]⟩ else none)=some d:=h
   split at h
   ·rename_i hz
    obtain ⟨c,ec,rfl⟩:=qK.mp h
    exact .inr (.inr ⟨_,_,c,rfl,rfl,lE hz,ec,q _ (.str _)⟩)
   ·cases h
  | none=>cases h
  | bool b=>cases h
  | int j=>cases h
  | dict _ _ _=>cases h
 | none=>cases rv<;>cases h
 | bool b=>cases rv<;>cases h
 | str b=>cases rv<;>cases h
 | list _ _=>cases rv<;>cases h
 | tuple _ _=>cases rv<;>cases h
 | dict _ _ _=>cases rv<;>cases h
theorem dQ (ha:DE X a fa) (hb:DE X b fb) (hs:a2Q b:=by exact fun _ _=>rfl):DE X (.Subscript a b pos) (op2 ixD fa fb):=
 ⟨fun pins s σ H Q I ⟨ρ,r,H0,G₀,G,e,R,q⟩=>b3O b5x ha.run hb.run hs pins s σ H Q I (bE R e q.x fun x v G1 H1 g1 R1 rv e1=>bE R1 e1 (q.more g1).x fun y u G2 H2 g2 R2 ru e2=>by
  obtain ⟨d,ed,rfl⟩:=aY e2
  exact b2J g2.sub (rv.mono g2.gg) ru ed fun w rw'=>q w _ _ (g1.trans g2) rw')⟩
structure CallD (X:Cx) (f:Value) (ds:List PyData) (d:PyData):Prop where
 ex:∃ r:List V→Hp→VK→Prop,dU X f r∧∀ vs G H Q,bH G H→RepAll X.K G vs ds→(∀ w G' H',Grow G H G' H'→Rep X.K G' w d→Q w H')→r vs H Q
theorem a1C {f:Value}:dU X f (fun vs H Q=>∃ r,dU X f r∧r vs H Q):=fun pins s σ H vs us Q I rx ⟨_,h,q⟩=>h pins s σ H vs us Q I rx q
def cI (g:List PyData→Option PyData) (fa:AF):EF:=fun ρ=>bnd (fa ρ) fun xs=>lft (g xs)
theorem bL {id:String} {x:Str} {g:List PyData→Option PyData} {f:AF} (hd:∀ ds d,g ds=some d→CallD X (.builtin id) ds d) (hm:X.mg x=none) (hv:bootBuiltins x=some (.builtin id)) (ha:DA X (e::es) f) (hg:Gl X x:=by rfl)
  (hn:x ≠ "__name__":=by decide) (hdb:(x==("__debug__" : Str))=false:=by decide)
  (he:starEach (e::es) X.env=(false,eval e X.env)::starEach es X.env:=by rfl) (hpl:(backTo pos (starEach es X.env)).any (·.1)=false:=by rfl):DE X (.Call (.Name x p) (e::es) [] pos) (cI g f):=
 ⟨fun pins s σ H Q I ⟨ρ,r,H0,G₀,G,e,R,q⟩=>rH a1C hg hm hv ha.run hn hdb he hpl pins s σ H Q I (bA R e q.x fun xs vs G1 H1 g1 R1 rv e1=>by
  obtain ⟨d,ed,rfl⟩:=aY e1
  obtain ⟨r,h1,h2⟩:=(hd xs d ed).ex
  exact ⟨r,h1,h2 vs G1 H1 Q g1.sub rv fun w G' H' g' rw'=>q w G' H' (g1.trans g') rw'⟩)⟩
theorem dI {T:String} {x:Str} {g:List PyData→Option PyData} {f:AF} (hd:∀ ds d,g ds=some d→CallD X (.type T) ds d) (hm:X.mg x=none) (hv:bootBuiltins x=some (.type T)) (ha:DA X (e::es) f) (hg:Gl X x:=by rfl)
  (hn:x ≠ "__name__":=by decide) (hdb:(x==("__debug__" : Str))=false:=by decide)
  (he:starEach (e::es) X.env=(false,eval e X.env)::starEach es X.env:=by rfl) (hpl:(backTo pos (starEach es X.env)).any (·.1)=false:=by rfl):DE X (.Call (.Name x p) (e::es) [] pos) (cI g f):=
 ⟨fun pins s σ H Q I ⟨ρ,r,H0,G₀,G,e,R,q⟩=>a0V a1C hg hm hv ha.run hn hdb he hpl pins s σ H Q I (bA R e q.x fun xs vs G1 H1 g1 R1 rv e1=>by
  obtain ⟨d,ed,rfl⟩:=aY e1
  obtain ⟨r,h1,h2⟩:=(hd xs d ed).ex
  exact ⟨r,h1,h2 vs G1 H1 Q g1.sub rv fun w G' H' g' rw'=>q w G' H' (g1.trans g') rw'⟩)⟩
def gT:Ent→Ent
 | .lst ds=>.val (.list ds)
 | .dct kvs=>.val (.dict (kvs.map fun p=>(dB p.1,p.2)))
 | e=>e
def frzAll (ρ:List Ent):List Ent:=ρ.map gT
def xO:PyData→Bool
 | .none=>true
 | .bool _=>true
 | .int _=>true
 | .str _=>true
 | _=>false
theorem Rep.plain {K:qB} {G G':Hp} {v:V} {d:PyData} (h:xO d=true) (r:Rep K G v d):Rep K G' v d:=by
 cases r with
 | none=>exact .none
 | bool b=>exact .bool b
 | int i=>exact .int i
 | str x=>exact .str x
 | list _ _=>cases h
 | tuple _ _=>cases h
 | dict _ _ _=>cases h
end
end L2.L3
namespace L2.L3
open PySem PySem.Spec PyProof.Rows
section
variable {K:qB} {H0 G₀ G H:Hp} {σ:St} {ρ:List Ent}
theorem b0J (ρ:List Ent) (n:Nat):(∃ e,ρ[n]?=some e∧(ρ.take (n+1)).map gT++ρ.drop (n+1)=((ρ.take n).map gT++ρ.drop n).set n (gT e))∨(ρ[n]?=none∧(ρ.take (n+1)).map gT++ρ.drop (n+1)=(ρ.take n).map gT++ρ.drop n):=by
 by_cases hn:n<ρ.length
 ·refine .inl ⟨ρ[n],by simp [hn],?_⟩
  apply ja
  intro j
  rw [ku]
  by_cases hj:j<n
  ·rw [if_neg (by omega),jL (by simp;omega),jL (by simp;omega),qP,qP,jy (by omega),jy (by omega)]
  ·by_cases hj2:j=n
   ·subst hj2
    rw [if_pos rfl,if_pos (by simp;omega),jL (by simp;omega),qP,jy (by omega)]
    simp [hn]
   ·rw [if_neg (by omega),jW (by simp;omega),jW (by simp;omega),vf,vf]
    simp only [qD,ji]
    congr 1
    omega
 ·refine .inr ⟨by simp;omega,?_⟩
  rw [kl (by omega),kl (by omega),List.drop_of_length_le (by omega),List.drop_of_length_le (by omega)]
theorem RepS.frzTo (R:RepS K H0 G₀ G H σ ρ):∀ n:Nat,∃ G',bH G G'∧RepS K H0 G₀ G' H σ ((ρ.take n).map gT++ρ.drop n)
 | 0=>⟨G,.refl _,by simpa using R⟩
 | n+1=>by
  obtain ⟨G1,s1,R1⟩:=R.frzTo n
  rcases b0J ρ n with ⟨e,he,eq⟩ | ⟨_,eq⟩
  ·have hn:n<ρ.length:=(qS.mp he).1
   have at':((ρ.take n).map gT++ρ.drop n)[n]?=some e:=by
    rw [jW (by simp;omega),vf]
    simp only [qD,ji]
    rw [show n+(n - min n ρ.length)=n by omega]
    exact he
   rw [eq]
   cases e with
   | lst ds=>
    obtain ⟨G2,s2,R2⟩:=R1.freeze at'
    exact ⟨G2,s1.trans s2,R2⟩
   | dct kvs=>
    obtain ⟨G2,s2,R2⟩:=R1.freezeD at'
    exact ⟨G2,s1.trans s2,R2⟩
   | val d=>
    refine ⟨G1,s1,?_⟩
    have:((ρ.take n).map gT++ρ.drop n).set n (gT (.val d))=(ρ.take n).map gT++ρ.drop n:=by
     apply ja
     intro j
     rw [ku]
     split
     ·rename_i h;subst h
      rw [at']
      have:=(qS.mp at').1
      rw [if_pos this];rfl
     ·rfl
    rw [this];exact R1
   | no=>
    refine ⟨G1,s1,?_⟩
    have:((ρ.take n).map gT++ρ.drop n).set n (gT .no)=(ρ.take n).map gT++ρ.drop n:=by
     apply ja
     intro j
     rw [ku]
     split
     ·rename_i h;subst h
      rw [at']
      have:=(qS.mp at').1
      rw [if_pos this];rfl
     ·rfl
    rw [this];exact R1
   | exc c=>
    refine ⟨G1,s1,?_⟩
    have:((ρ.take n).map gT++ρ.drop n).set n (gT (.exc c))=(ρ.take n).map gT++ρ.drop n:=by
     apply ja
     intro j
     rw [ku]
     split
     ·rename_i h;subst h
      rw [at']
      have:=(qS.mp at').1
      rw [if_pos this];rfl
     ·rfl
    rw [this];exact R1
   | nst dss=>
    refine ⟨G1,s1,?_⟩
    have:((ρ.take n).map gT++ρ.drop n).set n (gT (.nst dss))=(ρ.take n).map gT++ρ.drop n:=by
     apply ja
     intro j
     rw [ku]
     split
     ·rename_i h;subst h
      rw [at']
      have:=(qS.mp at').1
      rw [if_pos this];rfl
     ·rfl
    rw [this];exact R1
  ·rw [eq];exact ⟨G1,s1,R1⟩
theorem RepS.frzAll (R:RepS K H0 G₀ G H σ ρ):∃ G',bH G G'∧RepS K H0 G₀ G' H σ (frzAll ρ):=by
 obtain ⟨G',s,R'⟩:=R.frzTo ρ.length
 refine ⟨G',s,?_⟩
 have:(ρ.take ρ.length).map gT++ρ.drop ρ.length=L3.frzAll ρ:=by simp [L3.frzAll]
 rw [this] at R'
 exact R'
end
section
variable {X:Cx} {e a b c:Expr} {es rest:List Expr} {pos p:Pos} {fa fb fc:EF} {ft fu:TF}
def thT (f:TF):TF:=fun ρ=>match f (frzAll ρ) with
 | some (.ok b)=>some (.ok b)
 | _=>none
def thE (f:EF):EF:=fun ρ=>match f (frzAll ρ) with
 | some (.ok d)=>if xO d then some (.ok d) else none
 | _=>none
theorem b3W (h:DT X e ft):DT X e (thT ft):=⟨fun pins s σ H Q I ⟨ρ,r,H0,G₀,G,ef,R,q⟩=>by
 unfold thT at ef
 split at ef
 ·rename_i b eb
  cases (qA ef)
  obtain ⟨G',s',R'⟩:=R.frzAll
  exact h.run pins s σ H Q I ⟨_,_,H0,G₀,G',eb,R',fun G2 H2 g2=>q G H2 ⟨.refl _,g2.hh,s'.trans (g2.gg.trans g2.sub),fun _ z _=>z,id⟩⟩
 ·cases ef⟩
theorem b7t (h:DE X e fa):DE X e (thE fa):=⟨fun pins s σ H Q I ⟨ρ,r,H0,G₀,G,ef,R,q⟩=>by
 unfold thE at ef
 split at ef
 ·rename_i d eb
  split at ef
  ·rename_i hp
   cases (qA ef)
   obtain ⟨G',s',R'⟩:=R.frzAll
   exact h.run pins s σ H Q I ⟨_,_,H0,G₀,G',eb,R',fun v G2 H2 g2 rv=>q v G H2 ⟨.refl _,g2.hh,s'.trans (g2.gg.trans g2.sub),fun _ z _=>z,id⟩ (rv.plain hp)⟩
  ·cases ef
 ·cases ef⟩
end
inductive So where
 | nx (ρ:List Ent)
 | rt (d:PyData)
 | bk (ρ:List Ent)
 | ct (ρ:List Ent)
 | xc (c:Str) (ρ:List Ent)
abbrev SF:=List Ent→Option So
def bns {α:Type} (m:Mm α) (ρ:List Ent) (k:α→Option So):Option So:=match m with
 | some (.ok a)=>k a
 | some (.ex c)=>some (.xc c ρ)
 | none=>none
theorem nW {α:Type} {m:Mm α} {ρ:List Ent} {k:α→Option So} {r:So} (h:bns m ρ k=some r):(∃ a,m=some (.ok a)∧k a=some r)∨∃ c,m=some (.ex c)∧r=.xc c ρ:=by
 match m,h with
 | some (.ok a),h=>exact .inl ⟨a,rfl,h⟩
 | some (.ex c),h=>exact .inr ⟨c,rfl,(qA h).symm⟩
 | none,h=>cases h
def wL (X:Cx) (H0 G₀ G:Hp) (D:Ends):So→Prop
 | .nx ρ=>∀ G' H' σ',bH G G'→RepS X.K H0 G₀ G' H' σ' ρ→D.nx σ' H'
 | .rt d=>∀ v G' H',bH G G'→Grow G₀ H0 G' H'→Rep X.K G' v d→D.rt v H'
 | .bk ρ=>∀ G' H' σ',bH G G'→RepS X.K H0 G₀ G' H' σ' ρ→D.bk σ' H'
 | .ct ρ=>∀ G' H' σ',bH G G'→RepS X.K H0 G₀ G' H' σ' ρ→D.ct σ' H'
 | .xc c ρ=>lC X H0 G₀ G ρ c
theorem wL.mono {X:Cx} {H0 G₀ G G':Hp} {D:Ends} {o:So} (h:wL X H0 G₀ G D o) (s:bH G G'):wL X H0 G₀ G' D o:=by
 cases o with
 | nx ρ=>exact fun G2 H' σ' s2 R=>h G2 H' σ' (s.trans s2) R
 | rt d=>exact fun v G2 H' s2 g r=>h v G2 H' (s.trans s2) g r
 | bk ρ=>exact fun G2 H' σ' s2 R=>h G2 H' σ' (s.trans s2) R
 | ct ρ=>exact fun G2 H' σ' s2 R=>h G2 H' σ' (s.trans s2) R
 | xc c ρ=>exact lC.mono h s
def rS (X:Cx) (f:SF):TS:=fun D σ H=>∃ ρ o H0 G₀ G,f ρ=some o∧RepS X.K H0 G₀ G H σ ρ∧wL X H0 G₀ G D o
structure DS (X:Cx) (st:Stmt) (f:SF):Prop where
 run:PS X st (rS X f)
structure DB (X:Cx) (sts:List Stmt) (f:SF):Prop where
 run:PSs X sts (rS X f)
section
variable {X:Cx} {H0 G₀ G H:Hp} {ρ:List Ent} {σ:St} {D:Ends} {o:So}
theorem sE {fa:EF} {k:PyData→Option So} (R:RepS X.K H0 G₀ G H σ ρ) (e:bns (fa ρ) ρ k=some o) (q:wL X H0 G₀ G D o) {T:VK}
  (h:∀ x v G1 H1,Grow G H G1 H1→RepS X.K H0 G₀ G1 H1 σ ρ→Rep X.K G1 v x→k x=some o→wL X H0 G₀ G1 D o→T v H1):rE X fa σ H T:=by
 rcases nW e with ⟨x,e1,e2⟩ | ⟨c,e1,e2⟩
 ·exact ⟨ρ,_,H0,G₀,G,e1,R,fun v G1 H1 g1 rv=>h x v G1 H1 g1 (R.more g1) rv e2 (q.mono g1.gg)⟩
 ·subst e2;exact ⟨ρ,_,H0,G₀,G,e1,R,q⟩
theorem sA {fa:AF} {k:List PyData→Option So} (R:RepS X.K H0 G₀ G H σ ρ) (e:bns (fa ρ) ρ k=some o) (q:wL X H0 G₀ G D o) {T:List V→Hp→Prop}
  (h:∀ x v G1 H1,Grow G H G1 H1→RepS X.K H0 G₀ G1 H1 σ ρ→RepAll X.K G1 v x→k x=some o→wL X H0 G₀ G1 D o→T v H1):rA X fa σ H T:=by
 rcases nW e with ⟨x,e1,e2⟩ | ⟨c,e1,e2⟩
 ·exact ⟨ρ,_,H0,G₀,G,e1,R,fun v G1 H1 g1 rv=>h x v G1 H1 g1 (R.more g1) rv e2 (q.mono g1.gg)⟩
 ·subst e2;exact ⟨ρ,_,H0,G₀,G,e1,R,q⟩
theorem sT {fa:TF} {k:Bool→Option So} (R:RepS X.K H0 G₀ G H σ ρ) (e:bns (fa ρ) ρ k=some o) (q:wL X H0 G₀ G D o) {T:Bool→Hp→Prop}
  (h:∀ x G1 H1,Grow G H G1 H1→RepS X.K H0 G₀ G1 H1 σ ρ→k x=some o→wL X H0 G₀ G1 D o→T x H1):rT X fa σ H T:=by
 rcases nW e with ⟨x,e1,e2⟩ | ⟨c,e1,e2⟩
 ·exact ⟨ρ,_,H0,G₀,G,e1,R,fun G1 H1 g1=>h x G1 H1 g1 (R.more g1) e2 (q.mono g1.gg)⟩
 ·subst e2;exact ⟨ρ,_,H0,G₀,G,e1,R,q⟩
end
section
variable {X:Cx} {st:Stmt} {rest:List Stmt} {f g:SF} {fa fb:EF} {ft:TF} {e c b:Expr} {pos:Pos}
def iY:SF:=fun ρ=>some (.nx ρ)
def bI (f g:SF):SF:=fun ρ=>match f ρ with
 | some (.nx ρ')=>g ρ'
 | r=>r
theorem eS:DB X [] iY:=⟨fun pins s σ H D I ⟨ρ,o,H0,G₀,G,e,R,q⟩=>b1Z pins s σ H D I (by cases (qA e);exact q G H σ (.refl _) R)⟩
theorem aK (h1:DS X st f) (h2:DB X rest g):DB X (st::rest) (bI f g):=⟨fun pins s σ H D I ⟨ρ,o,H0,G₀,G,e,R,q⟩=>by
 unfold bI at e
 split at e
 ·rename_i ρ' e1
  refine wpAny_execs_cons (thn (h1.run pins s σ H { D with nx:=fun σ' H'=>rS X g D σ' H' } I ⟨ρ,_,H0,G₀,G,e1,R,fun G' H' σ' s' R'=>⟨ρ',o,H0,G₀,G',e,R',q.mono s'⟩⟩) fun fl s1 z=>?_)
  cases fl with
  | next=>obtain ⟨σ',H',I',z⟩:=z;exact h2.run pins s1 σ' H' D I' z
  | ret v=>exact z
  | brk=>exact z
  | cont=>exact z
 ·rename_i z
  have hn:∀ ρ',o≠.nx ρ':=fun ρ' w=>z ρ' (by rw [e,w])
  have q':wL X H0 G₀ G { D with nx:=fun _ _=>False } o:=by
   cases o with
   | nx ρ'=>exact absurd rfl (hn ρ')
   | rt d=>exact q
   | bk ρ'=>exact q
   | ct ρ'=>exact q
   | xc c ρ'=>exact q
  refine wpAny_execs_cons (thn (h1.run pins s σ H { D with nx:=fun _ _=>False } I ⟨ρ,o,H0,G₀,G,e,R,q'⟩) fun fl s1 z=>?_)
  cases fl with
  | next=>obtain ⟨_,_,_,z⟩:=z;exact z.elim
  | ret v=>exact z
  | brk=>exact z
  | cont=>exact z⟩
theorem aR (h:DS X st f):DB X [st] f:=⟨b1Y h.run⟩
def a3J (i:Nat) (f:SF):SF:=fun ρ=>match ρ[i]? with
 | some (.lst ds)=>f (ρ.set i (.val (.list ds)))
 | some (.dct kvs)=>f (ρ.set i (.val (.dict (kvs.map fun p=>(dB p.1,p.2)))))
 | _=>f ρ
theorem uJ (i:Nat) (h:DB X rest f):DB X rest (a3J i f):=⟨fun pins s σ H D I ⟨ρ,o,H0,G₀,G,e,R,q⟩=>by
 unfold a3J at e
 split at e
 ·rename_i ds hi
  obtain ⟨G',s',R'⟩:=R.freeze hi
  exact h.run pins s σ H D I ⟨_,o,H0,G₀,G',e,R',q.mono s'⟩
 ·rename_i kvs hi
  obtain ⟨G',s',R'⟩:=R.freezeD hi
  exact h.run pins s σ H D I ⟨_,o,H0,G₀,G',e,R',q.mono s'⟩
 ·exact h.run pins s σ H D I ⟨ρ,o,H0,G₀,G,e,R,q⟩⟩
def retS (fa:EF):SF:=fun ρ=>bns (fa ρ) ρ fun d=>some (.rt d)
theorem bB (h:DE X e fa):DS X (.Return (some e) pos) (retS fa):=⟨fun pins s σ H D I ⟨ρ,o,H0,G₀,G,e,R,q⟩=>b4D h.run pins s σ H D I (sE R e q fun x v G1 H1 g1 R1 rv e1 q1=>by
 cases (qA e1);exact q1 v G1 H1 (.refl _) R1.grow rv)⟩
def b7o (fa:EF):SF:=fun ρ=>bns (fa ρ) ρ fun _=>some (.nx ρ)
def ifS (ft:TF) (f g:SF):SF:=fun ρ=>bns (ft ρ) ρ fun t=>if t then f ρ else g ρ
theorem fL {x y:List Stmt} (hc:DT X c ft) (ha:DB X x f) (hb:DB X y g):DS X (.If c x y pos) (ifS ft f g):=⟨fun pins s σ H D I ⟨ρ,o,H0,G₀,G,e,R,q⟩=>b6N hc.run ha.run hb.run pins s σ H D I (sT R e q fun t G1 H1 g1 R1 e1 q1=>by
 cases t with
 | true=>rw [if_pos rfl] at e1 ⊢;exact ⟨ρ,o,H0,G₀,G1,e1,R1,q1⟩
 | false=>rw [if_neg (by decide)] at e1 ⊢;exact ⟨ρ,o,H0,G₀,G1,e1,R1,q1⟩)⟩
def dW (i:Nat) (fa:EF):SF:=fun ρ=>bns (fa ρ) ρ fun d=>some (.nx (ρ.set i (.val d)))
theorem dF (i:Nat) {x:Str} {p:Pos} (hN:X.N.Nodup) (h:DE X e fa) (hi:X.N[i]?=some x:=by rfl) (hx:Loc X.env.scope x:=by first | exact jx rfl | exact jX rfl)
  (hs:swapsWith e (some (.Name x p)) pos.line X.env=pure false:=by rfl) (hf:X.fn x=true∨X.env.scope.names.lookup x=some .local:=by first | exact .inl rfl | exact .inr rfl) :
  DS X (.Assign [.Name x p] e pos) (dW i fa):=⟨fun pins s σ H D I ⟨ρ,o,H0,G₀,G,e,R,q⟩=>a1W hN hi hx h.run hs hf pins s σ H D I (sE R e q fun x v G1 H1 g1 R1 rv e1 q1=>by
 cases (qA e1);exact q1 G1 H1 _ (.refl _) (R1.set rv))⟩
def a7E (i:Nat) (f:AF):SF:=fun ρ=>bns (f ρ) ρ fun ds=>if fK ds.length then some (.nx (ρ.set i (.lst ds))) else none
theorem a5s (i:Nat) {x:Str} {p p2:Pos} {es:List Expr} {f:AF} (hN:X.N.Nodup) (h:DA X es f) (hi:X.N[i]?=some x:=by rfl) (hx:Loc X.env.scope x:=by first | exact jx rfl | exact jX rfl)
  (hs:swapsWith (.List es p2) (some (.Name x p)) pos.line X.env=pure false:=by rfl) (hf:X.fn x=true∨X.env.scope.names.lookup x=some .local:=by first | exact .inl rfl | exact .inr rfl) :
  DS X (.Assign [.Name x p] (.List es p2) pos) (a7E i f):=⟨fun pins s σ H D I ⟨ρ,o,H0,G₀,G,e,R,q⟩=>a1W hN hi hx (a9y h.run) hs hf pins s σ H D I (sA R e q fun ds vs G1 H1 g1 R1 rv e1 q1=>by
 split at e1
 ·rename_i hz
  cases (qA e1)
  exact ⟨by rw [rv.length];exact lE hz,fun a ha=>q1 G1 _ _ (.refl _) (R1.fresh ha rv)⟩
 ·cases e1)⟩
def a2P (i:Nat) (fa:EF):SF:=fun ρ=>match ρ[i]? with
 | some (.lst ds)=>bns (fa ρ) ρ fun d=>if fK ds.length then some (.nx (ρ.set i (.lst (ds++[d])))) else none
 | _=>none
theorem b0U (i:Nat) {x:Str} {p ap cp:Pos} (h:DE X e fa) (hN:X.N[i]?=some x:=by rfl)
  (hv:Vis X.env.scope x:=by first | exact jx rfl | exact jX (jx rfl) | exact jX (jX rfl)) (hd:(x==("__debug__" : Str))=false:=by decide) (hcd:(x==("__classdict__" : Str))=false:=by decide)
  (hbase:attributeBase (.Name x p) "append" X.env (eval (.Name x p) X.env)=eval (.Name x p) X.env:=by rfl)
  (hfew:((backTo cp (starEach (e::[]) X.env)).all (fun x=>!x.1)&&(backToKw cp (keywordEach [] X.env)).all (fun x=>x.1.isSome)&&decide ((e::[]).length+([]:List Keyword).length+(if ([]:List Keyword).isEmpty then 0 else 1)<30))=true:=by rfl)
  (hline:(ap.endLine==cp.line)=true:=by rfl) (hst:starEach (e::[]) X.env=(false,eval e X.env)::starEach [] X.env:=by rfl) (hplain:(backTo cp (starEach [] X.env)).any (·.1)=false:=by rfl)
  (hsw:swapsWith (.Call (.Attribute (.Name x p) "append" ap) [e] [] cp) none pos.line X.env=pure false:=by rfl) :
  DS X (.Expr (.Call (.Attribute (.Name x p) "append" ap) [e] [] cp) pos) (a2P i fa):=⟨fun pins s σ H D I ⟨ρ,o,H0,G₀,G,ef,R,q⟩=>
 a1X (a9B PySem.F.plainAttrs_list PySem.F.slot_list_append PySem.F.type_list_append a1d (gZ hN hv hd hcd) (eE h.run iX hst) hbase hfew hline hst hplain) hsw pins s σ H D I (by
  unfold a2P at ef
  split at ef
  ·rename_i ds hi
   obtain ⟨a,xs,e1,h1,h2,h3,r⟩:=R.own hi
   refine ⟨.ref a,e1,.inl ⟨rfl,xs,.of h1⟩,sE R ef q fun d v G1 H1 g1 R1 rv e2 q1=>?_⟩
   split at e2
   ·rename_i hz
    cases (qA e2)
    exact ⟨a,xs,v,rfl,rfl,g1.hh.lst h1,by rw [r.length];exact b3I hz,q1 G1 _ σ (.refl _) (R1.wrote hi e1 ((r.mono g1.gg).append (.cons rv .nil)))⟩
   ·cases e2
  ·cases ef)⟩
def b1U (i:Nat) (fb fa:EF):SF:=fun ρ=>bns (fa ρ) ρ fun d=>match ρ[i]?,fb ρ with
 | some (.lst ds),some (.ok (.int k))=>(match ixN ds.length k with | some j=>some (.nx (ρ.set i (.lst (ds.set j d)))) | none=>none)
 | _,_=>none
end
end L2.L3
namespace L2.L3
open PySem PySem.Spec PyProof.Rows
section
variable {X:Cx} {st:Stmt} {rest:List Stmt} {f g:SF} {fa fb:EF} {ft:TF} {e c b:Expr} {pos p:Pos}
theorem b5L (i:Nat) {x:Str} {tp:Pos} (he:DE X e fa) (hb:DE X b fb) (hN:X.N[i]?=some x:=by rfl)
  (hv:Vis X.env.scope x:=by first | exact jx rfl | exact jX (jx rfl) | exact jX (jX rfl)) (hd:(x==("__debug__" : Str))=false:=by decide) (hcd:(x==("__classdict__" : Str))=false:=by decide)
  (ha:∀ v,assign (.Subscript (.Name x p) b tp) X.env v=(do
   let ov ←holding [v] (eval (.Name x p) X.env)
   let iv ←holding [v,ov] (eval b X.env)
   standAt tp
   holding [v,ov,iv] (setItem ov iv v)
   release [v,ov,iv] []):=by intro _;rfl)
  (hs:swapsWithSole [.Subscript (.Name x p) b tp] e pos.line X.env=pure false:=by rfl) (hw:swappedStores [.Subscript (.Name x p) b tp] e X.env=pure none:=by rfl)
  (h1:(assignEach [.Subscript (.Name x p) b tp] X.env).map (·.2)=[assign (.Subscript (.Name x p) b tp) X.env]:=by rfl) :
  DS X (.Assign [.Subscript (.Name x p) b tp] e pos) (b1U i fb fa):=⟨fun pins s σ H D I ⟨ρ,o,H0,G₀,G,ef,R,q⟩=>
 a9s he.run (b4H (gZ hN hv hd hcd) hb.run set_list ha) hs hw h1 pins s σ H D I (sE R ef q fun d v G1 H1 g1 R1 rv e1 q1=>by
  split at e1
  ·rename_i ds k hi ek
   split at e1
   ·rename_i j hj
    cases (qA e1)
    obtain ⟨a,xs,z1,z2,_,_,r⟩:=R1.own hi
    refine ⟨_,z1,ρ,_,H0,G₀,G1,ek,R1,fun u G2 H2 g2 ru=>?_⟩
    cases ru
    refine ⟨a,xs,k,j,rfl,rfl,g2.hh.lst z2,by rw [r.length];exact hj,?_⟩
    exact q1 G2 _ σ g2.gg ((R1.more g2).wrote hi z1 (RepAll.set (rv.mono g2.gg) j (r.mono g2.gg)))
   ·cases e1
  ·cases e1)⟩
def b8F (op:Operator) (x y:PyData):Option PyData:=match op,x,y with
 | .Add,.int i,.int j=>some (.int (i+j))
 | .Sub,.int i,.int j=>some (.int (i - j))
 | _,_,_=>none
def a8z (i:Nat) (op:Operator) (fa:EF):SF:=fun ρ=>match ρ[i]? with
 | some (.val x)=>bns (fa ρ) ρ fun y=>(match b8F op x y with | some d=>some (.nx (ρ.set i (.val d))) | none=>none)
 | _=>none
theorem b5M (i:Nat) {x:Str} {op:Operator} (hN:X.N.Nodup) (h:DE X e fa) (hi:X.N[i]?=some x:=by rfl) (hx:Loc X.env.scope x:=by first | exact jx rfl | exact jX rfl)
  (hf:X.fn x=true∨X.env.scope.names.lookup x=some .local:=by first | exact .inl rfl | exact .inr rfl) (ho:op=.Add∨op=.Sub:=by first | exact .inl rfl | exact .inr rfl):DS X (.AugAssign (.Name x p) op e pos) (a8z i op fa):=by
 rcases ho with rfl | rfl
 ·refine ⟨fun pins s σ H D I ⟨ρ,o,H0,G₀,G,ef,R,q⟩=>a9r hN hi hx h.run b5B hf pins s σ H D I ?_⟩
  unfold a8z at ef
  split at ef
  ·rename_i x1 hx1
   obtain ⟨v,ev,rv⟩:=R.val hx1
   refine ⟨v,ev,sE R ef q fun y u G1 H1 g1 R1 ru e1 q1=>?_⟩
   cases rv with
   | int i'=>
    cases ru with
    | int j'=>cases (qA e1);exact ⟨_,_,rfl,rfl,q1 G1 H1 _ (.refl _) (R1.set (.int _))⟩
    | none=>cases e1
    | bool _=>cases e1
    | str _=>cases e1
    | list _ _=>cases e1
    | tuple _ _=>cases e1
    | dict _ _ _=>cases e1
   | none=>cases ru<;>cases e1
   | bool _=>cases ru<;>cases e1
   | str _=>cases ru<;>cases e1
   | list _ _=>cases ru<;>cases e1
   | tuple _ _=>cases ru<;>cases e1
   | dict _ _ _=>cases ru<;>cases e1
  ·cases ef
 ·refine ⟨fun pins s σ H D I ⟨ρ,o,H0,G₀,G,ef,R,q⟩=>a9r hN hi hx h.run b5A hf pins s σ H D I ?_⟩
  unfold a8z at ef
  split at ef
  ·rename_i x1 hx1
   obtain ⟨v,ev,rv⟩:=R.val hx1
   refine ⟨v,ev,sE R ef q fun y u G1 H1 g1 R1 ru e1 q1=>?_⟩
   cases rv with
   | int i'=>
    cases ru with
    | int j'=>cases (qA e1);exact ⟨_,_,rfl,rfl,q1 G1 H1 _ (.refl _) (R1.set (.int _))⟩
    | none=>cases e1
    | bool _=>cases e1
    | str _=>cases e1
    | list _ _=>cases e1
    | tuple _ _=>cases e1
    | dict _ _ _=>cases e1
   | none=>cases ru<;>cases e1
   | bool _=>cases ru<;>cases e1
   | str _=>cases ru<;>cases e1
   | list _ _=>cases ru<;>cases e1
   | tuple _ _=>cases ru<;>cases e1
   | dict _ _ _=>cases ru<;>cases e1
  ·cases ef
inductive Tg where
 | nm (i:Nat)
 | tp (is:List Nat)
 | nn (i:Nat) (js:List Nat)
def mZ:List Ent→List Nat→List PyData→List Ent
 | ρ,i::is,d::ds=>mZ (ρ.set i (.val d)) is ds
 | ρ,_,_=>ρ
def tgD (t:Tg) (ρ:List Ent) (d:PyData):Option (List Ent):=match t,d with
 | .nm i,d=>some (ρ.set i (.val d))
 | .tp is,.tuple ds=>if is.length=ds.length then some (mZ ρ is ds) else none
 | .nn i js,.tuple [d,.tuple ds]=>if js.length=ds.length then some (mZ (ρ.set i (.val d)) js ds) else none
 | _,_=>none
structure DG (X:Cx) (tg:Expr) (t:Tg):Prop where
 run:∀ ρ d ρ',tgD t ρ d=some ρ'→PGD X tg ρ d ρ'
structure DGs (X:Cx) (ts:List Expr) (is:List Nat):Prop where
 run:∀ ρ ds,is.length=ds.length→PGsD X ts ρ ds (mZ ρ is ds)
theorem cN (i:Nat) {x:Str} (hN:X.N.Nodup) (hi:X.N[i]?=some x:=by rfl) (hx:Loc X.env.scope x:=by first | exact jx rfl | exact jX rfl) (hf:X.fn x=true∨X.env.scope.names.lookup x=some .local:=by first | exact .inl rfl | exact .inr rfl) :
  DG X (.Name x pos) (.nm i):=⟨fun ρ d ρ' h=>by cases (qA h);exact xQ i hN hi hx hf⟩
theorem dO:DGs X [] []:=⟨fun ρ ds h=>by
 cases ds with
 | nil=>exact a3p
 | cons _ _=>cases h⟩
theorem aN (i:Nat) {x:Str} {es:List Expr} {is:List Nat} (hN:X.N.Nodup) (h:DGs X es is) (hi:X.N[i]?=some x:=by rfl) (hx:Loc X.env.scope x:=by first | exact jx rfl | exact jX rfl)
  (hf:X.fn x=true∨X.env.scope.names.lookup x=some .local:=by first | exact .inl rfl | exact .inr rfl)
  (hs:(assignEach (.Name x pos::es) X.env).map (·.2)=assign (.Name x pos) X.env::(assignEach es X.env).map (·.2):=by rfl):DGs X (.Name x pos::es) (i::is):=⟨fun ρ ds hl=>by
 cases ds with
 | nil=>cases hl
 | cons d ds=>exact tM (xQ i hN hi hx hf) (h.run _ ds (by simpa using hl)) hs⟩
theorem fT {es:List Expr} {is:List Nat} {k:Nat} (hc:X.calm=true) (h:DGs X es is) (hn:(assignEach es X.env).length=is.length:=by rfl) (hst:(assignEach es X.env).findIdx? (·.1)=none:=by rfl):DG X (.Tuple es k pos) (.tp is):=⟨fun ρ d ρ' hq=>by
 cases d with
 | tuple ds=>
  have hq:(if is.length=ds.length then some (mZ ρ is ds) else none)=some ρ':=hq
  split at hq
  ·rename_i hl
   cases (qA hq)
   exact a2b hc (h.run ρ ds hl) (hn.trans hl) hst
  ·cases hq
 | none=>cases hq
 | bool _=>cases hq
 | int _=>cases hq
 | str _=>cases hq
 | list _=>cases hq
 | dict _=>cases hq⟩
theorem a8U {i:Nat} {js:List Nat} {ρ ρ':List Ent} {d:PyData} (h:tgD (.nn i js) ρ d=some ρ'):∃ a ds,d=.tuple [a,.tuple ds]∧js.length=ds.length∧ρ'=mZ (ρ.set i (.val a)) js ds:=by
 unfold tgD at h
 split at h
 ·rename_i e;cases e
 ·rename_i e;cases e
 ·rename_i i' js' a ds e
  cases e
  split at h
  ·rename_i hl;exact ⟨a,ds,rfl,hl,(qA h).symm⟩
  ·cases h
 ·cases h
theorem b7s (i:Nat) {x:Str} {es:List Expr} {js:List Nat} {k k':Nat} {pos' pos2:Pos} (hc:X.calm=true) (hN:X.N.Nodup) (h:DGs X es js) (hi:X.N[i]?=some x:=by rfl) (hx:Loc X.env.scope x:=by first | exact jx rfl | exact jX rfl)
  (hf:X.fn x=true∨X.env.scope.names.lookup x=some .local:=by first | exact .inl rfl | exact .inr rfl) (hn:(assignEach es X.env).length=js.length:=by rfl) (hst:(assignEach es X.env).findIdx? (·.1)=none:=by rfl)
  (hs:(assignEach [.Name x pos,.Tuple es k pos'] X.env).map (·.2)=assign (.Name x pos) X.env::(assignEach [.Tuple es k pos'] X.env).map (·.2):=by rfl) (hs2:(assignEach [.Tuple es k pos'] X.env).map (·.2)=assign (.Tuple es k pos') X.env::(assignEach [] X.env).map (·.2):=by rfl)
  (hn2:(assignEach [.Name x pos,.Tuple es k pos'] X.env).length=2:=by rfl) (hst2:(assignEach [.Name x pos,.Tuple es k pos'] X.env).findIdx? (·.1)=none:=by rfl):DG X (.Tuple [.Name x pos,.Tuple es k pos'] k' pos2) (.nn i js):=⟨fun ρ d ρ' hq=>by
 obtain ⟨a,ds,rfl,hl,rfl⟩:=a8U hq
 exact a2b hc (tM (xQ i hN hi hx hf) (tM (a2b hc (h.run _ ds hl) (hn.trans hl) hst) a3p hs2) hs) hn2 hst2⟩
def rG (X:Cx) (t:Tg):TG:=fun v σ H Q=>∃ ρ d ρ' H0 G₀ G,tgD t ρ d=some ρ'∧RepS X.K H0 G₀ G H σ ρ∧Rep X.K G v d∧∀ σ',RepS X.K H0 G₀ G H σ' ρ'→Q σ' H
theorem DG.pg {tg:Expr} {t:Tg} (h:DG X tg t):PG X tg (rG X t):=fun pins s σ H v u Q I r ⟨ρ,d,ρ',H0,G₀,G,e,R,rv,q⟩=>(h.run ρ d ρ' e).run pins s σ H v u Q I r ⟨H0,G₀,G,R,rv,q⟩
def b4k (t:Tg) (fa:EF):SF:=fun ρ=>bns (fa ρ) ρ fun d=>(tgD t ρ d).map So.nx
theorem b5K {tg:Expr} {t:Tg} (h:DE X e fa) (hg:DG X tg t) (hs:swapsWithSole [tg] e pos.line X.env=pure false:=by rfl) (hw:swappedStores [tg] e X.env=pure none:=by rfl)
  (h1:(assignEach [tg] X.env).map (·.2)=[assign tg X.env]:=by rfl):DS X (.Assign [tg] e pos) (b4k t fa):=⟨fun pins s σ H D I ⟨ρ,o,H0,G₀,G,ef,R,q⟩=>
 a9s h.run hg.pg hs hw h1 pins s σ H D I (sE R ef q fun d v G1 H1 g1 R1 rv e1 q1=>by
  obtain ⟨ρ',e2,rfl⟩:=qK.mp e1
  exact ⟨ρ,d,ρ',H0,G₀,G1,e2,R1,rv,fun σ' R'=>q1 G1 H1 σ' (.refl _) R'⟩)⟩
def b8M (X:Cx) (H0 G₀ G:Hp) (ρ:List Ent) (H:Hp) (R:It→Hp→Prop):Re (List PyData)→Prop
 | .ok ds=>∀ J G' H',Grow G H G' H'→Walk X.K J G' ds→R J H'
 | .ex c=>lC X H0 G₀ G ρ c
def rIt (X:Cx) (f:AF):TI:=fun σ H R=>∃ ρ r H0 G₀ G,f ρ=some r∧RepS X.K H0 G₀ G H σ ρ∧b8M X H0 G₀ G ρ H R r
structure DI (X:Cx) (tg iter:Expr) (f:AF):Prop where
 run:PI X tg iter (rIt X f)
theorem DI.pid {tg iter:Expr} {f:AF} (h:DI X tg iter f) {ρ:List Ent} {ds:List PyData} (e:f ρ=some (.ok ds)):PID X tg iter ρ ds:=⟨fun pins s σ H R I ⟨H0,G₀,G,S,q⟩=>h.run pins s σ H R I ⟨ρ,_,H0,G₀,G,e,S,q⟩⟩
theorem a6R {tg iter:Expr} {f:AF} (h:∀ ρ r,f ρ=some r→∃ ds,r=.ok ds∧PID X tg iter ρ ds):DI X tg iter f:=⟨fun pins s σ H R I ⟨ρ,r,H0,G₀,G,e,S,q⟩=>by
 obtain ⟨ds,rfl,hp⟩:=h ρ r e
 exact hp.run pins s σ H R I ⟨H0,G₀,G,S,q⟩⟩
def wH:PyData→Option (List PyData)
 | .list ds=>some ds
 | .tuple ds=>some ds
 | _=>none
def cY (fa:EF):AF:=fun ρ=>bnd (fa ρ) fun x=>lft (wH x)
theorem bX {tg iter:Expr} (h:DE X iter fa):DI X tg iter (cY fa):=⟨fun pins s σ H R I ⟨ρ,r,H0,G₀,G,e,S,q⟩=>by
 rcases cR e with ⟨x,e1,e2⟩ | ⟨c,e1,e2⟩
 ·obtain ⟨ds,e3,rfl⟩:=aY e2
  cases x with
  | list es=>cases (qA e3);exact (a9t (h.pd e1)).run pins s σ H R I ⟨H0,G₀,G,S,q⟩
  | tuple es=>cases (qA e3);exact (b2d (h.pd e1)).run pins s σ H R I ⟨H0,G₀,G,S,q⟩
  | none=>cases e3
  | bool _=>cases e3
  | int _=>cases e3
  | str _=>cases e3
  | dict _=>cases e3
 ·subst e2
  exact a2a h.run pins s σ H R I ⟨ρ,_,H0,G₀,G,e1,S,q⟩⟩
def intD:PyData→Option Int
 | .int i=>some i
 | _=>none
theorem gQ {d:PyData} {i:Int} (h:intD d=some i):d=.int i:=by
 cases d<;>first | (cases h;done) | (cases (qA h);rfl)
def a6A (n:Int):Bool:=decide (-(2 ^ 62)≤n)&&decide (n<2 ^ 62)
theorem a3G {n:Int} (h:a6A n=true):-(2 ^ 62)≤n∧n<2 ^ 62:=by
 unfold a6A at h
 rw [qJ] at h
 exact ⟨of_decide_eq_true h.1,of_decide_eq_true h.2⟩
def a3n (fa:EF):AF:=fun ρ=>match fa ρ with
 | some (.ok (.int n))=>if a6A n then some (.ok (mD 0 n.toNat)) else none
 | _=>none
theorem a6Q {tg a:Expr} (hm:X.mg "range" = none) (h:DE X a fa) (hs:starEach [a] X.env=[(false,eval a X.env)]:=by rfl) (hs':starEach [a] X.env=(false,eval a X.env)::starEach [] X.env:=by rfl) (hg:Gl X "range":=by rfl) :
  DI X tg (.Call (.Name "range" p) [a] [] pos) (a3n fa):=a6R fun ρ r e=>by
 unfold a3n at e
 split at e
 ·rename_i n en
  split at e
  ·rename_i hr
   exact ⟨_,(qA e).symm,a4H hm (h.pd en) (a3G hr).1 (a3G hr).2 hs hs' hg⟩
  ·cases e
 ·cases e
def hZ (t:Tg) (fb:SF):List PyData→List Ent→Option So
 | [],ρ=>some (.nx ρ)
 | d::ds,ρ=>match tgD t ρ d with
  | none=>none
  | some ρ1=>(match fb ρ1 with
   | some (.nx ρ2)=>hZ t fb ds ρ2
   | some (.ct ρ2)=>hZ t fb ds ρ2
   | some (.bk ρ2)=>some (.nx ρ2)
   | some (.rt d)=>some (.rt d)
   | some (.xc c ρ2)=>some (.xc c ρ2)
   | none=>none)
def a2t (t:Tg) (fi:AF) (fb:SF):SF:=fun ρ=>bns (fi ρ) ρ fun ds=>hZ t fb ds ρ
theorem yS {tg iter:Expr} {body:List Stmt} {t:Tg} {fi:AF} (hp:PassesOwn (model X.prog X.w) X.A X.env X.xe) (hc:X.calm=true) (hi:DI X tg iter fi) (hg:DG X tg t) (hb:DB X body g)
  (hs:∀ x,foldedSetIterable iter X.env x=pure x:=by intro _;rfl):DS X (.For tg iter body [] pos) (a2t t fi g):=⟨fun pins s σ H D I ⟨ρ,o,H0,G₀,G,ef,R,q⟩=>
 b4E hp hc hi.run hg.pg hb.run hs pins s σ H D I (by
  rcases nW ef with ⟨ds,e1,e2⟩ | ⟨c,e1,e2⟩
  ·refine ⟨ρ,_,H0,G₀,G,e1,R,fun J G1 H1 g1 wk=>?_⟩
   refine ⟨fun i m σ' H'=>m=ds.length - i∧i≤ds.length∧∃ ρ' G',bH G1 G'∧RepS X.K H0 G₀ G' H' σ' ρ'∧hZ t g (ds.drop i) ρ'=some o,⟨ds.length,by simp,jn _,ρ,G1,.refl _,R.more g1,by simpa using e2⟩,?_⟩
   rintro i m σ' H' ⟨rfl,hin,ρ',G',s',R',e'⟩
   obtain ⟨wgo,wstop⟩:=wk i G' H' s' R'.sub
   by_cases hlt:i<ds.length
   ·rw [List.drop_eq_getElem_cons hlt] at e'
    have hx:ds[i]?=some ds[i]:=qM hlt
    refine .inr ⟨(wgo _ hx).1,fun σ2 H2=>∃ ρ2 G2,bH G1 G2∧RepS X.K H0 G₀ G2 H2 σ2 ρ2∧hZ t g (ds.drop (i+1)) ρ2=some o,?_,fun x H2 y=>?_⟩
    ·rintro σ2 H2 ⟨ρ2,G2,s2,R2,e2⟩
     exact ⟨ds.length - (i+1),by omega,rfl,hlt,ρ2,G2,s2,R2,e2⟩
    ·obtain ⟨G2,g2,rx⟩:=(wgo _ hx).2 x H2 y
     unfold hZ at e'
     split at e'
     ·cases e'
     ·rename_i ρ1 et
      refine ⟨ρ',ds[i],ρ1,H0,G₀,G2,et,R'.more g2,rx,fun σ3 R3=>?_⟩
      have sg:bH G1 G2:=s'.trans g2.gg
      split at e'
      ·rename_i ρ2 eb
       exact ⟨ρ1,_,H0,G₀,G2,eb,R3,fun G4 H4 σ4 s4 R4=>⟨ρ2,G4,sg.trans s4,R4,e'⟩⟩
      ·rename_i ρ2 eb
       exact ⟨ρ1,_,H0,G₀,G2,eb,R3,fun G4 H4 σ4 s4 R4=>⟨ρ2,G4,sg.trans s4,R4,e'⟩⟩
      ·rename_i ρ2 eb
       cases (qA e')
       exact ⟨ρ1,_,H0,G₀,G2,eb,R3,fun G4 H4 σ4 s4 R4=>q G4 H4 σ4 (g1.gg.trans (sg.trans s4)) R4⟩
      ·rename_i d' eb
       cases (qA e')
       exact ⟨ρ1,_,H0,G₀,G2,eb,R3,fun v G4 H4 s4 gr rv=>q v G4 H4 (g1.gg.trans (sg.trans s4)) gr rv⟩
      ·rename_i c' ρ2 eb
       cases (qA e')
       exact ⟨ρ1,_,H0,G₀,G2,eb,R3,lC.mono q (g1.gg.trans sg)⟩
      ·cases e'
   ·have hi':i=ds.length:=by omega
    subst hi'
    rw [List.drop_length] at e'
    cases (qA e')
    exact .inl ⟨wstop (qN _),q G' H' σ' (g1.gg.trans s') R'⟩
  ·subst e2
   exact ⟨ρ,_,H0,G₀,G,e1,R,q⟩)⟩
end
end L2.L3
namespace L2.L3
open PySem PySem.Spec PyProof.Rows
def xW (t:Tg) (ρb:List Ent) (ft:TF) (fe:EF):List PyData→Option (List PyData)
 | []=>some []
 | d::ds=>match tgD t ρb d with
  | none=>none
  | some ρx=>(match ft ρx with
   | some (.ok true)=>(match fe ρx with
    | some (.ok v)=>(xW t ρb ft fe ds).map (v::·)
    | _=>none)
   | some (.ok false)=>xW t ρb ft fe ds
   | _=>none)
def cE (t:Tg) (cap:List (Option Nat)) (fi:AF) (ft:TF) (fe:EF):EF:=fun ρ=>bnd (fi ρ) fun ds=>if fK ds.length then lft ((xW t (dX cap ρ) ft fe ds).map .list) else none
def ttT:TF:=fun _=>some (.ok true)
def cX (t:Tg) (ρb:List Ent) (d:PyData):List Ent:=(tgD t ρb d).getD []
def cT (t:Tg) (ρb:List Ent) (ft:TF) (d:PyData):Bool:=match ft (cX t ρb d) with
 | some (.ok b)=>b
 | _=>false
def cV (t:Tg) (ρb:List Ent) (fe:EF) (d:PyData):PyData:=match fe (cX t ρb d) with
 | some (.ok v)=>v
 | _=>.none
theorem rR {t:Tg} {ρb:List Ent} {ft:TF} {fe:EF}:∀ {ds es:List PyData},xW t ρb ft fe ds=some es →
  (∀ d∈ds,tgD t ρb d=some (cX t ρb d)∧ft (cX t ρb d)=some (.ok (cT t ρb ft d))∧(cT t ρb ft d=true→fe (cX t ρb d)=some (.ok (cV t ρb fe d))))∧es=(ds.filter (cT t ρb ft)).map (cV t ρb fe)
 | [],es,h=>by
  cases (qA h)
  exact ⟨fun _ z=>absurd z (by simp),rfl⟩
 | d::ds,es,h=>by
  unfold xW at h
  split at h
  ·cases h
  ·rename_i ρx et
   have ex:cX t ρb d=ρx:=by unfold cX;rw [et];rfl
   split at h
   ·rename_i e1
    have e1':cT t ρb ft d=true:=by unfold cT;rw [ex,e1]
    split at h
    ·rename_i v ev
     obtain ⟨es',e3,rfl⟩:=qK.mp h
     obtain ⟨i1,i2⟩:=rR e3
     have evv:cV t ρb fe d=v:=by unfold cV;rw [ex,ev]
     refine ⟨fun d' hd=>?_,?_⟩
     ·rcases qF.mp hd with rfl | hd
      ·rw [ex,e1',evv];exact ⟨et,e1,fun _=>ev⟩
      ·exact i1 d' hd
     ·rw [qg e1',qG,evv,i2]
    ·cases h
   ·rename_i e1
    have e1':cT t ρb ft d=false:=by unfold cT;rw [ex,e1]
    obtain ⟨i1,i2⟩:=rR h
    refine ⟨fun d' hd=>?_,?_⟩
    ·rcases qF.mp hd with rfl | hd
     ·rw [ex,e1'];exact ⟨et,e1,fun z=>by cases z⟩
     ·exact i1 d' hd
    ·rw [qo (by rw [e1'];decide),i2]
   ·cases h
def a4r (cap:List (Option Nat)):Tg→Bool
 | .nm i=>(match cap[i]? with | some (some _)=>false | _=>true)
 | .tp is=>is.all fun i=>match cap[i]? with | some (some _)=>false | _=>true
 | .nn i js=>(match cap[i]? with | some (some _)=>false | _=>true)&&js.all fun i=>match cap[i]? with | some (some _)=>false | _=>true
theorem mW:∀ {a b:List Ent} {i:Nat} {e:Ent},Weak a b→(b[i]?=some .no∨b[i]?=none)→Weak (a.set i e) b
 | _,_,_,_,.nil,_=>.nil
 | _::_,_,0,_,.keep w,h=>by
  rcases h with h | h
  ·cases (qA h);exact .no w
  ·cases h
 | _::_,_,0,_,.no w,_=>.no w
 | _::_,_,i+1,_,.keep w,h=>.keep (mW w (by simpa using h))
 | _::_,_,i+1,_,.no w,h=>.no (mW w (by simpa using h))
theorem a2E {cap:List (Option Nat)} {ρ:List Ent} {i:Nat} (h:(match cap[i]? with | some (some _)=>false | _=>true)=true):(dX cap ρ)[i]?=some .no∨(dX cap ρ)[i]?=none:=by
 unfold dX
 rw [qP]
 cases e:cap[i]? with
 | none=>exact .inr rfl
 | some o=>
  rw [e] at h
  cases o with
  | none=>exact .inl rfl
  | some j=>cases h
theorem wP {cap:List (Option Nat)} {ρ:List Ent}:∀ {is:List Nat} {ds:List PyData} {a:List Ent},(is.all fun i=>match cap[i]? with | some (some _)=>false | _=>true)=true→Weak a (dX cap ρ)→Weak (mZ a is ds) (dX cap ρ)
 | [],ds,a,_,w=>by cases ds<;>exact w
 | i::is,[],a,_,w=>w
 | i::is,d::ds,a,h,w=>by
  rw [zz,qJ] at h
  exact wP (is:=is) (ds:=ds) (a:=a.set i (.val d)) h.2 (mW w (a2E h.1))
theorem a5M {cap:List (Option Nat)} {ρ ρx:List Ent} {t:Tg} {d:PyData} (hf:a4r cap t=true) (h:tgD t (dX cap ρ) d=some ρx):Weak ρx (dX cap ρ):=by
 cases t with
 | nm i=>cases (qA h);exact mW (.refl _) (a2E hf)
 | tp is=>
  cases d with
  | tuple ds=>
   have h:(if is.length=ds.length then some (mZ (dX cap ρ) is ds) else none)=some ρx:=h
   split at h
   ·cases (qA h);exact wP hf (.refl _)
   ·cases h
  | none=>cases h
  | bool _=>cases h
  | int _=>cases h
  | str _=>cases h
  | list _=>cases h
  | dict _=>cases h
 | nn i js=>
  obtain ⟨a,ds,rfl,hl,rfl⟩:=a8U h
  have hf:((match cap[i]? with | some (some _)=>false | _=>true)&&js.all fun i=>match cap[i]? with | some (some _)=>false | _=>true)=true:=hf
  rw [qJ] at hf
  exact wP hf.2 (mW (.refl _) (a2E hf.1))
section
variable {X:Cx} {elt iter tg:Expr} {ifs:List Expr} {scope:Scope} {pos spos p:Pos} {N':List Str} {cap:List (Option Nat)} {t:Tg} {fi:AF} {ft:TF} {fe:EF}
structure DTs (X:Cx) (ifs:List Expr) (f:TF):Prop where
 run:∀ ρ b,f ρ=some (.ok b)→PTsD X ifs ρ b
theorem dL:DTs X [] ttT:=⟨fun ρ b e=>by cases (qA e);exact a9m⟩
theorem eM {c:Expr} (h:DT X c ft):DTs X [c] ft:=⟨fun ρ b e=>a9l (h.ptd e)⟩
theorem cB (hc:X.calm=true) (B:Blk X scope N' cap) (hi:DI X tg iter fi) (hf:a4r cap t=true) (hg:∀ C s₃ H₃ fp,DG (cF X scope N' C s₃ H₃ fp) tg t) (ht:∀ C s₃ H₃ fp,DTs (cF X scope N' C s₃ H₃ fp) ifs ft)
  (he:∀ C s₃ H₃ fp,DE (cF X scope N' C s₃ H₃ fp) elt fe) (hs:∀ x,foldedSetIterable iter X.env x=pure x:=by intro _;rfl):DE X (.ListComp elt [⟨tg,iter,ifs,0⟩] scope pos) (cE t cap fi ft fe):=⟨fun pins s σ H Q I ⟨ρ,r,H0,G₀,G,e,R,q⟩=>by
 rcases cR e with ⟨ds,e1,e2⟩ | ⟨c,e1,e2⟩
 ·split at e2
  ·rename_i hz
   obtain ⟨d,ed,rfl⟩:=aY e2
   obtain ⟨es,e3,rfl⟩:=qK.mp ed
   obtain ⟨k1,rfl⟩:=rR e3
   exact (b2k (xs:=ds) (φ:=fun d=>d) (ρb:=dX cap ρ) (ρx:=cX t (dX cap ρ)) (cnd:=cT t (dX cap ρ) ft) (f:=cV t (dX cap ρ) fe) hc B (by simpa using hi.pid e1) (.refl _) (fun x hx=>a5M hf (k1 x hx).1) (lE hz)
    (fun C s₃ H₃ fp x hx=>(hg C s₃ H₃ fp).run _ _ _ (k1 x hx).1) (fun C s₃ H₃ fp x hx=>(ht C s₃ H₃ fp).run _ _ (k1 x hx).2.1) (fun C s₃ H₃ fp x hx hcx=>(he C s₃ H₃ fp).pd ((k1 x hx).2.2 hcx)) hs).run H0 G₀ G pins s σ H Q I R q
  ·cases e2
 ·subst e2
  exact a6d (g:=fun _ _ _ _=>False) (tc:=fun _ _ _=>False) (te:=fun _ _ _=>False) hc B hi.run (fun _ _ _ _ _ _ _ _ _ _ _ _ _ z=>z.elim) (fun _ _ _ _ _ _ _ _ _ _ z=>z.elim) (fun _ _ _ _ _ _ _ _ _ _ z=>z.elim) hs pins s σ H Q I
   ⟨ρ,_,H0,G₀,G,e1,R,q⟩⟩
theorem oH (i:Nat) {x:Str} (hN:X.N.Nodup) (hc:X.calm=true) (B:Blk X scope N' cap) (hi:DI X tg iter fi) (hf:a4r cap t=true) (hg:∀ C s₃ H₃ fp,DG (cF X scope N' C s₃ H₃ fp) tg t) (ht:∀ C s₃ H₃ fp,DTs (cF X scope N' C s₃ H₃ fp) ifs ft)
  (he:∀ C s₃ H₃ fp,DE (cF X scope N' C s₃ H₃ fp) elt fe)
  (hxi:X.N[i]?=some x:=by rfl) (hx:X.env.scope.names.lookup x=some .local:=by rfl)
  (hsw:swapsWith (.ListComp elt [⟨tg,iter,ifs,0⟩] scope pos) (some (.Name x p)) spos.line X.env=pure true:=by rfl)
  (hs:∀ x,foldedSetIterable iter X.env x=pure x:=by intro _;rfl):DS X (.Assign [.Name x p] (.ListComp elt [⟨tg,iter,ifs,0⟩] scope pos) spos) (dW i (cE t cap fi ft fe)):=⟨fun pins s σ H D I ⟨ρ,o,H0,G₀,G,e,R,q⟩=>by
 rcases nW e with ⟨d,e1,e2⟩ | ⟨c,e1,e2⟩
 ·cases (qA e2)
  rcases cR e1 with ⟨ds,e3,e4⟩ | ⟨c,_,e4⟩
  ·split at e4
   ·rename_i hz
    obtain ⟨d',ed,z⟩:=aY e4
    cases z
    obtain ⟨es,e5,rfl⟩:=qK.mp ed
    obtain ⟨k1,rfl⟩:=rR e5
    exact (a9q i (xs:=ds) (φ:=fun d=>d) (ρb:=dX cap ρ) (ρx:=cX t (dX cap ρ)) (cnd:=cT t (dX cap ρ) ft) (f:=cV t (dX cap ρ) fe) hN hc B (by simpa using hi.pid e3) (.refl _) (fun x hx=>a5M hf (k1 x hx).1) (lE hz)
     (fun C s₃ H₃ fp x hx=>(hg C s₃ H₃ fp).run _ _ _ (k1 x hx).1) (fun C s₃ H₃ fp x hx=>(ht C s₃ H₃ fp).run _ _ (k1 x hx).2.1) (fun C s₃ H₃ fp x hx hcx=>(he C s₃ H₃ fp).pd ((k1 x hx).2.2 hcx)) hxi hx hsw hs).run pins s σ H D I ⟨H0,G₀,G,R,q⟩
   ·cases e4
  ·cases e4
 ·subst e2
  rcases cR e1 with ⟨ds,e3,e4⟩ | ⟨c',e3,e4⟩
  ·split at e4
   ·obtain ⟨_,_,z⟩:=aY e4;cases z
   ·cases e4
  ·cases e4
   exact a6a (g:=fun _ _ _ _=>False) (tc:=fun _ _ _=>False) (te:=fun _ _ _=>False) hN hxi hx hc B hi.run (fun _ _ _ _ _ _ _ _ _ _ _ _ _ z=>z.elim) (fun _ _ _ _ _ _ _ _ _ _ z=>z.elim) (fun _ _ _ _ _ _ _ _ _ _ z=>z.elim) hsw hs pins s σ H D I
    ⟨ρ,_,H0,G₀,G,e3,R,q⟩⟩
end
def sY (m:Nat) (ds:List PyData):List Ent:=ds.map .val++zH (m - ds.length) .no
def eA (m n:Nat) (f:SF) (ds:List PyData):Mm PyData:=if ds.length=n then (match f (sY m ds) with
 | some (.rt d)=>some (.ok d)
 | some (.nx _)=>some (.ok .none)
 | _=>none) else none
abbrev aM (P:Program) (w:World) (K:qB) (mg:Str→Option Value) (base:Heap) (x:Str) (k:Nat) (ps:List Str) (F:List PyData→Mm PyData):Prop:=
 Callee P w K mg base x k ps fun ds d=>F ds=some (.ok d)
section
variable {P:Program} {w:World} {K:qB} {mg:Str→Option Value} {base:Heap} {X:Cx} {e:Expr} {es:List Expr} {pos p:Pos} {x:Str} {k:Nat} {ps N:List Str} {F:List PyData→Mm PyData}
def aU (F:List PyData→Mm PyData) (fa:AF):EF:=fun ρ=>bnd (fa ρ) fun ds=>match F ds with
 | some (.ok d)=>some (.ok d)
 | _=>none
theorem aO {fa:AF} (C:aM X.prog X.w X.K X.mg X.base x k ps F) (hr:Room k X.A) (ha:DA X (e::es) fa) (hg:Gl X x:=by rfl) (hdb:(x==("__debug__" : Str))=false:=by decide)
  (he:starEach (e::es) X.env=(false,eval e X.env)::starEach es X.env:=by rfl) (hpl:(backTo pos (starEach es X.env)).any (·.1)=false:=by rfl):DE X (.Call (.Name x p) (e::es) [] pos) (aU F fa):=⟨fun pins s σ H Q I ⟨ρ,r,H0,G₀,G,e',R,q⟩=>by
 obtain ⟨f,fd,a,b,c,Fk⟩:=C.ex
 refine b2j Fk hr hg a b c .nil (b6Q (X:=X)) ha.run hdb he hpl pins s σ H Q I (bA R e' q.x fun ds vs G1 H1 g1 R1 rv e1=>?_)
 split at e1
 ·rename_i d ed
  cases (qA e1)
  exact ⟨G1,ds,d,⟨g1.sub,R1.tab⟩,by simpa using rv,ed,fun v G2 H2 g2 r2=>q v G2 H2 (g1.trans g2) r2⟩
 ·cases e1⟩
theorem sZ (N:List Str) (ds:List PyData):gF N ds=sY N.length ds:=rfl
theorem b5E {st:Stmt} {f:SF} {fa:Addr} {fd:FuncData} (m n:Nat) (Fu:Fun K x x st fa fd) (S:FnScope N ps (aD st)) (hm:N.length=m) (hn:ps.length=n)
  (body:∀ (cdv:Value) (A:Around) (outer:List Env) (s:Shared) (H:Hp) (E:XK),Room k (A.deeper (envOfC x (aD st) s.heap.objs.size fa cdv))→DB (fcx P w K mg base N x (aD st) fa cdv A outer s H E) (cA st) f) :
  FnOk P w K mg base CX0 (k+1) fa fd ps (spD K fun ds d=>eA m n f ds=some (.ok d)):=by
 refine Fu.ok S (fun vs H Q E ⟨G,ds,d,s,r,hF,_⟩=>?_) (fun cdv A outer s H vs Q E hr ⟨G,ds,d,sm,r,hF,q⟩=>?_)
 ·have hF:eA m n f ds=some (.ok d):=hF
  unfold eA at hF
  split at hF
  ·rename_i hl;rw [r.length,hl,hn]
  ·cases hF
 ·have hF:eA m n f ds=some (.ok d):=hF
  unfold eA at hF
  split at hF
  ·rw [←hm,←sZ] at hF
   split at hF
   ·rename_i d' e
    cases (qA hF)
    exact ⟨_,(body cdv A outer s H E hr).run,gF N ds,_,H,G,G,e,fP sm r,fun v G' H' _ g rv=>q v G' H' g rv⟩
   ·rename_i ρ' e
    cases (qA hF)
    exact ⟨_,(body cdv A outer s H E hr).run,gF N ds,_,H,G,G,e,fP sm r,fun G' H' σ' _ R'=>q .non G' H' R'.grow .none⟩
   ·cases hF
  ·cases hF
theorem aT {st:Stmt} {f:SF} (m n:Nat) (D:Def K mg x st) (S:FnScope N ps (aD st)) (hm:N.length=m) (hn:ps.length=n)
  (hb:∀ (kV doc pm:Value) (an:Option Addr) (cdv ct:Value) (us:List Value),us.length=ps.length→bindArgs (jd x x (fH st) (cA st) (aD st) .none kV doc pm an cdv ct) ⟨us,[]⟩=pure (ps.zip us))
  (body:∀ (fa:Addr) (cdv:Value) (A:Around) (outer:List Env) (s:Shared) (H:Hp) (E:XK),Room k (A.deeper (envOfC x (aD st) s.heap.objs.size fa cdv))→DB (fcx P w K mg base N x (aD st) fa cdv A outer s H E) (cA st) f) :
  aM P w K mg base x (k+1) ps (eA m n f):=by
 obtain ⟨fa,fd,Fu,hmg⟩:=D.ex
 exact ⟨fa,fd,hmg,Fu.kp,Fu.binds hb,b5E m n Fu S hm hn fun cdv A outer s H E hr=>body fa cdv A outer s H E hr⟩
end
end L2.L3
namespace L2.L3
open PySem PySem.Spec PyProof.Rows
def dH {α:Type} (f:PyData→Option α):List PyData→Option (List α)
 | []=>some []
 | d::ds=>match f d with
  | none=>none
  | some a=>(dH f ds).map (a::·)
def a7k:PyData→Option Str
 | .str i=>some i
 | _=>none
theorem a1O {d:PyData} {i:Str} (h:a7k d=some i):d=.str i:=by
 cases d<;>first | (cases h;done) | (cases (qA h);rfl)
theorem dA {α:Type} {f:PyData→Option α} {g:α→PyData} (h:∀ d a,f d=some a→d=g a):∀ {ds:List PyData} {as:List α},dH f ds=some as→ds=as.map g
 | [],as,e=>by cases (qA e);rfl
 | d::ds,as,e=>by
  unfold dH at e
  split at e
  ·cases e
  ·rename_i a ea
   obtain ⟨as',e',rfl⟩:=qK.mp e
   rw [qG,←h d a ea,dA h e']
theorem nX {α:Type} {f:PyData→Option α} {g:α→PyData} (h:∀ a,f (g a)=some a):∀ as:List α,dH f (as.map g)=some as
 | []=>rfl
 | a::as=>by rw [qG,dH,h a];show (dH f (as.map g)).map (a::·)=_;rw [nX h as];rfl
theorem a1o (ns:List Int):dH intD (ns.map .int)=some ns:=nX (g:=.int) (fun _=>rfl) ns
theorem a7j (ns:List Str):dH a7k (ns.map .str)=some ns:=nX (g:=.str) (fun _=>rfl) ns
section
variable {X:Cx} {x y d:PyData}
theorem a9I {op:Operator} {g:Int→Int→Int} {i j:Int} (ho:OpR X (binaryOp op) (rI0 fun i j=>.int (g i j))):OpD X op (.int i) (.int j) (.int (g i j)):=⟨_,ho,fun v u G H Q s rv ru q=>by
 cases rv;cases ru;exact ⟨_,_,rfl,rfl,q _ _ _ (.refl s) (.int _)⟩⟩
theorem a2c {op:Operator} {C:Int→Int→Prop} {g:Int→Int→Int} {i j:Int} (ho:OpR X (binaryOp op) (rI C fun i j=>.int (g i j))) (hc:C i j):OpD X op (.int i) (.int j) (.int (g i j)):=⟨_,ho,fun v u G H Q s rv ru q=>by
 cases rv;cases ru;exact ⟨_,_,rfl,rfl,hc,q _ _ _ (.refl s) (.int _)⟩⟩
def cU (x y:PyData):Option PyData:=match x,y with
 | .int i,.int j=>some (.int (i+j))
 | .str i,.str j=>if fK (i.length+j.length) then some (.str (i++j)) else none
 | .list a,.list b=>if fK (a.length+b.length) then some (.list (a++b)) else none
 | .tuple a,.tuple b=>if fK (a.length+b.length) then some (.tuple (a++b)) else none
 | _,_=>none
theorem cM (x y d:PyData) (h:cU x y=some d):OpD X .Add x y d:=by
 unfold cU at h
 split at h
 ·cases (qA h);exact a9I b4Y
 ·split at h
  ·rename_i i j hz
   cases (qA h)
   exact ⟨_,a4K,fun v u G H Q s rv ru q=>by cases rv;cases ru;exact ⟨_,_,rfl,rfl,lE hz,q _ _ _ (.refl s) (.str _)⟩⟩
  ·cases h
 ·split at h
  ·rename_i a b hz
   cases (qA h)
   exact ⟨_,a6g,fun v u G H Q s rv ru q=>by
    cases rv with
    | list h1 r1=>cases ru with
     | list h2 r2=>exact ⟨_,_,_,_,rfl,rfl,s.seq h1,s.seq h2,by rw [r1.length,r2.length];exact lE hz,fun l hl=>q _ _ _ (.put s hl) (.list (.of aL) ((r1.append r2).mono (bJ (s.free hl))))⟩⟩
  ·cases h
 ·split at h
  ·rename_i a b hz
   cases (qA h)
   exact ⟨_,b2r,fun v u G H Q s rv ru q=>by
    cases rv with
    | tuple h1 r1=>cases ru with
     | tuple h2 r2=>
      refine ⟨_,_,_,_,rfl,rfl,gM s h1,gM s h2,by rw [r1.length,r2.length];exact lE hz,fun z=>?_,fun z z2=>?_,fun _ _ l hl=>q _ _ _ (.put s hl) (.tuple (.of aL) ((r1.append r2).mono (bJ (s.free hl))))⟩
      ·subst z
       cases r1
       exact q _ G H (.refl s) (.tuple h2 r2)
      ·subst z2
       cases r2
       exact q _ G H (.refl s) (by rw [kM];exact .tuple h1 r1)⟩
  ·cases h
 ·cases h
def a9e (x y:PyData):Option PyData:=match x,y with
 | .int i,.int j=>some (.int (i - j))
 | _,_=>none
theorem a9d (x y d:PyData) (h:a9e x y=some d):OpD X .Sub x y d:=by
 unfold a9e at h
 split at h
 ·cases (qA h);exact a9I b4S
 ·cases h
def iW (i:Int):Bool:=decide (-(2 ^ 64)<i)&&decide (i<2 ^ 64)
theorem a0M {i:Int} (h:iW i=true):-(2 ^ 64)<i∧i<2 ^ 64:=by
 unfold iW at h
 rw [qJ] at h
 exact ⟨of_decide_eq_true h.1,of_decide_eq_true h.2⟩
def mH (x y:PyData):Option PyData:=match x,y with
 | .int i,.int j=>if iW i || iW j then some (.int (i*j)) else none
 | _,_=>none
theorem pF (x y d:PyData) (h:mH x y=some d):OpD X .Mult x y d:=by
 unfold mH at h
 split at h
 ·split at h
  ·rename_i hz
   cases (qA h)
   rw [vP] at hz
   exact a2c b4U (hz.imp a0M a0M)
  ·cases h
 ·cases h
def a4P (x y:PyData):Option PyData:=match x,y with
 | .int i,.int j=>if 0<j then some (.int (i % j)) else none
 | _,_=>none
theorem a2h (x y d:PyData) (h:a4P x y=some d):OpD X .Mod x y d:=by
 unfold a4P at h
 split at h
 ·split at h
  ·rename_i hz
   cases (qA h)
   exact a2c b4V hz
  ·cases h
 ·cases h
def b2V (x y:PyData):Option PyData:=match x,y with
 | .int i,.int j=>if 0<j∧j<1073741824 then some (.int (i / j)) else none
 | _,_=>none
theorem b5F (x y d:PyData) (h:b2V x y=some d):OpD X .FloorDiv x y d:=by
 unfold b2V at h
 split at h
 ·split at h
  ·rename_i hz
   cases (qA h)
   exact a2c b2q hz
  ·cases h
 ·cases h
def ltD (x y:PyData):Option Bool:=match x,y with
 | .int i,.int j=>some (decide (i<j))
 | _,_=>none
def leD (x y:PyData):Option Bool:=match x,y with
 | .int i,.int j=>some (decide (i≤j))
 | .str i,.str j=>some (!decide (j.cps.toList<i.cps.toList))
 | _,_=>none
def gtD (x y:PyData):Option Bool:=match x,y with
 | .int i,.int j=>some (decide (j<i))
 | _,_=>none
def geD (x y:PyData):Option Bool:=match x,y with
 | .int i,.int j=>some (decide (j≤i))
 | _,_=>none
theorem a3x (x y:PyData) (t:Bool) (h:ltD x y=some t):CmpD X .Lt x y t:=by
 unfold ltD at h;split at h
 ·cases (qA h);exact b5Y
 ·cases h
theorem oQ (x y:PyData) (t:Bool) (h:leD x y=some t):CmpD X .LtE x y t:=by
 unfold leD at h;split at h
 ·cases (qA h);exact b5Z
 ·cases (qA h);exact b3q
 ·cases h
theorem b0B (x y:PyData) (t:Bool) (h:gtD x y=some t):CmpD X .Gt x y t:=by
 unfold gtD at h;split at h
 ·cases (qA h);exact cmp_gt
 ·cases h
def eqD (x y:PyData):Option Bool:=match x,y with
 | .int i,.int j=>some (decide (i=j))
 | .str i,.str j=>some (decide (i=j))
 | .bool i,.bool j=>some (decide (i=j))
 | x,y=>if qQ x&&qQ y then some (jC x y) else none
def neD (x y:PyData):Option Bool:=match x,y with
 | .int i,.int j=>some (!decide (i=j))
 | .str i,.str j=>some (!decide (i=j))
 | .bool i,.bool j=>some (!decide (i=j))
 | x,y=>if qQ x&&qQ y then some (!PyData.eqv x y) else none
theorem yO (hu:X.A.units+64<cLine) (x y:PyData) (t:Bool) (h:eqD x y=some t):CmpD X .Eq x y t:=by
 unfold eqD at h;split at h
 ·cases (qA h);exact b3s
 ·cases (qA h);exact b3r
 ·cases (qA h);exact b3t
 ·split at h
  ·rename_i hz
   rw [qJ] at hz
   cases (qA h);exact b6a hu hz.1 hz.2
  ·cases h
theorem gB (hu:X.A.units+64<cLine) (x y:PyData) (t:Bool) (h:neD x y=some t):CmpD X .NotEq x y t:=by
 unfold neD at h;split at h
 ·cases (qA h);exact b3o
 ·cases (qA h);exact b3n
 ·cases (qA h);exact b3p
 ·split at h
  ·rename_i hz
   rw [qJ] at hz
   cases (qA h);exact b5X hu hz.1 hz.2
  ·cases h
def inD (x y:PyData):Option Bool:=match x,wH y with
 | .int i,some ds=>(dH intD ds).map fun ns=>decide (i∈ns)
 | .str i,some ds=>(dH a7k ds).map fun ns=>decide (i∈ns)
 | _,_=>none
def b5e (x y:PyData):Option Bool:=(inD x y).map (!·)
theorem iL {K:qB} {G H:Hp} {v:V} {y:PyData} {ds:List PyData} (s:bH G H) (h:wH y=some ds) (r:Rep K G v y):∃ p vs,v=.ref p∧(SqL K H p vs∨SqT K H p vs)∧RepAll K G vs ds:=by
 cases r with
 | list hq r=>cases (qA h);exact ⟨_,_,rfl,.inl (s.seq hq),r⟩
 | tuple hq r=>cases (qA h);exact ⟨_,_,rfl,.inr (gM s hq),r⟩
 | dict _ _ _=>cases h
 | none=>cases h
 | bool _=>cases h
 | int _=>cases h
 | str _=>cases h
theorem b7i (x y:PyData) (t:Bool) (h:inD x y=some t):CmpD X .In x y t:=by
 unfold inD at h;split at h
 ·rename_i i ds e
  obtain ⟨ns,e2,rfl⟩:=qK.mp h
  have:=dA (g:=.int) (fun d a q=>gQ q) e2
  subst this
  exact ⟨_,a0Z,fun v u G H Q s rv ru q=>by
   obtain ⟨p,vs,rfl,hq,r⟩:=iL s e ru
   have e3:=r.ints
   subst e3
   cases rv
   exact ⟨p,_,rfl,hq,rfl,a1s ns,by rw [a3F];simpa using q⟩⟩
 ·rename_i i ds e
  obtain ⟨ns,e2,rfl⟩:=qK.mp h
  have:=dA (g:=.str) (fun d a q=>a1O q) e2
  subst this
  exact ⟨_,a0Z,fun v u G H Q s rv ru q=>by
   obtain ⟨p,vs,rfl,hq,r⟩:=iL s e ru
   have e3:=r.strs
   subst e3
   cases rv
   exact ⟨p,_,rfl,hq,rfl,a1r ns,by rw [a3E];simpa using q⟩⟩
 ·cases h
theorem b5d (x y:PyData) (t:Bool) (h:b5e x y=some t):CmpD X .NotIn x y t:=by
 unfold b5e at h
 obtain ⟨t',hq,rfl⟩:=qK.mp h
 clear h
 unfold inD at hq;split at hq
 ·rename_i i ds e
  obtain ⟨ns,e2,rfl⟩:=qK.mp hq
  have:=dA (g:=.int) (fun d a q=>gQ q) e2
  subst this
  exact ⟨_,rN,fun v u G H Q s rv ru q=>by
   obtain ⟨p,vs,rfl,hq,r⟩:=iL s e ru
   have e3:=r.ints
   subst e3
   cases rv
   exact ⟨p,_,rfl,hq,rfl,a1s ns,by rw [a3F];simpa using q⟩⟩
 ·rename_i i ds e
  obtain ⟨ns,e2,rfl⟩:=qK.mp hq
  have:=dA (g:=.str) (fun d a q=>a1O q) e2
  subst this
  exact ⟨_,rN,fun v u G H Q s rv ru q=>by
   obtain ⟨p,vs,rfl,hq,r⟩:=iL s e ru
   have e3:=r.strs
   subst e3
   cases rv
   exact ⟨p,_,rfl,hq,rfl,a1r ns,by rw [a3E];simpa using q⟩⟩
 ·cases hq
def yB (ds:List PyData):Option PyData:=match ds with
 | [.list xs]=>some (.int xs.length)
 | [.tuple xs]=>some (.int xs.length)
 | [.str z]=>if fK z.length then some (.int z.length) else none
 | _=>none
theorem pI (ds:List PyData) (d:PyData) (h:yB ds=some d):CallD X (.builtin "len") ds d:=by
 unfold yB at h;split at h
 ·cases (qA h)
  exact ⟨_,sJ,fun vs G H Q s r q=>by
   cases r with | cons r rr=>cases rr;cases r with | list hq r=>exact ⟨_,_,rfl,.inl (s.seq hq),by rw [r.length];exact q _ G H (.refl s) (.int _)⟩⟩
 ·cases (qA h)
  exact ⟨_,sJ,fun vs G H Q s r q=>by
   cases r with | cons r rr=>cases rr;cases r with | tuple hq r=>exact ⟨_,_,rfl,.inr (gM s hq),by rw [r.length];exact q _ G H (.refl s) (.int _)⟩⟩
 ·split at h
  ·rename_i hz
   cases (qA h)
   exact ⟨_,a2J,fun vs G H Q s r q=>by
    cases r with | cons r rr=>cases rr;cases r with | str z=>exact ⟨_,rfl,lE hz,q _ G H (.refl s) (.int _)⟩⟩
  ·cases h
 ·cases h
def a9Z (ds:List PyData):Option PyData:=match ds with
 | [.int i,.int j]=>some (.int (max i j))
 | [.list xs]=>(match dH intD xs with | some (n::ns)=>some (.int (b5j (n::ns))) | _=>none)
 | _=>none
def a7L (ds:List PyData):Option PyData:=match ds with
 | [.int i,.int j]=>some (.int (min i j))
 | [.list xs]=>(match dH intD xs with | some (n::ns)=>some (.int (b5i (n::ns))) | _=>none)
 | _=>none
theorem a9Y (hc:X.calm=true) (ds:List PyData) (d:PyData) (h:a9Z ds=some d):CallD X (.builtin "max") ds d:=by
 unfold a9Z at h;split at h
 ·rename_i i j
  cases (qA h)
  exact ⟨_,a8p hc,fun vs G H Q s r q=>by
   cases r with | cons r rr=>cases rr with | cons r' rr=>cases rr;cases r;cases r';exact ⟨i,j,rfl,by rw [show (if j > i then j else i)=max i j by split<;>omega];exact q _ G H (.refl s) (.int _)⟩⟩
 ·split at h
  ·rename_i xs n ns e
   cases (qA h)
   have:=dA (g:=.int) (fun d a q=>gQ q) e
   subst this
   exact ⟨_,a8o hc,fun vs G H Q s r q=>by
    cases r with | cons r rr=>cases rr;cases r with | list hq r=>
     have e:=r.ints
     subst e
     exact ⟨_,n::ns,rfl,s.seq hq,by simp,fun M m1 m2=>by rw [b2D m1 m2];exact q _ G H (.refl s) (.int _)⟩⟩
  ·cases h
 ·cases h
theorem a9X (hc:X.calm=true) (ds:List PyData) (d:PyData) (h:a7L ds=some d):CallD X (.builtin "min") ds d:=by
 unfold a7L at h;split at h
 ·rename_i i j
  cases (qA h)
  exact ⟨_,a8n hc,fun vs G H Q s r q=>by
   cases r with | cons r rr=>cases rr with | cons r' rr=>cases rr;cases r;cases r';exact ⟨i,j,rfl,by rw [show (if j<i then j else i)=min i j by split<;>omega];exact q _ G H (.refl s) (.int _)⟩⟩
 ·split at h
  ·rename_i xs n ns e
   cases (qA h)
   have:=dA (g:=.int) (fun d a q=>gQ q) e
   subst this
   exact ⟨_,a8m hc,fun vs G H Q s r q=>by
    cases r with | cons r rr=>cases rr;cases r with | list hq r=>
     have e:=r.ints
     subst e
     exact ⟨_,n::ns,rfl,s.seq hq,by simp,fun M m1 m2=>by rw [b2B m1 m2];exact q _ G H (.refl s) (.int _)⟩⟩
  ·cases h
 ·cases h
def a4x (ds:List PyData):Option PyData:=match ds with
 | [.list xs]=>(dH intD xs).map fun ns=>.int ns.sum
 | _=>none
theorem a9b (hc:X.calm=true) (ds:List PyData) (d:PyData) (h:a4x ds=some d):CallD X (.builtin "sum") ds d:=by
 unfold a4x at h;split at h
 ·obtain ⟨ns,e,rfl⟩:=qK.mp h
  have:=dA (g:=.int) (fun d a q=>gQ q) e
  subst this
  exact ⟨_,a8l hc,fun vs G H Q s r q=>by
   cases r with | cons r rr=>cases rr;cases r with | list hq r=>
    have e:=r.ints
    subst e
    exact ⟨_,ns,rfl,s.seq hq,q _ G H (.refl s) (.int _)⟩⟩
 ·cases h
def allB (ds:List PyData):Option PyData:=match ds with
 | [.list xs]=>(dH oW xs).map fun ns=>.bool (ns.all id)
 | _=>none
theorem b1w (hc:X.calm=true) (ds:List PyData) (d:PyData) (h:allB ds=some d):CallD X (.builtin "all") ds d:=by
 unfold allB at h;split at h
 ·obtain ⟨ns,e,rfl⟩:=qK.mp h
  have:=dA (g:=.bool) (fun d a q=>a0i q) e
  subst this
  exact ⟨_,a8q hc,fun vs G H Q s r q=>by
   cases r with | cons r rr=>cases rr;cases r with | list hq r=>
    have e:=r.bools
    subst e
    exact ⟨_,ns,rfl,s.seq hq,q _ G H (.refl s) (.bool _)⟩⟩
 ·cases h
def pZ (ds:List PyData):Option PyData:=match ds with
 | [.list xs]=>some (.tuple xs)
 | [.tuple xs]=>some (.tuple xs)
 | _=>none
theorem oY (ds:List PyData) (d:PyData) (h:pZ ds=some d):CallD X (.type "tuple") ds d:=by
 unfold pZ at h;split at h
 ·cases (qA h)
  exact ⟨_,oV,fun vs G H Q s r q=>by
   cases r with | cons r rr=>cases rr;cases r with | list hq r=>exact ⟨_,_,rfl,.inl ⟨s.seq hq,fun l hl=>q _ _ _ (.put s hl) (.tuple (.of aL) (r.mono (bJ (s.free hl))))⟩⟩⟩
 ·cases (qA h)
  exact ⟨_,oV,fun vs G H Q s r q=>by
   cases r with | cons r rr=>cases rr;cases r with | tuple hq r=>exact ⟨_,_,rfl,.inr ⟨gM s hq,q _ G H (.refl s) (.tuple hq r)⟩⟩⟩
 ·cases h
def b7b (ds:List PyData):Option PyData:=match ds with
 | [.list xs]=>some (.list xs)
 | [.tuple xs]=>some (.list xs)
 | _=>none
def a5d (ds:List PyData):Option PyData:=match ds with
 | [.bool b]=>some (.int (if b then 1 else 0))
 | [.int i]=>some (.int i)
 | _=>none
theorem b0w (ds:List PyData) (d:PyData) (h:a5d ds=some d):CallD X (.type "int") ds d:=by
 unfold a5d at h;split at h
 ·cases (qA h)
  exact ⟨_,a1A,fun vs G H Q s r q=>by
   cases r with | cons r rr=>cases rr;cases r;exact .inr ⟨_,rfl,q _ G H (.refl s) (.int _)⟩⟩
 ·cases (qA h)
  exact ⟨_,a1A,fun vs G H Q s r q=>by
   cases r with | cons r rr=>cases rr;cases r;exact .inl ⟨_,rfl,q _ G H (.refl s) (.int _)⟩⟩
 ·cases h
def b1L (ds:List PyData):Option PyData:=match ds with
 | [.list xs]=>(match dH intD xs with | some ns=>if ns.length<64 then some (.list ((sortI ns).map .int)) else none | none=>none)
 | _=>none
theorem b4s (ds:List PyData) (d:PyData) (h:b1L ds=some d):CallD X (.builtin "sorted") ds d:=by
 unfold b1L at h;split at h
 ·split at h
  ·rename_i xs ns e
   split at h
   ·rename_i hl
    cases (qA h)
    have:=dA (g:=.int) (fun d a q=>gQ q) e
    subst this
    exact ⟨_,a2I,fun vs G H Q s r q=>by
     cases r with | cons r rr=>cases rr;cases r with | list hq r=>
      have e:=r.ints
      subst e
      exact ⟨_,ns,rfl,s.seq hq,hl,fun l hn=>q _ _ _ (.put s hn) (.list (.of aL) (fD _))⟩⟩
   ·cases h
  ·cases h
 ·cases h
end
section
variable {X:Cx} {a b:Expr} {pos p p2:Pos} {fa fb:EF}
def xU:PyData→Option PyData
 | .int i=>some (.int (-i))
 | _=>none
def op1 (g:PyData→Option PyData) (fa:EF):EF:=fun ρ=>bnd (fa ρ) fun x=>lft (g x)
theorem a5u (ha:DE X a fa):DE X (.UnaryOp .USub a pos) (op1 xU fa):=⟨fun pins s σ H Q I ⟨ρ,r,H0,G₀,G,e,R,q⟩=>b6O b4l ha.run pins s σ H Q I (bE R e q.x fun x v G1 H1 g1 R1 rv e1=>by
 obtain ⟨d,ed,rfl⟩:=aY e1
 cases x with
 | int i=>cases (qA ed);cases rv;exact ⟨_,rfl,q _ _ _ g1 (.int _)⟩
 | none=>cases ed
 | bool _=>cases ed
 | str _=>cases ed
 | list _=>cases ed
 | tuple _=>cases ed
 | dict _=>cases ed)⟩
end
end L2.L3
namespace L2.L3
open PySem PySem.Spec PyProof.Rows
def b1m (g1 g2 g3:PyData→PyData→Option Bool) (fa fb fc fd:EF):EF:=fun ρ=>bnd (fa ρ) fun x=>bnd (fb ρ) fun y=>bnd (lft (g1 x y)) fun t=>if t then bnd (fc ρ) fun z=>bnd (lft (g2 y z)) fun u=>if u then bnd (fd ρ) fun w=>lft ((g3 z w).map .bool) else some (.ok (.bool false)) else some (.ok (.bool false))
def isB (k x:PyData):Option Bool:=match k,x with
 | .none,.none=>some true
 | .none,.bool _=>some false
 | .none,.int _=>some false
 | .none,.str _=>some false
 | .none,.list _=>some false
 | .none,.tuple _=>some false
 | .none,.dict _=>some false
 | .bool a,.bool b=>some (b==a)
 | _,_=>none
def isE (neg:Bool) (k:PyData) (fa:EF):EF:=fun ρ=>bnd (fa ρ) fun x=>lft ((isB k x).map fun t=>.bool (neg != t))
def isT (neg:Bool) (k:PyData) (fa:EF):TF:=fun ρ=>bnd (fa ρ) fun x=>lft ((isB k x).map fun t=>neg != t)
abbrev OF:=List Ent→Mm (Option Int)
def a1b:OF:=fun _=>some (.ok none)
def a1a (fa:EF):OF:=fun ρ=>bnd (fa ρ) fun x=>lft ((intD x).map some)
def slD (x:PyData) (lo hi:Option Int):Option PyData:=match x with
 | .list ds=>some (.list (cutD ds lo hi))
 | .tuple ds=>if HT.sIx ds.length 0 lo=0∧HT.sIx ds.length ds.length hi=ds.length then none else some (.tuple (cutD ds lo hi))
 | _=>none
def slE (fa:EF) (lo hi:OF):EF:=fun ρ=>bnd (fa ρ) fun x=>bnd (lo ρ) fun l=>bnd (hi ρ) fun h=>lft (slD x l h)
def tyI:PyData→Option Bool
 | .int _=>some true
 | .bool _=>some true
 | .dict _=>none
 | _=>some false
def tyB:PyData→Option Bool
 | .bool _=>some true
 | .dict _=>none
 | _=>some false
def tyS:PyData→Option Bool
 | .str _=>some true
 | .dict _=>none
 | _=>some false
def tyT:PyData→Option Bool
 | .tuple _=>some true
 | .dict _=>none
 | _=>some false
def b2M (T:String) (x:PyData):Option Bool:=if T = "int" then tyI x else if T = "bool" then tyB x else if T = "str" then tyS x else if T = "tuple" then tyT x else none
def isD (T:String) (x:PyData):Option PyData:=(b2M T x).map .bool
def a2R (a b:List PyData):List PyData:=(a.zip b).map fun p=>.tuple [p.1,p.2]
def a8H (fa fb:EF):AF:=fun ρ=>match fa ρ,fb ρ with
 | some (.ok (.list a)),some (.ok (.list b))=>some (.ok (a2R a b))
 | _,_=>none
def gH (ns:List Int):List Int:=ns.foldl (fun a n=>if n∈a then a else a++[n]) []
def gG (ns:List Str):List Str:=ns.foldl (fun a n=>if n∈a then a else a++[n]) []
def bR (a b:Str):Bool:=!decide (b.cps.toList<a.cps.toList)
def eG (ns:List Str):List Str:=ns.mergeSort bR
def oK (x:PyData):Option PyData:=match x with
 | .list xs=>(match dH intD xs with
  | some ns=>if ns.length<64 then some (.list ((sortI (gH ns)).map .int)) else none
  | none=>(match dH a7k xs with
   | some ns=>if ns.length<64 then some (.list ((eG (gG ns)).map .str)) else none
   | none=>none))
 | _=>none
end L2.L3
namespace L2.L3
open PySem PySem.Spec PyProof.Rows
section
variable {X:Cx} {e a b c d:Expr} {es:List Expr} {pos p p2:Pos} {fa fb fc fd:EF}
theorem b3j {o1 o2 o3:CmpOp} {g1 g2 g3:PyData→PyData→Option Bool} (h1:∀ x y t,g1 x y=some t→CmpD X o1 x y t) (h2:∀ x y t,g2 x y=some t→CmpD X o2 x y t) (h3:∀ x y t,g3 x y=some t→CmpD X o3 x y t)
  (ha:DE X a fa) (hb:DE X b fb) (hc:DE X c fc) (hd:DE X d fd) (hm:lastMarks [o1,o2,o3] [b,c,d]=false:=by with_unfolding_all rfl):DE X (.Compare a [o1,o2,o3] [b,c,d] pos) (b1m g1 g2 g3 fa fb fc fd):=⟨fun pins s σ H Q I ⟨ρ,r,H0,G₀,G,ef,R,q⟩=>by
 refine Compare_chain (thn (ha.run pins s σ H (fun v H1=>rE X fb σ H1 fun u H2=>∃ x y G2 t,CmpD X o1 x y t∧Rep X.K G2 v x∧Rep X.K G2 u y∧RepS X.K H0 G₀ G2 H2 σ ρ∧a4k X H0 G₀ G2 ρ H2 Q r ∧
   (if t then bnd (fc ρ) fun z=>bnd (lft (g2 y z)) fun u=>if u then bnd (fd ρ) fun w=>lft ((g3 z w).map .bool) else some (.ok (.bool false)) else some (.ok (.bool false)))=some r) I
  (bE R ef q.x fun x v G1 H1 k1 R1 rv e1=>bE R1 e1 (q.more k1).x fun y u G2 H2 k2 R2 ru e2=>by
   rcases cR e2 with ⟨t,et,e3⟩ | ⟨_,et,_⟩
   ·obtain ⟨t',et',z⟩:=aY et
    cases z
    exact ⟨x,y,G2,_,h1 x y _ et',rv.mono k2.gg,ru,R2,(q.more k1).more k2,e3⟩
   ·obtain ⟨_,_,z⟩:=aY et;cases z)) fun v s1 ⟨xv,H1,I1,r1,q1⟩=>chain_link (thn (hb.run pins s1 σ H1 _ I1 q1) fun u s2 ⟨yv,H2,I2,r2,x,y,G2,t,ct,rx,ry,R2,q2,e3⟩=>?_)) hm
 obtain ⟨rr,hr1,hr2⟩:=ct.ex
 refine thn (hr1 pins s2 σ H2 xv yv v u (fun w H'=>w=.bl t∧H'=H2) I2 r1 r2 (hr2 xv yv G2 H2 _ R2.sub rx ry ⟨rfl,rfl⟩)) fun dv s3 ⟨z,H3,I3,r3,ez,eH⟩=>?_
 subst ez eH
 cases r3
 refine wpAny_truthy_bool ?_
 cases t with
 | false=>
  refine ite_ff ?_
  rw [if_neg (by decide)] at e3
  cases (qA e3)
  exact ⟨.bl false,H3,I3,rfl,q2 _ _ _ (.refl R2.sub) (.bool _)⟩
 | true=>
  refine ite_tt ?_
  rw [if_pos rfl] at e3
  refine chain_link (thn (hc.run pins s3 σ H3 (fun w H4=>∃ z G4 t,CmpD X o2 y z t∧Rep X.K G4 yv y∧Rep X.K G4 w z∧RepS X.K H0 G₀ G4 H4 σ ρ∧a4k X H0 G₀ G4 ρ H4 Q r ∧
    (if t then bnd (fd ρ) fun w=>lft ((g3 z w).map .bool) else some (.ok (.bool false)))=some r) I3
   (bE R2 e3 q2.x fun z w G4 H4 k4 R4 rw' e4=>by
    rcases cR e4 with ⟨t,et,e5⟩ | ⟨_,et,_⟩
    ·obtain ⟨t',et',z'⟩:=aY et
     cases z'
     exact ⟨z,G4,_,h2 y z _ et',ry.mono k4.gg,rw',R4,q2.more k4,e5⟩
    ·obtain ⟨_,_,z'⟩:=aY et;cases z')) fun w s4 ⟨wv,H4,I4,r4,z,G4,t,ct2,ry4,rz,R4,q4,e5⟩=>?_)
  obtain ⟨rr2,hr3,hr4⟩:=ct2.ex
  refine thn (hr3 pins s4 σ H4 yv wv u w (fun w H'=>w=.bl t∧H'=H4) I4 r2 r4 (hr4 yv wv G4 H4 _ R4.sub ry4 rz ⟨rfl,rfl⟩)) fun dv2 s5 ⟨z2,H5,I5,r5,ez2,eH2⟩=>?_
  subst ez2 eH2
  cases r5
  refine wpAny_truthy_bool ?_
  cases t with
  | false=>
   refine ite_ff ?_
   rw [if_neg (by decide)] at e5
   cases (qA e5)
   exact ⟨.bl false,H5,I5,rfl,q4 _ _ _ (.refl R4.sub) (.bool _)⟩
  | true=>
   refine ite_tt ?_
   rw [if_pos rfl] at e5
   refine chain_last (thn (hd.run pins s5 σ H5 (fun k H6=>∃ rr,OpR X (compareOp o3) rr∧rr wv k H6 Q) I5
    (bE R4 e5 q4.x fun wd k G6 H6 k6 R6 rk e6=>by
     obtain ⟨d',ed,rfl⟩:=aY e6
     obtain ⟨t,et,rfl⟩:=qK.mp ed
     obtain ⟨rr3,hr5,hr6⟩:=(h3 z wd t et).ex
     exact ⟨rr3,hr5,hr6 wv k G6 H6 Q k6.sub (rz.mono k6.gg) rk (q4 _ _ _ k6 (.bool _))⟩)) fun k s6 ⟨kv,H6,I6,r6,rr3,hr5,q6⟩=>hr5 pins s6 σ H6 wv kv w k Q I6 r4 r6 q6)⟩
theorem b2p:OpR X (compareOp .IsNot) (fun x y H Q=>∃ c d,x=.bl c∧y=.bl d∧Q (.bl (c != d)) H):=by
 intro pins s σ H x y v u Q I rx ry ⟨c,d,e1,e2,q⟩
 subst e1 e2
 cases rx;cases ry
 exact isnot_bool (bK I q rfl)
theorem b1i {x:PyData} {t:Bool} (h:isB .none x=some t):CmpD X .IsNot x .none (true != t):=⟨_,b2n,fun v u G H Q s rv ru q=>by
 cases ru
 refine ⟨rfl,?_⟩
 cases rv<;>(have h:=qA h;subst h;simpa using q)⟩
theorem b0v {c:Bool} {x:PyData} {t:Bool} (h:isB (.bool c) x=some t):∃ d,x=.bool d∧t=(d==c):=by
 cases x<;>first | (cases h;done) | (exact ⟨_,rfl,(qA h).symm⟩)
theorem b1h {c:Bool} {x:PyData} {t:Bool} (h:isB (.bool c) x=some t):CmpD X .IsNot x (.bool c) (true != t):=by
 obtain ⟨d,rfl,rfl⟩:=b0v h
 exact ⟨_,b2p,fun v u G H Q s rv ru q=>by cases rv;cases ru;exact ⟨_,_,rfl,rfl,by cases d<;>cases c<;>exact q⟩⟩
def isG (neg:Bool) (k:PyData) (x y:PyData):Option Bool:=match k,y with
 | .none,.none=>(isB k x).map fun t=>neg != t
 | .bool a,.bool b=>if a=b then (isB k x).map fun t=>neg != t else none
 | _,_=>none
theorem b5z (neg:Bool) (k:PyData) (hk:k=.none∨∃ c,k=.bool c):isT neg k fa=cH (isG neg k) fa (cst k):=by
 funext ρ
 unfold isT cH cst
 cases fa ρ with
 | none=>rfl
 | some r=>cases r with
  | ex c=>rfl
  | ok x=>
   rcases hk with rfl | ⟨c,rfl⟩
   ·rfl
   ·show lft _=lft _;simp only [isG,if_pos]
theorem b2O {k x y:PyData} {t:Bool} (h:isG true k x y=some t):CmpD X .IsNot x y t:=by
 unfold isG at h
 split at h
 ·obtain ⟨t',e,rfl⟩:=qK.mp h
  exact b1i (X:=X) e
 ·split at h
  ·rename_i hab
   subst hab
   obtain ⟨t',e,rfl⟩:=qK.mp h
   exact b1h (X:=X) e
  ·cases h
 ·cases h
theorem a0z {k:Bool} {j} (ha:DE X a fa):DT X (.Compare a [.IsNot] [.Constant (.bool k) j p] pos) (isT true (.bool k) fa):=by rw [b5z _ _ (.inr ⟨_,rfl⟩)];exact bQ (fun _ _ _ h=>b2O h) ha eF
end
end L2.L3
namespace L2.L3
open PySem PySem.Spec PyProof.Rows
theorem Inv.turnNew {X:Cx} {pins:List (Addr×Obj)} {σ:St} {H:Hp} {s:Shared} {h':Heap} {t':Nat} {T:Addr} {xs:List V} (ch:List Addr) (I:Inv X pins σ H s) (hf:∀ b∈ch,sP X pins H b)
  (k:∀ b o,b∉ch→s.heap.get? b=some o→h'.get? b=some o) (hT:s.heap.objs.size≤T) (new:bY X.prog X.w (upd H T (.tup xs)) h' T (.tup xs)):Inv X pins σ (upd H T (.tup xs)) { s with heap:=h',toks:=t' }:=by
 have nT:H T=none:=I.hok.fresh hT
 have ne:∀ b o,s.heap.get? b=some o→b≠T:=fun b o e=>qW (qR (qH e) hT)
 have up:∀ b u,H b=some u→upd H T (.tup xs) b=some u:=fun b u e=>by rw [aH (aW e nT)];exact e
 refine I.step (g':=s.gens) (d':=s.drawn) (ch:=ch) (fun b hb=>?_) (fun b o _ _ hc e _=>k b o hc e) (fun b o _ _ hc e _=>⟨o.slots,k b o hc e⟩) (fun b o _ e n=>by rw [aH (ne b o e)];exact n)
  (fun b o hc e=>⟨o,k b o hc e⟩) (fun b u e=>up b _ e) (fun b o u e=>up b _ e) (fun b ps e=>⟨#[],by rw [up b _ e];simp⟩) (fun m hm=>?_) (fun b u e=>?_) I.bare
 ·obtain ⟨f0,f1,f2,f3,f4,f5⟩:=hf b hb
  exact ⟨f3,f1,f4,f5⟩
 ·obtain ⟨o,es,ep,ho,r⟩:=hm
  exact ⟨o,es,ep,k _ o (fun z=>(hf _ z).2.1 rfl) ho,r⟩
 ·by_cases hb:b=T
  ·subst hb
   rw [aL] at e
   cases e
   exact new
  ·rw [aH hb] at e
   refine (I.hok b u e).stay (fun c v hc q=>k c v (fun z=>?_) q) (fun q e'=>up _ _ e') fun c v q=>up _ _ q
   have f0:=(hf c z).1
   rcases hc with z' | z'
   ·rw [z',e] at f0;cases f0
   ·rw [z'] at f0;cases f0
theorem Inv.turnAll {X:Cx} {pins:List (Addr×Obj)} {σ:St} {H:Hp} {s:Shared} {h':Heap} {t':Nat} (ch:List Addr) (I:Inv X pins σ H s) (hf:∀ b∈ch,sP X pins H b)
  (k:∀ b o,b∉ch→s.heap.get? b=some o→h'.get? b=some o):Inv X pins σ H { s with heap:=h',toks:=t' }:=by
 refine I.step (g':=s.gens) (d':=s.drawn) (ch:=ch) (fun b hb=>?_) (fun b o _ _ hc e _=>k b o hc e) (fun b o _ _ hc e _=>⟨o.slots,k b o hc e⟩) (fun b o _ e n=>n)
  (fun b o hc e=>⟨o,k b o hc e⟩) (fun b u e=>e) (fun b o u e=>e) (fun b ps e=>⟨#[],by rw [e];simp⟩) (fun m hm=>?_) (fun b u e=>?_) I.bare
 ·obtain ⟨f0,f1,f2,f3,f4,f5⟩:=hf b hb
  exact ⟨f3,f1,f4,f5⟩
 ·obtain ⟨o,es,ep,ho,r⟩:=hm
  exact ⟨o,es,ep,k _ o (fun z=>(hf _ z).2.1 rfl) ho,r⟩
 ·refine (I.hok b u e).stay (fun c v hc q=>k c v (fun z=>?_) q) (fun q e'=>e') fun c v q=>q
  have f0:=(hf c z).1
  rcases hc with z' | z'
  ·rw [z',e] at f0;cases f0
  ·rw [z'] at f0;cases f0
def Itz (K:qB) (l1 l2:Addr):It:=
 ⟨fun i H=>∃ xs ys x y,SqL K H l1 xs∧SqL K H l2 ys∧xs[i]?=some x∧ys[i]?=some y,
 fun i H v H'=>∃ T x y,H T=none∧v=.ref T∧H'=upd H T (.tup [x,y])∧(∀ xs,SqL K H l1 xs→xs[i]?=some x)∧∀ ys,SqL K H l2 ys→ys[i]?=some y,
 fun i H=>∃ xs ys,SqL K H l1 xs∧SqL K H l2 ys∧(xs.length≤i∨ys.length≤i)⟩
def b6q (z TI TO i1 i2 l1 l2:Addr) (i:Nat) (h:Heap):Prop:=IsZip h z TI TO .none∧IsPair h TI (.ref i1) (.ref i2)∧(∃ a b,IsPair h TO a b)∧h.IsListIter i1 l1 i∧h.IsListIter i2 l2 i
theorem a8R {P:Program} {w:World} {K:qB} {elts:List Expr} {k0:Nat} {p0:Pos} {z TI TO i1 i2 l1 l2:Addr} (D:ZipApart z TI TO i1 i2 l1 l2):Turn P w K (.Tuple elts k0 p0) (Itz K l1 l2) [z,TI,TO,i1,i2] z (b6q z TI TO i1 i2 l1 l2) where
 mem:=by simp
 obj:=fun i h ⟨hz,hTI,⟨a,b,hTO⟩,⟨o1,g1,_,d1⟩,⟨o2,g2,_,d2⟩⟩ c hc=>by
  simp only [qF,qe,or_false] at hc
  rcases hc with rfl | rfl | rfl | rfl | rfl
  ·exact ⟨_,hz,fun v q=>by cases q⟩
  ·exact ⟨_,hTI,fun v q=>by cases q⟩
  ·exact ⟨_,hTO,fun v q=>by cases q⟩
  ·exact ⟨o1,g1,fun v q=>by rw [d1] at q;cases q⟩
  ·exact ⟨o2,g2,fun v q=>by rw [d2] at q;cases q⟩
 keep:=fun i h h' ⟨hz,hTI,⟨a,b,hTO⟩,h1,h2⟩ kp=>⟨kp z (by simp) _ hz,kp TI (by simp) _ hTI,⟨a,b,kp TO (by simp) _ hTO⟩,h1.at fun o e=>kp i1 (by simp) o e,h2.at fun o e=>kp i2 (by simp) o e⟩
 item:=by
  intro X hP hw hK hc i pins s σ H E I hf ⟨hz,hTI,⟨a,b,hTO⟩,h1,h2⟩ ⟨xs,ys,x,y,q1,q2,ex,ey⟩
  subst hP hw hK
  obtain ⟨its,r1,p1,_⟩:=I.list q1
  obtain ⟨its2,r2,p2,_⟩:=I.list q2
  obtain ⟨u,eu,ru⟩:=r1.get ex
  obtain ⟨v,ev,rv⟩:=r2.get ey
  refine wpAny_pyNext_zip_item D hz hTI hTO h1 h2 p1.isList p2.isList (x:=u) (y:=v) (by rw [qt];exact eu) (by rw [qt];exact ev) fun h' a1 a2 a3 a4 a5 a6 hk=>⟨_,rfl,?_⟩
  refine wpAny_letOwnedTupleGo_zip a1 fun h2' hz' hs'=>?_
  have hk2:∀ c o,c∉[z,TO,i1,i2]→s.heap.get? c=some o→h2'.get? c=some o:=fun c o hc e=>by
   simp only [qF,qe,or_false,not_or] at hc
   exact hs'.extBut c o hc.1 (hk c o hc.1 hc.2.1 hc.2.2.1 hc.2.2.2 e)
  have nT:s.heap.objs.size≠z:=jK (qH hz)
  have new:bY X.prog X.w (upd H s.heap.objs.size (.tup [x,y])) h2' s.heap.objs.size (.tup [x,y]):=
   ⟨by show 2≤sizeLine;decide,[u,v],.cons ru (.cons rv .nil),⟨_,hs'.extBut _ _ nT a5,rfl,_,rfl⟩⟩
  have hfT:H s.heap.objs.size=none:=I.hok.fresh (qN _)
  refine ⟨.ref s.heap.objs.size,upd H s.heap.objs.size (.tup [x,y]),Inv.turnNew (s:=s) (h':=h2') (t':=s.toks) [z,TO,i1,i2] I (fun c hc=>hf c (by simp only [qF,qe,or_false] at hc ⊢;rcases hc with h | h | h | h<;>simp [h])) hk2 (qN _) new,rfl,
   ⟨_,x,y,hfT,rfl,rfl,fun xs' q=>by rw [I.list_inj q q1];exact ex,fun ys' q=>by rw [I.list_inj q q2];exact ey⟩,⟨hz',hs'.extBut _ _ D.TIz (hk _ _ D.TIz D.TITO D.TIi1 D.TIi2 hTI),⟨_,_,hs'.extBut _ _ D.TOz a2⟩,a3.extBut hs'.extBut D.i1z,a4.extBut hs'.extBut D.i2z⟩,fun c hc=>?_⟩
  obtain ⟨o,e,_⟩:∃ o,s.heap.get? c=some o∧True:=by
   simp only [qF,qe,or_false] at hc
   rcases hc with rfl | rfl | rfl | rfl | rfl
   ·exact ⟨_,hz,trivial⟩
   ·exact ⟨_,hTI,trivial⟩
   ·exact ⟨_,hTO,trivial⟩
   ·obtain ⟨o,g,_⟩:=h1;exact ⟨o,g,trivial⟩
   ·obtain ⟨o,g,_⟩:=h2;exact ⟨o,g,trivial⟩
  rw [aH (qW (qH e))]
  exact (hf c hc).1
 done:=by
  intro X hP hw hK hc i pins s σ H E I hf ⟨hz,hTI,⟨a,b,hTO⟩,h1,h2⟩ ⟨xs,ys,q1,q2,hend⟩
  subst hP hw hK
  obtain ⟨its,r1,p1,_⟩:=I.list q1
  obtain ⟨its2,r2,p2,_⟩:=I.list q2
  have l1':=r1.length
  have l2':=r2.length
  refine wpAny_pyNext_zip_end (I.ok.hd hc) D hz hTI hTO h1 h2 p1.isList p2.isList ?_ fun h' hk=>⟨rfl,Inv.turnAll (t':=s.toks) [z,TO,i1,i2] I (fun c hc=>hf c (by simp only [qF,qe,or_false] at hc ⊢;rcases hc with h | h | h | h<;>simp [h])) fun c o hc e=>?_⟩
  ·rcases hend with he | he
   ·exact .inl (by rw [qt];exact qY (by omega))
   ·exact .inr (by rw [qt];exact qY (by omega))
  ·simp only [qF,qe,or_false,not_or] at hc
   exact hk c o hc.1 hc.2.1 hc.2.2.1 hc.2.2.2 e
 self:=fun A i s Q E st h=>wpAny_pyIter_zip st.1 h
theorem a8N {K:qB} {G:Hp} {l1 l2:Addr} {xs ys:List V} {ds es:List PyData} (h1:SqL K G l1 xs) (r1:RepAll K G xs ds) (h2:SqL K G l2 ys) (r2:RepAll K G ys es):Walk K (Itz K l1 l2) G (a2R ds es):=by
 intro i G' H' s1 s2
 have a1:=(s1.trans s2).seq h1
 have a2:=(s1.trans s2).seq h2
 unfold a2R
 refine ⟨fun d e=>?_,fun hl=>⟨xs,ys,a1,a2,?_⟩⟩
 ·rw [qP] at e
  obtain ⟨⟨p,q⟩,e1,rfl⟩:=qK.mp e
  rw [zm] at e1
  obtain ⟨v,ev,rv⟩:=r1.get e1.1
  obtain ⟨u,eu,ru⟩:=r2.get e1.2
  refine ⟨⟨xs,ys,v,u,a1,a2,ev,eu⟩,fun x H2 ⟨T,x',y',hT,ex,eH,b1,b2⟩=>?_⟩
  subst ex eH
  have b3:=b1 xs a1
  have b4:=b2 ys a2
  rw [ev] at b3
  rw [eu] at b4
  cases b3
  cases b4
  have hG:G' T=none:=s2.free hT
  exact ⟨upd G' T (.tup [v,u]),.put s2 hT,.tuple (.of aL) (.cons ((rv.mono s1).mono (bJ hG)) (.cons ((ru.mono s1).mono (bJ hG)) .nil))⟩
 ·rw [qD,List.length_zip] at hl
  have e1:=r1.length
  have e2:=r2.length
  omega
section
variable {X:Cx} {a b:Expr} {elts:List Expr} {k0:Nat} {p0 pos p:Pos} {fa fb:EF}
theorem b5R (hm:X.mg "zip" = none) (ha:DE X a fa) (hb:DE X b fb) (hv:bootBuiltins "zip" = some (.type "zip"):=by decide +kernel) (hs:starEach [a,b] X.env=(false,eval a X.env)::starEach [b] X.env:=by rfl) (hs2:starEach [b] X.env=(false,eval b X.env)::starEach [] X.env:=by rfl)
  (hpl:(backTo pos (starEach [b] X.env)).any (·.1)=false:=by rfl) (hg:Gl X "zip":=by rfl):DI X (.Tuple elts k0 p0) (.Call (.Name "zip" p) [a,b] [] pos) (a8H fa fb):=a6R fun ρ r e=>by
 unfold a8H at e
 split at e
 ·rename_i as bs e1 e3
  refine ⟨_,(qA e).symm,⟨?_⟩⟩
  intro pins s σ H R I ⟨H0,G₀,G,S,q⟩
  have pa:=fE (ha.pd e1) (fE (hb.pd e3) mE hs2) hs
  refine wpAny_Call_Name_kw (iZ I hg hm hv ?_ (by decide) (by decide))
  refine jS (thn (pa.run H0 G₀ G pos pins s σ H (fun vs H'=>∃ G',Grow G H G' H'∧RepAll X.K G' vs [.list as,.list bs]) I S fun vs G' H' g r=>⟨G',g,r⟩) fun us s1 ⟨vs,H1,I1,r1,G1,g1,w1⟩=>?_) hs hpl
  cases w1 with
  | cons wa wn=>cases wn with
   | cons wb wn=>
    cases wn
    cases wa with
    | list hq ra=>cases wb with
     | list hq2 rb=>
      obtain ⟨u,v,rfl,ru,rv⟩:=vals2 r1
      cases ru;cases rv
      obtain ⟨its,r1',p1,_⟩:=I1.list (g1.sub.seq hq)
      obtain ⟨its2,r2',p2,_⟩:=I1.list (g1.sub.seq hq2)
      refine call_zip_2 p1.isList p2.isList fun h' z1 z2 z3 z4 z5 z6 hk=>?_
      refine wpAny_pyIter_zip z1 ?_
      obtain ⟨o1,g1',_⟩:=p1.isList
      obtain ⟨o2,g2',_⟩:=p2.isList
      refine ⟨s1.heap.objs.size+4,[s1.heap.objs.size+4,s1.heap.objs.size+2,s1.heap.objs.size+3,s1.heap.objs.size,s1.heap.objs.size+1],_,_,H1,rfl,I1.kept (h':=h') (t':=s1.toks) (fun b o e=>hk b o e),a8R (zipApart_new (qH g1') (qH g2')),⟨z1,z2,⟨_,_,z3⟩,z4,z5⟩,fun c hc=>?_,q _ G1 H1 g1 (a8N hq ra hq2 rb)⟩
      have ge:s1.heap.objs.size≤c:=by
       simp only [qF,qe,or_false] at hc
       rcases hc with h | h | h | h | h<;>rw [h]<;>first | exact vB _ _ | exact qN _
      exact I1.fpOk ge (I1.hok.fresh ge)
 ·cases e
end
end L2.L3
namespace L2.SX
open PySem
def oJ (xs:Array Nat):Prop:=xs.toList.Pairwise (·<·)
theorem oJ.lt {xs:Array Nat} (h:oJ xs) {i j:Nat} (hij:i<j) (hj:j<xs.size):xs[i]<xs[j]:=by
 have:=List.pairwise_iff_getElem.mp h i j (by simpa using vt hij hj) (by simpa using hj) hij
 simpa using this
theorem b0F {xs:Array Nat} {j:Nat} (h:oJ xs):∀ (fuel lo hi:Nat),hi - lo≤fuel→lo≤hi→hi≤xs.size→(∀ i (hi':i<xs.size),i<lo→xs[i]<j)→(∀ i (hi':i<xs.size),hi≤i→j≤xs[i]) →
  zP xs j fuel lo hi≤xs.size∧(∀ i (hi':i<xs.size),i<zP xs j fuel lo hi→xs[i]<j)∧∀ i (hi':i<xs.size),zP xs j fuel lo hi≤i→j≤xs[i]
 | 0,lo,hi,hf,hl,hs,h1,h2=>by
  have:lo=hi:=by omega
  subst this
  unfold zP
  exact ⟨hs,h1,h2⟩
 | fuel+1,lo,hi,hf,hl,hs,h1,h2=>by
  unfold zP
  by_cases hlt:lo<hi
  ·rw [if_pos hlt]
   dsimp only
   have hm:(lo+hi) / 2<xs.size:=by omega
   have hg:xs.getD ((lo+hi) / 2) j=xs[(lo+hi) / 2]:=by simp [zF,hm]
   rw [hg]
   by_cases hc:xs[(lo+hi) / 2]<j
   ·rw [if_pos hc]
    refine b0F h fuel _ hi (by omega) (by omega) hs (fun i hi' hlt'=>?_) h2
    by_cases he:i=(lo+hi) / 2
    ·subst he;exact hc
    ·exact vt (h.lt (by omega) hm) hc
   ·rw [if_neg hc]
    refine b0F h fuel lo _ (by omega) (by omega) (by omega) h1 (fun i hi' hge=>?_)
    by_cases he:i=(lo+hi) / 2
    ·subst he;omega
    ·have:=h.lt (i:=(lo+hi) / 2) (j:=i) (by omega) hi'
     omega
  ·rw [if_neg hlt]
   have:lo=hi:=by omega
   subst this
   exact ⟨hs,h1,h2⟩
theorem a0j {xs:Array Nat} (h:oJ xs) (j:Nat):qZ xs j≤xs.size∧(∀ i (hi':i<xs.size),i<qZ xs j→xs[i]<j)∧∀ i (hi':i<xs.size),qZ xs j≤i→j≤xs[i]:=
 b0F h _ _ _ (by omega) (jn _) (qN _) (fun _ _ z=>absurd z (by omega)) (fun i hi' z=>absurd z (by omega))
theorem a5E {xs:Array Nat} (h:oJ xs) {i:Nat} (hi:i<xs.size):qZ xs (xs[i]+1)=i+1:=by
 obtain ⟨b1,b2,b3⟩:=a0j h (xs[i]+1)
 have c1:¬qZ xs (xs[i]+1)≤i:=fun z=>by have:=b3 i hi z;omega
 have c2:¬i+1<qZ xs (xs[i]+1):=fun z=>by
  have lt:i+1<xs.size:=by omega
  have:=b2 (i+1) lt z
  have:=h.lt (i:=i) (j:=i+1) (by omega) lt
  omega
 omega
theorem a5D (xs:Array Nat) (h:oJ xs):qZ xs 0=0:=by
 obtain ⟨b1,b2,b3⟩:=a0j h 0
 cases e:qZ xs 0 with
 | zero=>rfl
 | succ n=>
  have:=b2 0 (by omega) (by omega)
  omega
theorem a9i {xs:Array Nat} (h:oJ xs) {j:Nat} (hn:xs[qZ xs j]?≠some j):oJ (SetTable.insertAt xs (qZ xs j) j):=by
 obtain ⟨b1,b2,b3⟩:=a0j h j
 unfold oJ
 rw [SetTable.toList_insertAt,List.pairwise_append]
 have ne:∀ i (hi':i<xs.size),qZ xs j≤i→j<xs[i]:=fun i hi' hge=>by
  have a:=b3 i hi' hge
  by_cases e:xs[i]=j
  ·exfalso
   by_cases e2:i=qZ xs j
   ·exact hn (by rw [←e2];simp [hi',e])
   ·have lt:qZ xs j<i:=by omega
    have:=h.lt (i:=qZ xs j) (j:=i) lt hi'
    have:=b3 (qZ xs j) (by omega) (qN _)
    omega
  ·omega
 refine ⟨h.sublist (zr _ _),?_,fun a ha b hb=>?_⟩
 ·rw [qc]
  refine ⟨fun a ha=>?_,h.sublist (List.drop_sublist _ _)⟩
  obtain ⟨k,hk,e⟩:=zN.mp ha
  rw [List.getElem_drop] at e
  subst e
  have:qZ xs j+k<xs.size:=by simpa using (by rw [vC,qO] at hk;omega:qZ xs j+k<xs.size)
  have:=ne (qZ xs j+k) this (by omega)
  simpa using this
 ·obtain ⟨k,hk,e⟩:=zN.mp ha
  rw [List.getElem_take] at e
  subst e
  rw [ji,qO] at hk
  have k1:k<xs.size:=by omega
  have ak:=b2 k k1 (by omega)
  have ak':xs.toList[k]'(by simpa using k1)<j:=by simpa using ak
  rcases qF.mp hb with rfl | hb
  ·exact ak'
  ·obtain ⟨k',hk',e'⟩:=zN.mp hb
   rw [List.getElem_drop] at e'
   subst e'
   have k2:qZ xs j+k'<xs.size:=by rw [vC,qO] at hk';omega
   have:=ne (qZ xs j+k') k2 (by omega)
   have:j<xs.toList[qZ xs j+k']'(by simpa using k2):=by simpa using this
   omega
structure TOk (t:SetTable) (led:Bool):Prop where
 led:t.led=led
 rise:t.plain=true→oJ t.place
theorem TOk.fresh (led:Bool):TOk (SetTable.fresh 0 0 led) led:=⟨rfl,fun _=>by simp [SetTable.fresh,oJ]⟩
theorem TOk.standIn {t:SetTable} {led:Bool} (h:TOk t led) (n:Nat):TOk (t.standIn n) led:=⟨h.led,fun z=>by cases z⟩
theorem TOk.off {t:SetTable} {led:Bool} (h:TOk t led):TOk { t with plain:=false } led:=⟨h.led,fun z=>by cases z⟩
theorem TOk.orStandIn {t:SetTable} {led:Bool} (h:TOk t led) (n:Nat):TOk (t.orStandIn n) led:=by
 unfold SetTable.orStandIn
 split
 ·exact h
 ·exact h.standIn n
theorem a7s {t:SetTable} {j:Nat} (h:t.slot j=.empty∨t.slot j=.dummy):t.place[qZ t.place j]?≠some j:=by
 intro z
 have:t.slot j=.live (qZ t.place j):=by
  unfold SetTable.slot
  dsimp only
  rw [if_pos (by rw [z];simp)]
 rcases h with h | h<;>(rw [this] at h;cases h)
theorem pD {t:SetTable} {f:Nat→Int} {h:Int}:∀ (fuel:Nat) (p:SetTable.Probe) (j:Nat) (d:Option Nat),(∀ k,p.dummy=some k→t.slot k=.dummy)→SetTable.probe.go t f h fuel p=some (.empty j d) →
  (t.slot j=.empty)∧∀ k,d=some k→t.slot k=.dummy
 | 0,p,j,d,_,e=>by unfold SetTable.probe.go at e;cases e
 | fuel+1,p,j,d,hd,e=>by
  unfold SetTable.probe.go at e
  split at e
  ·rename_i es
   cases (qA e)
   exact ⟨es,hd⟩
  ·rename_i es
   refine pD fuel _ j d (fun k hk=>?_) e
   have adv:∀ q:SetTable.Probe,(t.advance q).dummy=q.dummy:=fun q=>by unfold SetTable.advance;split<;>rfl
   rw [adv] at hk
   cases hk
   exact es
  ·split at e
   ·cases e
   ·refine pD fuel _ j d (fun k hk=>?_) e
    have adv:∀ q:SetTable.Probe,(t.advance q).dummy=q.dummy:=fun q=>by unfold SetTable.advance;split<;>rfl
    rw [adv] at hk
    exact hd k hk
theorem TOk.layNew {t:SetTable} {led:Bool} (h:TOk t led) (es:Array (Int×Value)) (hs:Int) (x:Value):TOk (layNew t es hs x).2.1 led:=by
 unfold PySem.layNew
 split
 ·rename_i slot wd e
  dsimp only
  have hput:TOk (t.put slot).1 led:=by
   refine ⟨h.led,fun hp=>?_⟩
   have hr:oJ t.place:=h.rise hp
   refine a9i hr (a7s ?_)
   unfold SetTable.freeSlot SetTable.probe at e
   split at e
   ·rename_i j d em
    obtain ⟨a,b⟩:=pD _ _ j d (fun k hk=>by simp [SetTable.probeStart] at hk) em
    cases (qA e)
    cases d with
    | none=>exact .inl a
    | some k=>exact .inr (b k rfl)
   ·cases e
  exact hput.orStandIn _
 ·exact h.standIn _
theorem TOk.relayAll {t:SetTable} {led:Bool} (h:TOk t led) (es:Array (Int×Value)) (wanted:Nat):TOk (relayAll t es wanted).2.1 led:=by
 unfold PySem.relayAll
 split
 ·rename_i t' order e
  dsimp only
  split
  ·unfold SetTable.relaid SetTable.laid at e
   cases ho:SetTable.layClean (SetTable.sizeAbove wanted - 1) (es.map (·.1)) with
   | none=>rw [ho] at e;cases e
   | some owner=>
    rw [ho] at e
    have e:=qA e
    have e1:=(congrArg Prod.fst e).symm
    dsimp only at e1
    subst e1
    refine ⟨h.led,fun _=>?_⟩
    show List.Pairwise (·<·) _
    simp only [vV]
    rw [jl,List.pairwise_filterMap]
    refine List.pairwise_lt_range.imp ?_
    intro a b hab x hx y hy
    obtain ⟨u,_,rfl⟩:=qK.mp hx
    obtain ⟨v,_,rfl⟩:=qK.mp hy
    exact hab
  ·exact h.standIn _
 ·exact h.standIn _
end L2.SX
namespace L2.SX
open PySem PyProof.Rows
section
variable {prog:Program} {w:World} {K:Type} [DecidableEq K]
structure Good (knd:KeyKind prog w K) (h:Heap) (a:Addr) (ks:List K) (led:Bool):Prop where
 ex:∃ o es ep t,h.get? a=some o∧o.ExactSet∧o.data=.set es ep t∧ElemsOf knd es.toList∧(∀ k,k∈ks↔∃ e∈es.toList,knd.is k e.2=true)∧es.size=ks.length∧t.fits es.size=true∧TOk t led
 nd:ks.Nodup
 few:ks.length<scanBound
def addK (ks:List K) (k:K):List K:=if k∈ks then ks else ks++[k]
variable {knd:KeyKind prog w K} {A:Around} {E:Value→Shared→Prop} {s:Shared} {a:Addr} {ks:List K} {led:Bool}
theorem Good.keeps {h h':Heap} (g:Good knd h a ks led) (k:∀ o,h.get? a=some o→h'.get? a=some o):Good knd h' a ks led:=by
 obtain ⟨o,es,ep,t,ho,r⟩:=g.ex
 exact ⟨⟨o,es,ep,t,k o ho,r⟩,g.nd,g.few⟩
theorem stored {h:Heap} {o:Obj} {es es':Array (Int×Value)} {ep:Nat} {t t':SetTable} (ho:h.get? a=some o) (hd:o.data=.set es ep t):(h.update a (Obj.putSet es' t')).get? a=some { o with data:=.set es' (ep+1) t' }:=by
 have e:=putSet_of es' t' hd
 have q:=jj (Obj.putSet es' t') ho (by rw [e];rfl)
 rw [e] at q
 exact q
theorem cM {k:K} {x:Value} {Q:Bool→Shared→Prop} (hkey:knd.is k x=true) (hsc:x.scannable=true) (g:Good knd s.heap a ks led) (hroom:ks.length+1<scanBound)
  (h:∀ h' b,km a s.heap h'→Good knd h' a (addK ks k) led→Q b { s with heap:=h' }):wpAny (model prog w) A (setAddHashed a x (knd.hash k)) Q E s:=by
 obtain ⟨o,es,ep,t,ho,hex,hd,hel,hmem,hn,hf,hT⟩:=g.ex
 have hb:es.size<scanBound:=by rw [hn];exact g.few
 unfold setAddHashed setAddHashedIn
 refine wpAny_holding (wpAny_bind (wpAny_setState_of ho hd hf ?_))
 dsimp only
 rw [byScan_of hsc hb hel]
 simp only [↓reduceIte]
 unfold setAddByScan
 refine wpAny_bind (wpAny_bind (wpAny_rule (wpAny_bind (wpAny_setScan_of hkey ho hd hf hel ?_))))
 cases hr:List.findIdx? (fun e=>knd.is k e.2) es.toList with
 | some j=>
  dsimp only
  obtain ⟨hj,hpj,_⟩:=List.findIdx?_eq_some_iff_getElem.mp hr
  have hk:k∈ks:=(hmem k).mpr ⟨es.toList[j],jM hj,hpj⟩
  refine wpAny_pure (wpAny_pure ?_)
  have q:=h s.heap false (Heap.SameBut.refl a s.heap) (by unfold addK;rw [if_pos hk];exact g)
  exact q
 | none=>
  dsimp only
  have hk:k∉ks:=fun z=>by
   obtain ⟨e,he,hp⟩:=(hmem k).mp z
   have:=List.findIdx?_eq_none_iff.mp hr e he
   rw [hp] at this
   cases this
  have gone:∀ (b:Bool) {s₁:Shared} {Q':Unit→Shared→Prop},Q' () s₁→wpAny (model prog w) A (match b with | true=>rule "set.scan.the-table-gave-way" | false=>pure ()) Q' E s₁:=by
   intro b s₁ Q' q
   cases b
   ·exact wpAny_pure q
   ·exact wpAny_rule q
  have hperm:=layNew_perm t es (knd.hash k) x
  have hfits:=layNew_fits t es (knd.hash k) x
  have hTL:=hT.layNew es (knd.hash k) x
  generalize layNew t es (knd.hash k) x=L at hperm hfits hTL ⊢
  obtain ⟨es1,t1,wd,gave⟩:=L
  dsimp only at hperm hfits hTL ⊢
  rw [Array.toList_push] at hperm
  have hel1:ElemsOf knd es1.toList:=(hel.push hkey hsc).perm hperm
  have hmem1:∀ k',k'∈addK ks k↔∃ e∈es1.toList,knd.is k' e.2=true:=by
   intro k'
   unfold addK
   rw [if_neg hk,jE,qf,hmem k']
   constructor
   ·rintro (⟨e,he,hp⟩ | rfl)
    ·exact ⟨e,hperm.mem_iff.mpr (jw _ he),hp⟩
    ·exact ⟨_,hperm.mem_iff.mpr (qm _ (qf.mpr rfl)),hkey⟩
   ·rintro ⟨e,he,hp⟩
    rcases jE.mp (hperm.mem_iff.mp he) with he | he
    ·exact .inl ⟨e,he,hp⟩
    ·rw [qf] at he
     subst he
     exact .inr (knd.inj x k' k hp hkey)
  have hlen:(addK ks k).length=ks.length+1:=by unfold addK;rw [if_neg hk];simp
  have hsz1:es1.size=(addK ks k).length:=by rw [hlen,←hn,←qO,hperm.length_eq];simp
  have hb1:es1.size<scanBound:=by rw [hsz1,hlen];exact hroom
  have hnd:(addK ks k).Nodup:=by
   unfold addK
   rw [if_neg hk,kt]
   exact ⟨g.nd,by simp,fun a ha b hb=>by rw [qf] at hb;subst hb;exact fun z=>hk (z▸ha)⟩
  have tail:∀ {gv:Bool→Sem Unit} (hgv:∀ (b:Bool) (s₁:Shared) (Q':Unit→Shared→Prop),Q' () s₁→wpAny (model prog w) A (gv b) Q' E s₁) {t2:SetTable},t2.fits es1.size=true→TOk t2 led→∀ {R:Option Bool→Shared→Prop},(∀ h',km a s.heap h'→Good knd h' a (addK ks k) led→R (some true) { s with heap:=h' }) →
    wpAny (model prog w) A (do
     storeSet a es1 t2
     if (!wd&&t2.tooFull)=true then do
       gv (relayAll t2 es1 (kZ es1.size)).2.2
       storeSet a (relayAll t2 es1 (kZ es1.size)).1 (relayAll t2 es1 (kZ es1.size)).2.1
       pure (some true)
      else pure (some true)) R E s:=by
   intro gv hgv t2 hf2 hT2 R hR
   refine wpAny_bind (wpAny_storeSet_of ho hd ?_ (fits_of_scanBound hb1))
   have ho1:=stored (es':=es1) (t':=t2) ho hd
   have sb1:=zu s.heap a (Obj.putSet es1 t2)
   split
   ·have p2:=relayAll_perm t2 es1 (kZ es1.size)
    have f2:=relayAll_fits t2 es1 (kZ es1.size)
    have hT3:=hT2.relayAll es1 (kZ es1.size)
    generalize relayAll t2 es1 (kZ es1.size)=W at p2 f2 hT3 ⊢
    obtain ⟨es2,t3,gv2⟩:=W
    dsimp only at p2 f2 hT3 ⊢
    have sz2:es2.size=es1.size:=by rw [←qO,p2.length_eq,qO]
    refine wpAny_bind (hgv _ _ _ ?_)
    refine wpAny_bind (wpAny_storeSet_of ho1 rfl ?_ (fits_of_scanBound (by rw [sz2];exact hb1)))
    have ho2:=stored (a:=a) (es':=es2) (t':=t3) ho1 rfl
    refine wpAny_pure (hR _ (sb1.trans (zu _ a _)) ⟨⟨_,es2,_,t3,ho2,hex,rfl,hel1.perm p2,fun k'=>(hmem1 k').trans ⟨fun ⟨e,he,q⟩=>⟨e,p2.mem_iff.mpr he,q⟩,fun ⟨e,he,q⟩=>⟨e,p2.mem_iff.mp he,q⟩⟩,by rw [sz2];exact hsz1,f2,hT3⟩,hnd,by rw [hlen];exact hroom⟩)
   ·exact wpAny_pure (hR _ sb1 ⟨⟨_,es1,_,t2,ho1,hex,rfl,hel1,hmem1,hsz1,hf2,hT2⟩,hnd,by rw [hlen];exact hroom⟩)
  refine wpAny_bind (gone _ ?_)
  split
  ·refine wpAny_bind ?_
   rw [hashByValue_scannable 8 hsc]
   refine wpAny_pure ?_
   split
   ·refine tail (fun b s₁ Q' q=>by cases b<;>first | exact wpAny_pure q | exact wpAny_rule q) hfits hTL fun h' sb gg=>?_
    dsimp only
    exact wpAny_pure (h h' true sb gg)
   ·refine tail (fun b s₁ Q' q=>by cases b<;>first | exact wpAny_pure q | exact wpAny_rule q) (SetTable.fits_plain_off hfits) hTL.off fun h' sb gg=>?_
    dsimp only
    exact wpAny_pure (h h' true sb gg)
  ·refine wpAny_bind (wpAny_pure ?_)
   simp only [↓reduceIte]
   refine tail (fun b s₁ Q' q=>by cases b<;>first | exact wpAny_pure q | exact wpAny_rule q) hfits hTL fun h' sb gg=>?_
   dsimp only
   exact wpAny_pure (h h' true sb gg)
end
section
variable {prog:Program} {w:World} {K:Type} [DecidableEq K] {knd:KeyKind prog w K} {A:Around} {R:Result→Shared→Prop} {I:Addr} {fp wr:List Addr} {G:Array GenState→Array GenState→Prop} {n:Nat} {P:Nat→Value→Prop} {St:Nat→Shared→Prop} {led:Bool}
def metK (val:Nat→K) (i:Nat):List K:=((qd i).map val).foldl addK []
theorem a1g (val:Nat→K) (i:Nat):metK val (i+1)=addK (metK val i) (val i):=by unfold metK;rw [List.range_succ,qj,vo];rfl
theorem metK_len (val:Nat→K):∀ i,(metK val i).length≤i
 | 0=>by simp [metK]
 | i+1=>by
  have:=metK_len val i
  rw [a1g];unfold addK;split
  ·omega
  ·simp;omega
theorem b2E (W:WalksS prog w A.in1 I fp wr G n P St) (S:Addr) (hSf:S∉fp) (val:Nat→K) (hval:∀ i v,P i v→knd.is (val i) v=true∧v.scannable=true)
  (hpy:∀ i v (A':Around) (E':Value→Shared→Prop) (s':Shared) (Q':Int→Shared→Prop),P i v→Q' (knd.hash (val i)) { s' with toks:=s'.toks+1 }→wpAny (model prog w) A' (pyHash v) Q' E' s') (hb:n+1<scanBound) :
  ∀ (m i:Nat) (s:Shared),n - i=m→i≤n→St i s→Good knd s.heap S (metK val i) led→(∀ s',Moved (S::wr) G s s'→Good knd s'.heap S (metK val n) led→R (.ok (.ret .none)) s') →
   codeAny (model prog w) A (.builtin "set.update.loop" ⟨[.ref S,.ref I],[]⟩) R s:=by
 have nw:S∉wr:=fun z=>hSf (W.sub _ z)
 have up:∀ b∈wr,b∈S::wr:=fun b hb=>qE _ hb
 intro m
 induction m with
 | zero=>
  intro i s hm hi st g hR
  obtain rfl:i=n:=by omega
  refine codeAny_builtin F.entry_set_update_loop ?_
  rw [jO vv _]
  show wpAny _ A.in1 (pyNext (.ref I)>>=_) _ _ s
  refine wpAny_bind (W.done s _ _ st fun s' mv=>?_)
  exact wpAny_pure (hR s' (mv.mono up) (g.keeps fun o e=>mv.heap S o nw e))
 | succ m ih=>
  intro i s hm hi st g hR
  have lt:i<n:=by omega
  refine codeAny_builtin F.entry_set_update_loop ?_
  rw [jO vv _]
  show wpAny _ A.in1 (pyNext (.ref I)>>=_) _ _ s
  refine wpAny_bind (W.item i s _ _ lt st fun v s' pv st' mv=>?_)
  have g':=g.keeps (h':=s'.heap) fun o e=>mv.heap S o nw e
  obtain ⟨hk,hsc⟩:=hval i v pv
  show wpAny _ A.in1 (holding [v] (setAdd S v)>>=_) _ _ s'
  refine wpAny_bind (wpAny_holding ?_)
  unfold setAdd
  refine wpAny_holding (wpAny_bind (hpy i v _ _ _ _ pv ?_))
  have room:(metK val i).length+1<scanBound:=by have:=metK_len val i;omega
  refine cM (knd:=knd) (s:={ s' with toks:=s'.toks+1 }) hk hsc g' room fun h' b sb g2=>?_
  rw [←a1g] at g2
  refine wpAny_pure ⟨plainId_quiet vv _,ih (i+1) _ (by omega) lt (W.frame _ s' _ _ st' (kB _) fun c hc o e=>?_) g2 fun s'' mv'' g''=>?_⟩
  ·rw [sb.2 c (fun z:c=S=>hSf (z▸hc))]
   exact e
  ·refine hR s'' (Moved.trans W.gtrans ((mv.mono up).then_heap (kB _) fun c o hc e=>?_) mv'') g''
   rw [sb.2 c (fun z:c=S=>hc (by rw [z];exact qT))]
   exact e
end
end L2.SX
namespace L2.SX
open PySem PyProof.Rows
def ledOf (w:World):Bool:=!w.params.followText "set-order"
abbrev fY (w:World):Obj:={ cls:=.type "set", dict:=none,data:=.set #[] 0 (.fresh 0 0 (ledOf w)) }
section
variable {prog:Program} {w:World} {A:Around} {E:Value→Shared→Prop} {s:Shared} {K:Type} [DecidableEq K] {knd:KeyKind prog w K}
theorem b0D (h:Heap):Good knd (h.push (fY w)) h.objs.size [] (ledOf w):=
 ⟨⟨_,#[],0,_,qI _ rfl,⟨rfl,rfl,rfl⟩,rfl,fun e he=>by simp at he,fun k=>by simp,rfl,rfl,.fresh _⟩,List.nodup_nil,by show 0<scanBound;decide⟩
theorem new_one (v:Value) {Q1:Value→Shared→Prop} (h:Q1 (.ref s.heap.objs.size) { s with heap:=s.heap.push (fY w) }):codeAny (model prog w) A (.call (.builtin "set.__new__") ⟨[.type "set", v],[]⟩) (wants Q1 E) s:=by
 refine codeAny_of_tree ?_
 show wpAny _ A.in1 (checkBuiltinCall "set.__new__" ⟨[.type "set", v],[]⟩>>=fun _=>again (.builtin "set.__new__" ⟨[.type "set", v],[]⟩)) _ _ s
 refine wpAny_bind (wpAny_of_eq (F.newCall_set_1 v) (wpAny_pure ⟨plainId_quiet F.plain_set_new _,codeAny_builtin F.entry_set_new ?_⟩))
 rw [jO F.plain_set_new _]
 unfold Builtin.«set.__new__» Builtin.Frozenset.newClass
 have sub:=sub_set_self
 obtain ⟨hp,gs,dr,tk,os⟩:=s
 dsimp only
 wp_walk
 refine wpAny_askSetting (wpAny_pure ?_)
 dsimp only [newObj]
 exact wpAny_bind (wpAny_alloc (wpAny_pure (wpAny_pure h)))
theorem set_of {l:Addr} {items:Array Value} {val:Nat→K} {Q:Value→Shared→Prop} (hh:A.handled=none) (hl:s.heap.IsList l items) (hval:∀ i v,items[i]?=some v→knd.is (val i) v=true∧v.scannable=true)
  (hpy:∀ i v (A':Around) (E':Value→Shared→Prop) (s':Shared) (Q':Int→Shared→Prop),items[i]?=some v→Q' (knd.hash (val i)) { s' with toks:=s'.toks+1 }→wpAny (model prog w) A' (pyHash v) Q' E' s') (hb:items.size+1<scanBound)
  (h:∀ (h':Heap) (tk:Nat),Good knd h' s.heap.objs.size (metK val items.size) (ledOf w)→(∀ b o,b<s.heap.objs.size→s.heap.get? b=some o→h'.get? b=some o)→Q (.ref s.heap.objs.size) { s with heap:=h',toks:=tk }) :
  wpAny (model prog w) A (call (.type "set") [.ref l]) Q E s:=by
 obtain ⟨c,tl,hmro⟩:=kn.mro
 have hmade:=kn.made
 have hsub:=kn.sub
 refine wpAny_call (codeAny_of_tree ?_)
 show wpAny _ _ (callAny (.type "set") ⟨[.ref l],[]⟩) _ _ _
 refine wpAny_pure ⟨Code.quiet_builtin _ (by decide +kernel),codeAny_builtin F.entry_type_call ?_⟩
 rw [Around.under_plain (weight_type_call_type "set" [.ref l] []) rfl]
 have n1:=kn.notType
 have n2:=kn.canCreate
 have n3:=F.typeCall_set_1 (.ref l)
 repeat (any_goals (first | assumption | wp_step))
 refine codeAny_mono (new_one (.ref l) (E:=E) (Q1:=fun ob s1=>ob=.ref s.heap.objs.size∧s1={ s with heap:=s.heap.push (fY w) }) ⟨rfl,rfl⟩) fun r s1 hr=>?_
 cases r with
 | error e=>exact hr
 | ok fl=>
  cases fl with
  | ret ob=>
   obtain ⟨rfl,rfl⟩:=hr
   have hS:(s.heap.push (fY w)).get? s.heap.objs.size=some (fY w):=qI _ rfl
   have hT:vR { s with heap:=s.heap.push (fY w) } (.ref s.heap.objs.size) "set" := ⟨_,hS,rfl⟩
   have k1:=kn.init.lookup
   have k2:=kn.init.bind (.ref s.heap.objs.size)
   repeat (any_goals (first | assumption | wp_step))
   refine codeAny_mono (codeAny_call_builtin (R:=wants (fun r s2=>r=.none∧∃ h' tk,s2={ s with heap:=h',toks:=tk }∧Good knd h' s.heap.objs.size (metK val items.size) (ledOf w)∧∀ b o,b<s.heap.objs.size→s.heap.get? b=some o→h'.get? b=some o) E)
    kn.init.plain F.entry_set_init (check_set_init_1 hT ?_)) fun r2 s2 hr2=>?_
   ·obtain ⟨ol,g0,c0,nl,d0⟩:=hl
    obtain ⟨ocl,odc,odt,osl⟩:=ol
    dsimp only at c0 d0
    subst c0 d0
    have g1:(s.heap.push (fY w)).get? l=some { cls:=.type "list", dict:=odc,data:=.seq items nl,slots:=osl }:=qC _ g0
    have s1:=F.sub_list_set
    have s2:=F.sub_list_frozenset
    have ne:(zO "list" == zO "dict")=false:=by decide
    have L1:(s.heap.push (fY w)).IsList l items:=⟨_,g1,rfl,nl,rfl⟩
    unfold Builtin.«set.__init__» noKeywords Builtin.Frozenset.updateFrom
    generalize hI:pyIter=PI
    wp_walk
    subst hI
    refine wpAny_pyIter_list L1 (wpAny_bind (wpAny_runValue ?_))
    have lt:l<s.heap.objs.size:=qH g0
    have h3:A.in1.in1.in1.handled=none:=by simp [hh]
    have nI:l≠(s.heap.push (fY w)).objs.size:=by
     rw [qz];exact qW (jZ lt)
    have nf:s.heap.objs.size∉[(s.heap.push (fY w)).objs.size,l]:=by
     rw [qz]
     intro z
     rcases qF.mp z with z | z
     ·exact absurd z (qW (wA _))
     ·rw [qf] at z
      exact absurd z (jK lt)
    refine b2E (knd:=knd) (led:=ledOf w) ((Walks.list h3 _ l nI items).toS) s.heap.objs.size nf val hval hpy hb (items.size - 0) 0 _ (by omega) (jn _) ⟨⟨_,qI _ rfl,rfl,rfl⟩,L1.push _⟩ ?g0 ?gR
    case g0=>exact (b0D (knd:=knd) s.heap).keeps fun o e=>qC _ e
    case gR=>
     intro s' mv g'
     obtain ⟨h',gs',dr',tk',os'⟩:=s'
     obtain rfl:gs'=s.gens:=mv.gens
     obtain rfl:dr'=s.drawn:=mv.drawn
     obtain rfl:os'=s.os:=mv.os
     show wpAny _ _ _ _ _ _
     refine wpAny_pure ?_
     show wpAny _ _ (ret jf) _ _ _
     refine wpAny_pure ⟨rfl,h',tk',rfl,g',fun b o hb' e=>?_⟩
     refine mv.heap b o (fun z=>?_) (qC _ (qC _ e))
     rcases qF.mp z with z | z
     ·exact absurd z (qW hb')
     ·rw [qf,qz] at z
      exact absurd z (qW (jZ hb'))
   ·cases r2 with
    | error e=>exact hr2
    | ok fl2=>
     cases fl2 with
     | ret r=>
      obtain ⟨rfl,h',tk,rfl,g',kp⟩:=hr2
      repeat (any_goals (first | assumption | wp_step))
      exact h _ _ g' kp
     | _=>exact hr2.elim
  | _=>exact hr.elim
end
end L2.SX
namespace L2.SX
open PySem PyProof.Rows
theorem slot_next:Slot "set_iterator" "__next__" "set_iterator.__next__" :=
 .of (owner := "set_iterator") (n := "__next__") (by rw [typeLookup_type,builtinLookup_eq_fast];kernel_rfl) (by decide +kernel) (by decide +kernel) (by decide +kernel) (by first | exact .inl (by decide +kernel) | exact .inr (by decide +kernel)) (by rw [isSubtype_type];kernel_rfl)
theorem entry_next:entryFor table "set_iterator.__next__" = some Builtin.«set_iterator.__next__»:=entryFor_of_fast (by kernel_rfl)
theorem args_next (v:Value):argsOk "set_iterator.__next__" ⟨[v],[]⟩:=by unfold argsOk;kernel_rfl
theorem a5o:entryFor table "set.__iter__" = some Builtin.«frozenset.__iter__»:=entryFor_alias (id' := "frozenset.__iter__") (by kernel_rfl) rfl (by decide +kernel) (by kernel_rfl)
abbrev itO (f0:Value) (i:Nat) (a:Addr) (n ep:Nat):Obj:={ cls:=.type "set_iterator", data:=.fields #[f0,rawInt i,.ref a,rawInt n,rawInt ep] }
structure SetAt (h:Heap) (a:Addr) (es:Array (Int×Value)) (ep:Nat) (t:SetTable):Prop where
 ex:∃ o,h.get? a=some o∧o.cls=.type "set" ∧ o.data=.set es ep t
 fits:t.fits es.size=true
section
variable {prog:Program} {w:World} {A:Around} {E:Value→Shared→Prop} {s:Shared} {a I:Addr} {es:Array (Int×Value)} {ep i:Nat} {t:SetTable}
theorem SetAt.keeps {h h':Heap} (g:SetAt h a es ep t) (k:∀ o,h.get? a=some o→h'.get? a=some o):SetAt h' a es ep t:=by
 obtain ⟨o,ho,r⟩:=g.ex
 exact ⟨⟨o,k o ho,r⟩,g.fits⟩
theorem SetAt.state {Q:(Array (Int×Value)×Nat×SetTable)→Shared→Prop} (g:SetAt s.heap a es ep t) (h:Q (es,ep,t) s):wpAny (model prog w) A (setState a) Q E s:=by
 obtain ⟨o,ho,_,hd⟩:=g.ex
 exact wpAny_setState_of ho hd g.fits h
theorem SetAt.entries {Q:Array (Int×Value)→Shared→Prop} (g:SetAt s.heap a es ep t) (h:Q es s):wpAny (model prog w) A (setEntries a) Q E s:=by
 unfold setEntries
 exact wpAny_bind (g.state (wpAny_pure h))
theorem next_item {f0:Nat} {x:Value} {nx:Nat} {Q:Option Value→Shared→Prop} (hI:s.heap.get? I=some (itO (rawInt f0) i a es.size ep)) (g:SetAt s.heap a es ep t)
  (hn:∀ (A':Around) (E':Value→Shared→Prop) (Q':Option (Value×Nat)→Shared→Prop),Q' (some (x,nx)) s→wpAny (model prog w) A' (setNext a f0 i ep) Q' E' s)
  (hQ:∀ h',h'.get? I=some (itO (rawInt nx) (i+1) a es.size ep)→km I s.heap h'→Q (some x) { s with heap:=h' }):wpAny (model prog w) A (pyNext (.ref I)) Q E s:=by
 have hT:s.TypeIs (.ref I) "set_iterator" := ⟨_,hI,rfl⟩
 unfold pyNext
 refine wpAny_bind (wpAny_attempt (wpAny_callSpecial?_slot (name:=kE "__next__") hT slot_next (wpAny_call_entry slot_next hT entry_next ?_ (args_next _))))
 unfold Builtin.«set_iterator.__next__»
 generalize hSE:setEntries=SE
 generalize hSN:setNext=SN
 generalize hSF:setField=SF
 wp_walk
 subst hSE hSN hSF
 refine g.entries ?_
 dsimp only
 rw [if_neg (by simp)]
 show wpAny _ A.in1 (setNext a (f0:Int).toNat (i:Int).toNat (ep:Int).toNat>>=_) _ _ s
 rw [jH,jH,jH]
 refine wpAny_bind (hn _ _ _ ?_)
 dsimp only
 refine wpAny_bind (wpAny_setField_rec hI (by simp) fun h1 g1 s1=>?_)
 refine wpAny_bind (wpAny_setField_rec g1 (by simp) fun h2 g2 s2=>?_)
 refine wpAny_pure ⟨x,rfl,wpAny_pure (hQ h2 ?_ (s1.trans s2))⟩
 rw [g2]
 simp [itO,rawInt]
theorem next_end {f0:Nat} {Q:Option Value→Shared→Prop} (hh:A.handled=none) (hI:s.heap.get? I=some (itO (rawInt f0) i a es.size ep)) (g:SetAt s.heap a es ep t)
  (hn:∀ (A':Around) (E':Value→Shared→Prop) (Q':Option (Value×Nat)→Shared→Prop),Q' none s→wpAny (model prog w) A' (setNext a f0 i ep) Q' E' s)
  (hQ:∀ h',Heap.ExtBut I s.heap h'→Q none { s with heap:=h' }):wpAny (model prog w) A (pyNext (.ref I)) Q E s:=by
 have hT:s.TypeIs (.ref I) "set_iterator" := ⟨_,hI,rfl⟩
 unfold pyNext
 refine wpAny_bind (wpAny_attempt (wpAny_callSpecial?_slot (name:=kE "__next__") hT slot_next (wpAny_call_entry slot_next hT entry_next ?_ (args_next _))))
 unfold Builtin.«set_iterator.__next__»
 generalize hSE:setEntries=SE
 generalize hSN:setNext=SN
 generalize hSF:setField=SF
 generalize hNE:newExc=NE
 generalize hRN:@raiseNew=RN
 wp_walk
 subst hSE hSN hSF hNE hRN
 refine g.entries ?_
 dsimp only
 rw [if_neg (by simp)]
 show wpAny _ A.in1 (setNext a (f0:Int).toNat (i:Int).toNat (ep:Int).toNat>>=_) _ _ s
 rw [jH,jH,jH]
 refine wpAny_bind (hn _ _ _ ?_)
 dsimp only
 refine wpAny_bind (wpAny_setField_rec hI (by simp) fun h1 g1 s1=>?_)
 refine wpAny_bind ?_
 dsimp only [newExc,newTuple]
 refine wpAny_bind (wpAny_newObj_type ?_ (by size_fits))
 refine wpAny_bind (m:=firstArgMember _ _) (wpAny_of_eq (a:=jf) (by first | rfl | (simp only [firstArgMember];rfl)) ?_)
 refine wpAny_newObj_type ?_ (by size_fits)
 dsimp only [raiseNew]
 refine wpAny_bind (wpAny_handled ?_)
 rw [show A.in1.handled=none from hh]
 refine wpAny_bind (wpAny_pure (wpAny_throw ?_))
 refine wpAny_bind (wpAny_isInstance (T := "StopIteration") (b:=true) ⟨_,qI _ rfl,rfl⟩ isSubtype_stop ?_)
 exact wpAny_pure (hQ _ ((s1.extBut.push _).push _))
end
end L2.SX
namespace L2.SX
open PySem PyProof.Rows
section
variable {prog:Program} {w:World} {A:Around} {E:Value→Shared→Prop} {s:Shared} {a I T:Addr} {es:Array (Int×Value)} {ep i:Nat} {t:SetTable}
abbrev plO (pl:List Nat):Obj:={ cls:=.type "tuple", data:=.seq (pl.map fun (k:Nat)=>rawInt k).toArray }
theorem a4L {pl:List Nat} {p:Nat} {hx:Int} {x:Value} {Q:Option Value→Shared→Prop} (hI:s.heap.get? I=some (itO (.ref T) i a es.size ep)) (hT:s.heap.get? T=some (plO pl)) (g:SetAt s.heap a es ep t) (hp:pl[i]?=some p) (he:es[p]?=some (hx,x))
  (hQ:∀ h',h'.get? I=some (itO (.ref T) (i+1) a es.size ep)→km I s.heap h'→Q (some x) { s with heap:=h' }):wpAny (model prog w) A (pyNext (.ref I)) Q E s:=by
 have hty:s.TypeIs (.ref I) "set_iterator" := ⟨_,hI,rfl⟩
 unfold pyNext
 refine wpAny_bind (wpAny_attempt (wpAny_callSpecial?_slot (name:=kE "__next__") hty slot_next (wpAny_call_entry slot_next hty entry_next ?_ (args_next _))))
 unfold Builtin.«set_iterator.__next__»
 generalize hSE:setEntries=SE
 generalize hSN:setNextDrawn=SN
 generalize hSF:setField=SF
 generalize hSI:seqItems?=SI
 wp_walk
 subst hSE hSN hSF hSI
 refine g.entries ?_
 dsimp only
 rw [if_neg (by simp)]
 show wpAny _ A.in1 (seqItems? (.ref T)>>=_) _ _ s
 refine wpAny_bind (wpAny_seqItems hT rfl ?_)
 dsimp only
 have e1:(pl.map fun (k:Nat)=>rawInt k).toArray[(i:Int).toNat]?=some (rawInt p):=by
  rw [jH,qt,qP,hp];rfl
 rw [e1]
 show wpAny _ A.in1 (setNextDrawn a (p:Int).toNat (ep:Int).toNat>>=_) _ _ s
 rw [jH,jH]
 unfold setNextDrawn
 refine wpAny_bind (wpAny_bind (g.state ?_))
 dsimp only
 rw [if_neg (by simp),he]
 refine wpAny_pure ?_
 refine wpAny_bind (wpAny_setField_rec hI (by simp) fun h1 g1 s1=>?_)
 refine wpAny_pure ⟨x,rfl,wpAny_pure (hQ h1 ?_ s1)⟩
 rw [g1]
 simp [itO,rawInt]
theorem a7D {pl:List Nat} {Q:Option Value→Shared→Prop} (hh:A.handled=none) (hI:s.heap.get? I=some (itO (.ref T) i a es.size ep)) (hT:s.heap.get? T=some (plO pl)) (g:SetAt s.heap a es ep t) (hp:pl[i]?=none)
  (hQ:∀ h',Heap.ExtBut I s.heap h'→Q none { s with heap:=h' }):wpAny (model prog w) A (pyNext (.ref I)) Q E s:=by
 have hty:s.TypeIs (.ref I) "set_iterator" := ⟨_,hI,rfl⟩
 unfold pyNext
 refine wpAny_bind (wpAny_attempt (wpAny_callSpecial?_slot (name:=kE "__next__") hty slot_next (wpAny_call_entry slot_next hty entry_next ?_ (args_next _))))
 unfold Builtin.«set_iterator.__next__»
 generalize hSE:setEntries=SE
 generalize hSF:setField=SF
 generalize hSI:seqItems?=SI
 generalize hNE:newExc=NE
 generalize hRN:@raiseNew=RN
 wp_walk
 subst hSE hSF hSI hNE hRN
 refine g.entries ?_
 dsimp only
 rw [if_neg (by simp)]
 show wpAny _ A.in1 (seqItems? (.ref T)>>=_) _ _ s
 refine wpAny_bind (wpAny_seqItems hT rfl ?_)
 dsimp only
 have e1:(pl.map fun (k:Nat)=>rawInt k).toArray[(i:Int).toNat]?=none:=by
  rw [jH,qt,qP,hp];rfl
 rw [e1]
 dsimp only
 refine wpAny_bind (wpAny_setField_rec hI (by simp) fun h0 g0 s0=>?_)
 refine wpAny_bind (wpAny_setField_rec g0 (by simp) fun h1 g1 s1=>?_)
 refine wpAny_bind ?_
 dsimp only [newExc,newTuple]
 refine wpAny_bind (wpAny_newObj_type ?_ (by size_fits))
 refine wpAny_bind (m:=firstArgMember _ _) (wpAny_of_eq (a:=jf) (by first | rfl | (simp only [firstArgMember];rfl)) ?_)
 refine wpAny_newObj_type ?_ (by size_fits)
 dsimp only [raiseNew]
 refine wpAny_bind (wpAny_handled ?_)
 rw [show A.in1.handled=none from hh]
 refine wpAny_bind (wpAny_pure (wpAny_throw ?_))
 refine wpAny_bind (wpAny_isInstance (T := "StopIteration") (b:=true) ⟨_,qI _ rfl,rfl⟩ isSubtype_stop ?_)
 exact wpAny_pure (hQ _ (((s0.trans s1).extBut.push _).push _))
theorem a6B {α:Type} (next:Nat→Nat):∀ (fuel k:Nat) (left:List α) (out:Array α),left.length=fuel→(pickOrder.go next fuel k left out).toList.Perm (out.toList++left)
 | 0,k,left,out,h=>by
  have:left=[]:=List.length_eq_zero_iff.mp h
  subst this
  simp [pickOrder.go]
 | fuel+1,k,left,out,h=>by
  unfold pickOrder.go
  have lt:next k % left.length<left.length:=Nat.mod_lt _ (by omega)
  rw [qM lt]
  dsimp only
  refine (a6B next fuel (k+1) _ _ (by rw [List.length_eraseIdx,if_pos lt];omega)).trans ?_
  rw [Array.toList_push,kz]
  refine List.Perm.append_left _ ?_
  show (left[next k % left.length]::left.eraseIdx (next k % left.length)).Perm left
  generalize next k % left.length=m at lt
  rw [vp]
  have e:left=left.take m++left[m]::left.drop (m+1):=by rw [List.getElem_cons_drop,List.take_append_drop]
  refine List.Perm.trans ?_ (List.Perm.of_eq e.symm)
  exact List.perm_middle.symm
theorem tL {α:Type} (next:Nat→Nat) (xs:Array α):(pickOrder next xs).toList.Perm xs.toList:=by
 unfold pickOrder
 have:=a6B next xs.size 0 xs.toList #[] (by simp)
 simpa using this
theorem b6n (hb:w.params.followText "set-order" = true) {Q:Array (Int×Value)→Shared→Prop} (g:SetAt s.heap a es ep t) (h:Q (pickOrder (w.params.setOrder a ep) es) s):wpAny (model prog w) A (setWalk a) Q E s:=by
 unfold setWalk
 refine wpAny_bind (g.state ?_)
 dsimp only
 unfold setsByText
 refine wpAny_bind (wpAny_bind (wpAny_askSetting (wpAny_pure ?_)))
 show wpAny _ _ (if w.params.followText "set-order" = true then _ else _) _ _ s
 rw [if_pos hb]
 exact wpAny_bind (wpAny_askSetting (wpAny_pure h))
theorem nextT (hb:w.params.followText "set-order" = true) {f0:Nat} {Q:Option (Value×Nat)→Shared→Prop} (g:SetAt s.heap a es ep t) (h:Q (((pickOrder (w.params.setOrder a ep) es)[i]?).map fun e=>(e.2,f0)) s):wpAny (model prog w) A (setNext a f0 i ep) Q E s:=by
 unfold setNext
 refine wpAny_bind (g.state ?_)
 dsimp only
 refine wpAny_bind ?_
 unfold setsByText
 refine wpAny_bind (wpAny_askSetting (wpAny_pure ?_))
 show wpAny _ _ (if w.params.followText "set-order" = true then _ else _) _ _ s
 rw [if_pos hb,if_neg (by simp)]
 refine wpAny_bind ?_
 exact b6n hb g (wpAny_pure h)
theorem b3P (hb:w.params.followText "set-order" = false) (hnd:(!t.plain&&decide (es.size > 1))=false) (hl:t.led=true) {f0:Nat} {Q:Option (Value×Nat)→Shared→Prop} (g:SetAt s.heap a es ep t)
  (h:Q (match es[qZ t.place f0]?,t.place[qZ t.place f0]? with | some (_,x),some j=>some (x,j+1) | _,_=>none) s):wpAny (model prog w) A (setNext a f0 i ep) Q E s:=by
 unfold setNext
 refine wpAny_bind (g.state ?_)
 dsimp only
 refine wpAny_bind ?_
 unfold setsByText
 refine wpAny_bind (wpAny_askSetting (wpAny_pure ?_))
 show wpAny _ _ (if w.params.followText "set-order" = true then _ else (if (!t.plain&&decide (es.size > 1))=true then _ else _)) _ _ s
 rw [hb,if_neg (by decide),hnd,if_neg (by decide)]
 show wpAny _ _ ((if (!t.led&&!es.isEmpty)=true then unsupported "set:maker-not-led" else pure PUnit.unit)>>=fun _=>_) _ _ s
 rw [hl]
 rw [if_neg (by simp)]
 exact wpAny_bind (wpAny_pure (wpAny_pure h))
end
end L2.SX
namespace L2.SX
open PySem PyProof.Rows
theorem a8k {M:Model} {A:Around} {E:Value→Shared→Prop} {s:Shared} {src:Source} {n:Nat} {Q:Nat→Shared→Prop} (hn:n≠0) (h:∀ k,k<n→Q k { s with drawn:=s.drawn.bump src }):wpAny M A (choose src n) Q E s:=fun Γ p hΓ=>by
 unfold choose
 rw [Sem.wp_choose]
 exact ⟨hn,h _ (Nat.mod_lt _ (by omega))⟩
theorem a6N {α:Type} {M:Model} {A:Around} {E:Value→Shared→Prop}:∀ (n:Nat) (xs:List α) (s:Shared) (Q:List α→Shared→Prop),xs.length=n→(∀ ys d',ys.Perm xs→Q ys { s with drawn:=d' })→wpAny M A (drawOrder n xs) Q E s
 | 0,xs,s,Q,hn,h=>by
  have:xs=[]:=List.length_eq_zero_iff.mp hn
  subst this
  unfold drawOrder
  exact wpAny_pure (h [] s.drawn .nil)
 | n+1,[],s,Q,hn,h=>by cases hn
 | n+1,x::xs,s,Q,hn,h=>by
  unfold drawOrder
  refine wpAny_bind (a8k (by simp) fun k hk=>?_)
  rw [qM hk]
  dsimp only
  refine wpAny_bind (a6N n _ _ _ (by rw [List.length_eraseIdx,if_pos hk];omega) fun ys d' hp=>wpAny_pure (h _ d' ?_))
  refine (hp.cons _).trans ?_
  generalize hL:x::xs=left at hk ⊢
  rw [vp]
  have e:left=left.take k++left[k]::left.drop (k+1):=by rw [List.getElem_cons_drop,List.take_append_drop]
  exact List.perm_middle.symm.trans (List.Perm.of_eq e.symm)
theorem slot_self:Slot "set_iterator" "__iter__" "set_iterator.__iter__" :=
 .of (owner := "set_iterator") (n := "__iter__") (by rw [typeLookup_type,builtinLookup_eq_fast];kernel_rfl) (by decide +kernel) (by decide +kernel) (by decide +kernel) (by first | exact .inl (by decide +kernel) | exact .inr (by decide +kernel)) (by rw [isSubtype_type];kernel_rfl)
theorem entry_self:entryFor table "set_iterator.__iter__" = some Builtin.«dict_keyiterator.__iter__»:=entryFor_alias (id' := "dict_keyiterator.__iter__") (by kernel_rfl) rfl (by decide +kernel) (by kernel_rfl)
theorem args_self (v:Value):argsOk "set_iterator.__iter__" ⟨[v],[]⟩:=by unfold argsOk;kernel_rfl
theorem tH {prog:Program} {w:World} {A:Around} {E:Value→Shared→Prop} {s:Shared} {I:Addr} {Q:Value→Shared→Prop} (hty:s.TypeIs (.ref I) "set_iterator") (h:Q (.ref I) s):wpAny (model prog w) A (pyIter (.ref I)) Q E s:=by
 refine wpAny_pyIter_slot hty slot_self (wpAny_call_entry slot_self hty entry_self ?_ (args_self _))
 show wpAny _ _ (ret (.ref I)) _ _ s
 exact wpAny_pure ⟨_,rfl, "set_iterator", _,hty,slot_next.lookup,h⟩
section
variable {prog:Program} {w:World} {E:Value→Shared→Prop} {a I T:Addr} {es:Array (Int×Value)} {ep:Nat} {t:SetTable}
theorem b4f (hb:w.params.followText "set-order" = true) (hne:a≠I) {A:Around} (hh:A.handled=none):Walks prog w A I [I,a] [I] es.size (fun i v=>((pickOrder (w.params.setOrder a ep) es).toList.map (·.2))[i]?=some v)
  (fun i h=>h.get? I=some (itO (rawInt 0) i a es.size ep)∧SetAt h a es ep t) where
 sub:=fun b hb=>by simp at hb;simp [hb]
 frame:=fun i h h' st kp=>⟨kp I (by simp) _ st.1,st.2.keeps fun o e=>kp a (by simp) o e⟩
 item:=fun i s Q E hi st hQ=>by
  have hl:(pickOrder (w.params.setOrder a ep) es).size=es.size:=by rw [←qO,(tL _ _).length_eq,qO]
  have hi':i<(pickOrder (w.params.setOrder a ep) es).size:=by omega
  refine next_item st.1 st.2 (x:=(pickOrder (w.params.setOrder a ep) es)[i].2) (nx:=0) (fun A' E' Q' q=>nextT hb st.2 (by rw [qu hi'];exact q)) fun h' g1 s1=>?_
  refine hQ _ h' s.toks ?_ ⟨g1,st.2.keeps fun o e=>s1.extBut _ _ hne e⟩ fun b o hb e=>s1.extBut b o (by simpa using hb) e
  rw [qP,je,qu hi']
  rfl
 done:=fun s Q E st hQ=>by
  have hl:(pickOrder (w.params.setOrder a ep) es).size=es.size:=by rw [←qO,(tL _ _).length_eq,qO]
  refine next_end hh st.1 st.2 (fun A' E' Q' q=>nextT hb st.2 (by rw [Array.getElem?_eq_none (by omega)];exact q)) fun h' x=>hQ h' s.toks fun b o hb e=>x b o (by simpa using hb) e
 self:=fun i s Q E st hQ=>by
  have hty:s.TypeIs (.ref I) "set_iterator" := ⟨_,st.1,rfl⟩
  exact tH hty hQ
def slotAt (t:SetTable):Nat→Nat
 | 0=>0
 | i+1=>t.place.getD i 0+1
theorem sM {n:Nat} (hr:oJ t.place) (hn:t.place.size=n):∀ i,i≤n→qZ t.place (slotAt t i)=i
 | 0,_=>a5D _ hr
 | i+1,h=>by
  have lt:i<t.place.size:=by omega
  show qZ t.place (t.place.getD i 0+1)=i+1
  have:t.place.getD i 0=t.place[i]:=by simp [zF,lt]
  rw [this]
  exact a5E hr lt
theorem b4h (hb:w.params.followText "set-order" = false) (hnd:(!t.plain&&decide (es.size > 1))=false) (hl:t.led=true) (hr:oJ t.place) (hp:t.place.size=es.size) (hne:a≠I) {A:Around} (hh:A.handled=none) :
  Walks prog w A I [I,a] [I] es.size (fun i v=>(es.toList.map (·.2))[i]?=some v) (fun i h=>i≤es.size∧h.get? I=some (itO (rawInt (slotAt t i)) i a es.size ep)∧SetAt h a es ep t) where
 sub:=fun b hb=>by simp at hb;simp [hb]
 frame:=fun i h h' st kp=>⟨st.1,kp I (by simp) _ st.2.1,st.2.2.keeps fun o e=>kp a (by simp) o e⟩
 item:=fun i s Q E hi st hQ=>by
  have hi':i<t.place.size:=by omega
  have bl:=sM hr hp i (by omega)
  refine next_item st.2.1 st.2.2 (x:=es[i].2) (nx:=slotAt t (i+1)) (fun A' E' Q' q=>b3P hb hnd hl st.2.2 (by
   rw [bl,qu hi,qu hi']
   have:slotAt t (i+1)=t.place[i]+1:=by show t.place.getD i 0+1=_;simp [zF,hi']
   rw [this] at q
   exact q)) fun h' g1 s1=>?_
  refine hQ _ h' s.toks ?_ ⟨hi,g1,st.2.2.keeps fun o e=>s1.extBut _ _ hne e⟩ fun b o hb e=>s1.extBut b o (by simpa using hb) e
  rw [qP,je,qu hi]
  rfl
 done:=fun s Q E st hQ=>by
  have bl:=sM hr hp es.size (qN _)
  refine next_end hh st.2.1 st.2.2 (fun A' E' Q' q=>b3P hb hnd hl st.2.2 (by
   rw [bl,Array.getElem?_eq_none (qN _)]
   exact q)) fun h' x=>hQ h' s.toks fun b o hb e=>x b o (by simpa using hb) e
 self:=fun i s Q E st hQ=>tH ⟨_,st.2.1,rfl⟩ hQ
theorem b4g {pl:List Nat} (hpl:pl.Perm (qd es.size)) (hne:a≠I) (hTI:T≠I) {A:Around} (hh:A.handled=none) :
  Walks prog w A I [I,a,T] [I] es.size (fun i v=>(pl.map fun k=>(es.toList.map (·.2)).getD k .none)[i]?=some v) (fun i h=>h.get? I=some (itO (.ref T) i a es.size ep)∧h.get? T=some (plO pl)∧SetAt h a es ep t) where
 sub:=fun b hb=>by simp at hb;simp [hb]
 frame:=fun i h h' st kp=>⟨kp I (by simp) _ st.1,kp T (by simp) _ st.2.1,st.2.2.keeps fun o e=>kp a (by simp) o e⟩
 item:=fun i s Q E hi st hQ=>by
  have hlen:pl.length=es.size:=by rw [hpl.length_eq,jm]
  have hi':i<pl.length:=by omega
  have hm:pl[i]∈qd es.size:=hpl.mem_iff.mp (jM hi')
  have hlt:pl[i]<es.size:=kS.mp hm
  refine a4L (p:=pl[i]) (hx:=es[pl[i]].1) (x:=es[pl[i]].2) st.1 st.2.1 st.2.2 (qM hi') (qu hlt) fun h' g1 s1=>?_
  refine hQ _ h' s.toks ?_ ⟨g1,s1.extBut _ _ hTI st.2.1,st.2.2.keeps fun o e=>s1.extBut _ _ hne e⟩ fun b o hb e=>s1.extBut b o (by simpa using hb) e
  rw [qP,qM hi']
  simp [zt,hlt]
 done:=fun s Q E st hQ=>by
  have hlen:pl.length=es.size:=by rw [hpl.length_eq,jm]
  exact a7D hh st.1 st.2.1 st.2.2 (qY (by omega)) fun h' x=>hQ h' s.toks fun b o hb e=>x b o (by simpa using hb) e
 self:=fun i s Q E st hQ=>tH ⟨_,st.1,rfl⟩ hQ
theorem a4I {α:Type} (xs:List α) (d:α) {pl:List Nat} (h:pl.Perm (qd xs.length)):(pl.map fun k=>xs.getD k d).Perm xs:=by
 refine (h.map _).trans (List.Perm.of_eq ?_)
 apply ja
 intro i
 rw [qP]
 by_cases hi:i<xs.length
 ·rw [kT hi,qM hi];simp [zt,hi]
 ·rw [qY (by simpa using hi),qY (by omega)];rfl
theorem b0p {A:Around} {s:Shared} {Q:Value→Shared→Prop} (g:SetAt s.heap a es ep t) (hT:TOk t (ledOf w)) (few:es.size≤sizeLine)
  (h:∀ (h':Heap) (d':Drawn) (I:Addr) (vs:List Value) (fp:List Addr) (St:Nat→Heap→Prop),vs.Perm (es.toList.map (·.2))→(∀ b o,s.heap.get? b=some o→h'.get? b=some o)→s.heap.objs.size≤I→I∈fp→(∀ b∈fp,b=a∨s.heap.objs.size≤b) →
   (∀ A':Around,A'.handled=none→Walks prog w A' I fp [I] es.size (fun i v=>vs[i]?=some v) St)→St 0 h'→Q (.ref I) { s with heap:=h',drawn:=d' }) :
  wpAny (model prog w) A (pyIter (.ref a)) Q E s:=by
 obtain ⟨o,ho,hc,hd⟩:=g.ex
 have hty:s.TypeIs (.ref a) "set" := ⟨o,ho,hc⟩
 have lt:a<s.heap.objs.size:=qH ho
 have hpl:t.place.size=es.size:=by
  have:=g.fits
  simp only [SetTable.fits,qJ,beq_iff_eq] at this
  exact this.1
 refine wpAny_pyIter_slot hty F.slot_set_iter (wpAny_call_entry F.slot_set_iter hty a5o ?_ (F.args_set_iter_1 _))
 unfold Builtin.«frozenset.__iter__»
 generalize hSD:setDrawn=SD
 generalize hSE:setEpoch=SE
 generalize hSZ:Builtin.Frozenset.sizeOf=SZ
 wp_walk
 subst hSD hSE hSZ
 unfold Builtin.Frozenset.sizeOf
 refine wpAny_bind (g.entries (wpAny_pure ?_))
 have fin:∀ (f0:Value) (s2:Shared),SetAt s2.heap a es ep t→Q (.ref s2.heap.objs.size) { s2 with heap:=s2.heap.push (itO f0 0 a es.size ep) } →
   wpAny (model prog w) A.in1 (setEpoch a>>=fun e=>newFields "set_iterator" [f0,rawInt 0,qy a,rawInt (es.size:Nat),rawInt (e:Nat)]>>=fun v=>ret v) (fun fin s'=>∃ v,fin=Fin.done (Flow.ret v)∧∃ T' r,s'.TypeIs v T'∧typeLookup (zO T') (kE "__next__")=pure (some r)∧Q v s') E s2:=by
  intro f0 s2 g2 q
  refine wpAny_bind ?_
  unfold setEpoch
  refine wpAny_bind (g2.state (wpAny_pure ?_))
  refine wpAny_bind ?_
  unfold newFields
  exact wpAny_newObj_type (wpAny_pure ⟨_,rfl, "set_iterator", _,⟨_,qI _ rfl,rfl⟩,slot_next.lookup,q⟩) (by size_fits)
 have plain:∀ (vs:List Value) (St:Nat→Heap→Prop),vs.Perm (es.toList.map (·.2))→(∀ A':Around,A'.handled=none→Walks prog w A' s.heap.objs.size [s.heap.objs.size,a] [s.heap.objs.size] es.size (fun i v=>vs[i]?=some v) St) →
   St 0 (s.heap.push (itO (rawInt 0) 0 a es.size ep))→Q (.ref s.heap.objs.size) { s with heap:=s.heap.push (itO (rawInt 0) 0 a es.size ep) }:=by
  intro vs St hp W st
  refine h _ s.drawn s.heap.objs.size vs [s.heap.objs.size,a] St hp (fun b o e=>qC _ e) (qN _) (by simp) (fun b hb=>?_) W st
  rcases qF.mp hb with z | z
  ·exact .inr (by rw [z];exact qN _)
  ·exact .inl (qf.mp z)
 have hne:a≠s.heap.objs.size:=qW lt
 have g1:SetAt (s.heap.push (itO (rawInt 0) 0 a es.size ep)) a es ep t:=g.keeps fun o e=>qC _ e
 refine wpAny_bind ?_
 unfold setDrawn
 refine wpAny_bind (g.state ?_)
 dsimp only
 unfold setsByText
 refine wpAny_bind (wpAny_bind (wpAny_askSetting (wpAny_pure (wpAny_pure ?_))))
 show wpAny _ _ (if (!w.params.followText "set-order" && (!t.plain&&decide (es.size > 1)))=true then _ else _) _ _ s
 cases hbt:w.params.followText "set-order" with
 | true=>
  rw [if_neg (by simp)]
  refine wpAny_bind (wpAny_pure ?_)
  exact fin (rawInt 0) s g (plain _ _ ((tL _ _).map _) (fun A' hA=>b4f hbt hne hA) ⟨qI _ rfl,g1⟩)
 | false=>
  have hled:t.led=true:=by rw [hT.led];unfold ledOf;rw [hbt];rfl
  cases hdr:(!t.plain&&decide (es.size > 1)) with
  | false=>
   rw [if_neg (by simp)]
   refine wpAny_bind (wpAny_pure ?_)
   have hr:oJ t.place:=by
    cases hp:t.plain with
    | true=>exact hT.rise hp
    | false=>
     rw [hp] at hdr
     have:¬es.size > 1:=by simpa using hdr
     unfold oJ
     have hl:t.place.toList.length≤1:=by rw [qO];omega
     match t.place.toList,hl with
     | [],_=>exact .nil
     | [x],_=>exact List.pairwise_singleton _ _
   exact fin (rawInt 0) s g (plain _ _ (.refl _) (fun A' hA=>b4h hbt hdr hled hr hpl hne hA) ⟨jn _,qI _ rfl,g1⟩)
  | true=>
   rw [if_pos (by simp)]
   refine wpAny_bind (a6N es.size (qd es.size) s _ (by simp) fun pl d' hpl'=>?_)
   refine wpAny_bind ?_
   unfold newTuple
   refine wpAny_newObj_type ?_ (by
    have h1:pl.length=es.size:=by rw [hpl'.length_eq,jm]
    show (pl.map fun (k:Nat)=>rawInt k).toArray.size≤sizeLine
    rw [qL,qD,h1]
    exact few)
   have g2:SetAt (s.heap.push (plO pl)) a es ep t:=g.keeps fun o e=>qC _ e
   refine fin (.ref s.heap.objs.size) { s with heap:=s.heap.push (plO pl),drawn:=d' } g2 ?_
   have sz:(s.heap.push (plO pl)).objs.size=s.heap.objs.size+1:=qz ..
   have hp2:(pl.map fun k=>(es.toList.map (·.2)).getD k jf).Perm (es.toList.map (·.2)):=a4I _ _ (by simpa using hpl')
   refine h _ d' (s.heap.push (plO pl)).objs.size _ [(s.heap.push (plO pl)).objs.size,a,s.heap.objs.size] _ hp2 (fun b o e=>qC _ (qC _ e)) (by rw [sz];exact kB _) (by simp) (fun b hb=>?_)
    (fun A' hA=>b4g (ep:=ep) (t:=t) hpl' (by rw [sz];exact qW (jZ lt)) (by rw [sz];exact qW (wA _)) hA) ⟨qI _ rfl,qC _ (qI _ rfl),g2.keeps fun o e=>qC _ e⟩
   rcases qF.mp hb with z | z
   ·exact .inr (by rw [z,sz];exact kB _)
   ·rcases qF.mp z with z | z
    ·exact .inl z
    ·rw [qf] at z;exact .inr (by rw [z];exact qN _)
end
end L2.SX
namespace L2.SX
open PySem PyProof.Rows
theorem b1P:typeLookup (.type "set") "__len__" = pure (some (.builtin "set.__len__")):=by rw [typeLookup_type,builtinLookup_eq_fast];kernel_rfl
section
variable {prog:Program} {w:World} {E:Value→Shared→Prop} {a:Addr} {es:Array (Int×Value)} {ep:Nat} {t:SetTable}
theorem a3Y {A:Around} {s:Shared} {Q:List Value→Shared→Prop} (hh:A.handled=none) (g:SetAt s.heap a es ep t) (hT:TOk t (ledOf w)) (few:es.size≤sizeLine)
  (hQ:∀ (h':Heap) (d':Drawn) (tk:Nat) (vs:List Value),vs.Perm (es.toList.map (·.2))→(∀ b o,s.heap.get? b=some o→h'.get? b=some o)→s.heap.objs.size<h'.objs.size→Q vs { s with heap:=h',drawn:=d',toks:=tk }) :
  wpAny (model prog w) A (collect (.ref a)) Q E s:=by
 obtain ⟨o,ho,hc,_⟩:=g.ex
 have lt:a<s.heap.objs.size:=qH ho
 unfold collect
 refine wpAny_bind (wpAny_runValue (codeAny_builtin F.entry_proto_collect ?_))
 rw [jO F.plain_proto_collect _]
 show wpAny _ A.in1 (newList []>>=fun l=>again (.builtin "list.__iadd__" ⟨[l,.ref a],[]⟩)) _ _ s
 refine wpAny_bind (wpAny_newObj_type ?_)
 refine wpAny_pure ⟨plainId_quiet vN _,codeAny_builtin F.entry_list_iadd ?_⟩
 rw [jO vN _]
 have g1:SetAt (s.heap.push { cls:=.type "list", data:=.seq ([]:List Value).toArray }) a es ep t:=g.keeps fun o e=>qC _ e
 have hS1:(s.heap.push { cls:=.type "list", data:=.seq ([]:List Value).toArray }).get? s.heap.objs.size=some { cls:=.type "list", data:=.seq ([]:List Value).toArray }:=qI _ rfl
 have ty1:vR { s with heap:=s.heap.push { cls:=.type "list", data:=.seq ([]:List Value).toArray } } (.ref a) "set" := ⟨o,qC _ ho,hc⟩
 show wpAny _ A.in1 (jY (.ref s.heap.objs.size) (.ref a) (.ref s.heap.objs.size)) _ _ _
 unfold jY
 refine wpAny_bind (wpAny_typeOf ty1 ?_)
 have e1:Builtin.List.listSameRef (.ref s.heap.objs.size) (.ref a)=false:=by simp [Builtin.List.listSameRef,jK lt]
 have e2:(zO "set" == zO "list")=false:=by decide
 have e3:(zO "set" == zO "tuple")=false:=by decide
 simp only [e1,e2,e3,vi,kG,if_false]
 refine wpAny_bind (b0p (w:=w) g1 hT few fun h' d' I vs fp St hp kp hI hIf hfp W st=>?_)
 have ty2:vR { s with heap:=h',drawn:=d' } (.ref a) "set" := ⟨o,kp a o (qC _ ho),hc⟩
 refine wpAny_bind (wpAny_holding ?_)
 have hint:∀ Q':Bool→Shared→Prop,Q' false { s with heap:=h',drawn:=d' }→wpAny (model prog w) A.in1 (Builtin.List.listLengthHint (.ref a)) Q' E { s with heap:=h',drawn:=d' }:=by
  intro Q' q
  unfold Builtin.List.listLengthHint
  refine wpAny_bind (wpAny_specialOf ty2 b1P ?_)
  generalize hid:("set.__len__" : String)=i0
  wp_delta
  rw [show splitId i0=some ("set", "__len__") from by rw [←hid];decide +kernel]
  rw [←hid]
  refine wpAny_bind (wpAny_isInstance (T := "set") (b:=true) ty2 sub_set_self ?_)
  refine wpAny_ite_split (fun z=>absurd z (by decide)) fun _=>?_
  refine wpAny_ite_split (fun _=>?_) fun z=>absurd (by decide +kernel) z
  exact wpAny_bind (wpAny_typeOf ty2 (wpAny_pure q))
 refine hint _ ?_
 have hSf:s.heap.objs.size∉fp:=fun hm=>by
  rcases hfp _ hm with z | z
  ·exact absurd z (jK lt)
  ·rw [qz] at z;exact absurd z (Nat.not_succ_le_self _)
 refine wpAny_ite_split (fun _=>?_) fun z=>absurd (by decide +kernel) z
 have hS2:=kp _ _ hS1
 refine wpAny_bind (wpAny_rule ?_)
 refine wpAny_bind ?_
 show wpAny _ A.in1 (updateSeq s.heap.objs.size (·.push .none)>>=fun _=>updateSeq s.heap.objs.size (·.pop)) _ _ _
 refine wpAny_bind (wpAny_updateSeq hS2 rfl ?_)
 have hS3:=jj (jT (·.push jf)) hS2 rfl
 refine wpAny_updateSeq hS3 rfl ?_
 have hS4:=jj (jT (·.pop)) hS3 rfl
 have oth:∀ b o,b≠s.heap.objs.size→h'.get? b=some o→((h'.update s.heap.objs.size (jT (·.push jf))).update s.heap.objs.size (jT (·.pop))).get? b=some o:=
  fun b o hb e=>by rw [jB _ _ (jh hb),jB _ _ (jh hb)];exact e
 have W1:=W A.in1 hh
 refine wpAny_pure ⟨plainId_quiet F.plain_extend_loop _,codeAny_extend_loopS W1.toS few _ hSf _ es.size 0 _ _ _ rfl (jn _)
  (W1.frame 0 _ _ st fun b hb o e=>oth b o (fun z=>hSf (z▸hb)) e) hS4 (ItemsOf.nil _) fun s' acc' c' hm hS' hacc=>?_⟩
 show wpAny _ A (load s.heap.objs.size>>=_) _ _ s'
 refine wpAny_bind (wpAny_load hS' (wpAny_pure ?_))
 have hv:acc'.toList=vs:=by
  have hl:vs.length=es.size:=by rw [hp.length_eq];simp
  refine ja fun i=>?_
  by_cases hi:i<es.size
  ·have h1:i<acc'.size:=by rw [hacc.1];exact hi
   have h2:=hacc.2 i _ (qu h1)
   rw [h2,je,qu h1]
  ·rw [qY (by rw [qO,hacc.1];omega),qY (by rw [hl];omega)]
 show Q acc'.toList s'
 rw [hv,Moved.eq_with hm]
 refine hQ s'.heap d' s'.toks vs hp (fun b o e=>?_) (qH hS')
 have hb:b≠s.heap.objs.size:=qW (qH e)
 refine hm.heap b o (fun hmem=>?_) (oth b o hb (kp b o (qC _ e)))
 rcases qF.mp hmem with z | z
 ·exact hb z
 ·rw [qf] at z
  rw [qz] at hI
  have q:=qH e
  rw [z] at q
  exact jU _ (qR (jZ q) hI)
end
end L2.SX
namespace L2.SX
open PySem PyProof.Rows
theorem a6b {α:Type} [DecidableEq α]:∀ (ks qs:List α),ks.Nodup→(∀ k∈ks,k∈qs)→qs.length=ks.length→qs.Perm ks
 | [],[],_,_,_=>.refl _
 | k::ks,qs,hn,hm,hl=>by
  have h1:=List.perm_cons_erase (hm k (by simp))
  have hn':=jV.mp hn
  refine h1.trans (.cons k (a6b ks _ hn'.2 (fun x hx=>?_) ?_))
  ·exact (List.mem_erase_of_ne (fun z=>by rw [z] at hx;exact hn'.1 hx)).mpr (hm x (by simp [hx]))
  ·have:=h1.length_eq;simp only [qi] at this hl;omega
section
variable {prog:Program} {w:World} {K:Type} [DecidableEq K] {knd:KeyKind prog w K}
inductive Keys (knd:KeyKind prog w K):List Value→List K→Prop
 | nil:Keys knd [] []
 | cons {v k vs ks}:knd.is k v=true→Keys knd vs ks→Keys knd (v::vs) (k::ks)
theorem Keys.len {vs ks} (h:Keys knd vs ks):ks.length=vs.length:=by induction h<;>simp [*]
theorem Keys.mem {vs ks} (h:Keys knd vs ks) {v:Value} {k:K} (hv:v∈vs) (e:knd.is k v=true):k∈ks:=by
 induction h with
 | nil=>cases hv
 | cons h1 _ ih=>
  rcases qF.mp hv with z | z
  ·subst z;rw [knd.inj _ _ _ e h1];simp
  ·exact qE _ (ih z)
theorem a6r:∀ (es:List (Int×Value)),ElemsOf knd es→∃ qs,Keys knd (es.map (·.2)) qs
 | [],_=>⟨[],.nil⟩
 | e::es,h=>by
  obtain ⟨qs,hq⟩:=a6r es fun x hx=>h x (qE _ hx)
  obtain ⟨⟨k,hk,_⟩,_⟩:=h e (by simp)
  exact ⟨k::qs,.cons hk hq⟩
theorem Keys.perm {vs us:List Value} (hp:us.Perm vs):∀ {ks},Keys knd vs ks→∃ qs,Keys knd us qs∧qs.Perm ks:=by
 induction hp with
 | nil=>intro ks h;exact ⟨ks,h,.refl _⟩
 | cons v _ ih=>
  intro ks h
  cases h with
  | cons h1 h2=>obtain ⟨qs,a,b⟩:=ih h2;exact ⟨_::qs,.cons h1 a,.cons _ b⟩
 | swap x y l=>
  intro ks h
  cases h with
  | cons h1 h2=>cases h2 with
   | cons h3 h4=>exact ⟨_,.cons h3 (.cons h1 h4),.swap ..⟩
 | trans _ _ i1 i2=>
  intro ks h
  obtain ⟨q1,a1,b1⟩:=i2 h
  obtain ⟨q2,a2,b2⟩:=i1 a1
  exact ⟨q2,a2,b2.trans b1⟩
theorem Good.keys {h:Heap} {a:Addr} {ks:List K} {led:Bool} (g:Good knd h a ks led):∃ es ep t,SetAt h a es ep t∧TOk t led∧es.size=ks.length∧∀ vs,vs.Perm (es.toList.map (·.2))→∃ qs,Keys knd vs qs∧qs.Perm ks:=by
 obtain ⟨o,es,ep,t,ho,hx,hd,hE,hm,hl,hf,hT⟩:=g.ex
 refine ⟨es,ep,t,⟨⟨o,ho,hx.1,hd⟩,hf⟩,hT,hl,fun vs hp=>?_⟩
 obtain ⟨qs,hq⟩:=a6r es.toList hE
 have h1:qs.Perm ks:=a6b ks qs g.nd (fun k hk=>by
  obtain ⟨e,he,hi⟩:=(hm k).mp hk
  exact hq.mem (jP he) hi) (by rw [hq.len,qD,qO,hl])
 obtain ⟨q2,a2,b2⟩:=Keys.perm hp.symm.symm hq
 exact ⟨q2,a2,b2.trans h1⟩
theorem a7T {vs:List Value} {ks:List Int} (h:Keys (intKind prog w) vs ks):IntsAre vs ks:=by
 induction h with
 | nil=>exact .nil
 | cons h1 _ ih=>obtain ⟨t,rfl⟩:=Value.isInt_shape h1;exact .cons _ t ih
theorem keys_strs {vs:List Value} {ks:List Str} (h:Keys (zQ prog w) vs ks):StrsAre vs ks:=by
 induction h with
 | nil=>exact .nil
 | cons h1 _ ih=>obtain ⟨t,rfl⟩:=Value.isStrOf_shape h1;exact .cons _ t ih
variable {A:Around} {E:Value→Shared→Prop} {s:Shared} {a:Addr} {es:Array (Int×Value)} {ep:Nat} {t:SetTable}
theorem sorted_set {Out:Array Value→Prop} {Q:Value→Shared→Prop} (hh:A.handled=none) (g:SetAt s.heap a es ep t) (hT:TOk t (ledOf w)) (few:es.size<64)
  (hsort:∀ (A':Around) (E':Value→Shared→Prop) (s':Shared) (l:Addr) (vs:List Value) (n:Nat) (P:Fin→Shared→Prop),vs.Perm (es.toList.map (·.2))→s'.heap.get? l=some (seqObj "list" vs.toArray n) →
   (∀ out,Out out→P (.done (.ret .none)) { s' with heap:=sortedHeap s'.heap l vs out })→wpAny (model prog w) A' (Builtin.«list.sort» ⟨[.ref l],[]⟩) P E' s')
  (h:∀ (h':Heap) (d':Drawn) (tk:Nat) (D:Addr) (out:Array Value) (e:Nat),(∀ b o,s.heap.get? b=some o→h'.get? b=some o)→s.heap.objs.size≤D→h'.get? D=some (seqObj "list" out e)→Out out→Q (.ref D) { s with heap:=h',drawn:=d',toks:=tk }) :
  wpAny (model prog w) A (call (.builtin "sorted") [.ref a]) Q E s:=by
 have big:(64:Nat)≤sizeLine:=by decide
 refine vF kind_sorted plain_sorted entry_sorted (args_sorted1 _) ?_
 unfold Builtin.«sorted»
 refine wpAny_bind (m:=checkCount "sorted" 1 1 _) (wpAny_pure ?_)
 refine wpAny_bind (a3Y hh g hT (ql (qr few) big) fun h1 d1 tk vs hp kp hlt=>?_)
 have hl:vs.length=es.size:=by rw [hp.length_eq];simp
 refine wpAny_bind (wpAny_newList ?_ (by rw [hl];exact ql (qr few) big))
 have hoL:(h1.push (seqObj "list" vs.toArray 0)).get? h1.objs.size=some (seqObj "list" vs.toArray 0):=qI _ rfl
 refine wpAny_bind (wpAny_holding (wpAny_call_entry slot_list_sort ⟨_,hoL,rfl⟩ entry_list_sort (hsort _ _ _ _ vs 0 _ hp hoL fun out ho=>⟨_,rfl,?_⟩) (args_list_sort _)))
 obtain ⟨e,he⟩:=sortedHeap_at (out:=out) hoL
 refine wpAny_pure ⟨_,rfl,h _ d1 tk h1.objs.size out e (fun b o g=>?_) (qr hlt) he ho⟩
 have hb:b<h1.objs.size:=qH (kp b o g)
 rw [sortedHeap_old (qW hb) (by rw [qz];exact jZ hb),qC _ (kp b o g)]
theorem sorted_setI {ks:List Int} {Q:Value→Shared→Prop} (hh:A.handled=none) (g:Good (intKind prog w) s.heap a ks (ledOf w)) (few:ks.length<64)
  (h:∀ (h':Heap) (d':Drawn) (tk:Nat) (D:Addr) (out:Array Value) (e:Nat),(∀ b o,s.heap.get? b=some o→h'.get? b=some o)→s.heap.objs.size≤D→h'.get? D=some (seqObj "list" out e)→IntsAre out.toList (L3.sortI ks)→Q (.ref D) { s with heap:=h',drawn:=d',toks:=tk }) :
  wpAny (model prog w) A (call (.builtin "sorted") [.ref a]) Q E s:=by
 obtain ⟨es,ep,t,g1,hT,hl,hv⟩:=g.keys
 refine sorted_set (Out:=fun out=>IntsAre out.toList (L3.sortI ks)) hh g1 hT (by rw [hl];exact few) (fun A' E' s' l vs n P hp ho q=>?_) h
 obtain ⟨qs,hk,hq⟩:=hv vs hp
 refine list_sort_tree ho (a7T hk) (by rw [hp.length_eq,qD,qO,hl];exact few) fun out ns' h1 h2 h3=>q out ?_
 rw [←L3.sortI_eq (h2.trans hq) h3]
 exact h1
end
end L2.SX
namespace L2.L3
open PySem PySem.Spec PyProof.Rows
def b8L (X:Cx) (H0 G₀ G:Hp) (ρ:List Ent) (H:Hp) (Q:Option Int→Hp→Prop):Re (Option Int)→Prop
 | .ok b=>∀ G' H',Grow G H G' H'→Q b H'
 | .ex c=>lC X H0 G₀ G ρ c
def rO (X:Cx) (f:OF):TO:=fun σ H Q=>∃ ρ r H0 G₀ G,f ρ=some r∧RepS X.K H0 G₀ G H σ ρ∧b8L X H0 G₀ G ρ H Q r
structure DO (X:Cx) (e:Option Expr) (f:OF):Prop where
 run:PO X e (rO X f)
section
variable {X:Cx} {H0 G₀ G G1 H H1:Hp} {ρ:List Ent} {σ:St} {a b c d e:Expr} {lo hi:Option Expr} {pos p p2 pos2:Pos} {fa fb fc fd:EF} {fl fh:OF}
theorem bO {fa:OF} {β:Type} {k:Option Int→Mm β} {r:Re β} (R:RepS X.K H0 G₀ G H σ ρ) (e:bnd (fa ρ) k=some r) {T:Option Int→Hp→Prop} (hx:∀ c,r=.ex c→lC X H0 G₀ G ρ c)
  (h:∀ x G1 H1,Grow G H G1 H1→RepS X.K H0 G₀ G1 H1 σ ρ→k x=some r→T x H1):rO X fa σ H T:=by
 rcases cR e with ⟨x,e1,e2⟩ | ⟨c,e1,e2⟩
 ·exact ⟨ρ,_,H0,G₀,G,e1,R,fun G1 H1 g1=>h x G1 H1 g1 (R.more g1) e2⟩
 ·exact ⟨ρ,_,H0,G₀,G,e1,R,hx c e2⟩
theorem b3m:DO X none a1b:=⟨fun pins s σ H Q I ⟨ρ,r,H0,G₀,G,e,R,q⟩=>by
 cases (qA e)
 exact b2c pins s σ H Q I (q G H (.refl R.sub))⟩
theorem b3l (ha:DE X a fa):DO X (some a) (a1a fa):=⟨fun pins s σ H Q I ⟨ρ,r,H0,G₀,G,e,R,q⟩=>by
 refine b2b ha.run pins s σ H Q I (bE R e (fun c z=>by subst z;exact q) fun x v G1 H1 g1 R1 rv e1=>?_)
 obtain ⟨k,ek,rfl⟩:=aY e1
 cases x<;>simp only [intD,Option.map] at ek<;>cases ek
 cases rv
 exact ⟨_,rfl,q G1 H1 g1⟩⟩
theorem b7u (ha:DE X a fa) (hl:DO X lo fl) (hh:DO X hi fh):DE X (.Subscript a (.Slice lo hi none p2) pos) (slE fa fl fh):=⟨fun pins s σ H Q I ⟨ρ,r,H0,G₀,G,e,R,q⟩=>
 a9x (b1N.or b4t) ha.run hl.run hh.run pins s σ H Q I (bE R e q.x fun x v G1 H1 g1 R1 rv e1=>bO R1 e1 (q.more g1).x fun l G2 H2 g2 R2 e2=>bO R2 e2 ((q.more g1).more g2).x fun h G3 H3 g3 R3 e3=>by
  obtain ⟨d,ed,rfl⟩:=aY e3
  have g23:=g2.trans g3
  unfold slD at ed
  split at ed
  ·cases (qA ed)
   cases rv with
   | list hq r=>
    refine .inl ⟨_,_,rfl,(g23.gg.trans g23.sub).seq hq,fun l hl=>q _ _ _ ((g1.trans g23).trans (.put g23.sub hl)) ?_⟩
    exact .list (.of aL) (a3W (r.mono (g23.gg.trans (bJ (g23.sub.free hl)))) _ _)
  ·split at ed
   ·cases ed
   ·rename_i hw
    cases (qA ed)
    cases rv with
    | tuple hq r=>
     refine .inr ⟨_,_,rfl,gM (g23.gg.trans g23.sub) hq,by rw [r.length];exact hw,fun l hl=>q _ _ _ ((g1.trans g23).trans (.put g23.sub hl)) ?_⟩
     exact .tuple (.of aL) (a3W (r.mono (g23.gg.trans (bJ (g23.sub.free hl)))) _ _)
  ·cases ed)⟩
theorem Inv.draws {pins:List (Addr×Obj)} {s:Shared} {d':Drawn} (I:Inv X pins σ H s):Inv X pins σ H { s with drawn:=d' }:=⟨I.ok,I.os,I.bare,I.base,I.loc,I.cell,I.free,I.freeC,I.pin,I.hok,I.len⟩
def b6s (K:qB) (t:TA):TE:=fun σ H Q=>t σ H fun xs H1=>(∃ a ns,xs=[.ref a]∧SqL K H1 a (ns.map V.int)∧ns.length<64∧∀ l,H1 l=none→Q (.ref l) (upd H1 l (.lst ((sortI (gH ns)).map V.int)))) ∨
 ∃ a ns,xs=[.ref a]∧SqL K H1 a (ns.map V.str)∧ns.length<64∧∀ l,H1 l=none→Q (.ref l) (upd H1 l (.lst ((eG (gG ns)).map V.str)))
theorem yW {α:Type} [DecidableEq α] (d:α) (ns:List α):SX.metK (fun i=>ns.getD i d) ns.length=ns.foldl SX.addK []:=by
 unfold SX.metK
 have:(qd ns.length).map (fun i=>ns.getD i d)=ns:=by
  refine ja fun i=>?_
  rw [qP]
  by_cases h:i<ns.length
  ·rw [kT h,qM h];simp [h]
  ·rw [qY (by simp;omega),qY (by omega)];rfl
 rw [this]
theorem uH (ns:List Int):SX.metK (fun i=>ns.getD i 0) ns.length=gH ns:=yW 0 ns
theorem pS (ns:List Str):SX.metK (fun i=>ns.getD i "") ns.length=gG ns:=yW ("" : Str) ns
theorem a6x {vs:List Value} {ns:List Int} (h:IntsAre vs ns):∀ (i:Nat) (v:Value),vs[i]?=some v→∃ t:Tok,v=vb (ns.getD i 0) t:=by
 induction h with
 | nil=>intro i v e;simp at e
 | cons n t _ ih=>
  intro i v e
  cases i with
  | zero=>simp at e;exact ⟨t,by simp [←e]⟩
  | succ i=>simpa using ih i v (by simpa using e)
theorem a5Q {vs:List Value} {ns:List Str} (h:StrsAre vs ns):∀ (i:Nat) (v:Value),vs[i]?=some v→∃ t:Tok,v=va (ns.getD i "") t:=by
 induction h with
 | nil=>intro i v e;simp at e
 | cons n t _ ih=>
  intro i v e
  cases i with
  | zero=>simp at e;exact ⟨t,by simp [←e]⟩
  | succ i=>simpa using ih i v (by simpa using e)
theorem wW {ns:List Str}:∀ {us:List Value},aX (ns.map V.str) us→StrsAre us ns:=by
 induction ns with
 | nil=>intro us r;cases r;exact .nil
 | cons n ns ih=>intro us r;cases r with | cons r1 r2=>obtain ⟨t,rfl⟩:=r1;exact .cons n t (ih r2)
theorem sS:∀ {vs:List Value} {ns:List Str},StrsAre vs ns→aX (ns.map V.str) vs
 | _,_,.nil=>.nil
 | _,_,.cons n t h=>.cons ⟨t,rfl⟩ (sS h)
theorem mC {K:qB} {G:Hp}:∀ ns:List Str,RepAll K G (ns.map V.str) (ns.map .str)
 | []=>.nil
 | _::r=>.cons (.str _) (mC r)
theorem a3b {vs:List Value} {ns:List Str} (h:StrsAre vs ns):vs.length=ns.length:=by induction h<;>simp [*]
theorem nO {a b c:Str} (h1:bR a b=true) (h2:bR b c=true):bR a c=true:=by
 unfold bR at *
 simp only [jz,decide_eq_false_iff_not,List.not_lt] at *
 exact List.le_trans h1 h2
theorem iR (a b:Str):(bR a b || bR b a)=true:=by
 unfold bR
 simp only [vP,jz,decide_eq_false_iff_not,List.not_lt]
 exact List.le_total _ _
theorem yC {a b:Str} (h1:bR a b=true) (h2:bR b a=true):a=b:=by
 unfold bR at *
 simp only [jz,decide_eq_false_iff_not,List.not_lt] at *
 have e:=List.le_antisymm h1 h2
 cases a;cases b
 congr 1
 exact Array.toList_inj.mp e
theorem bP (ns:List Str):(eG ns).Perm ns:=vW _ _
theorem gK (ns:List Str):(eG ns).Pairwise (fun a b=>bR a b=true):=zy (le:=bR) (fun a b c h1 h2=>nO h1 h2) iR ns
theorem a0R:∀ (l:List Str) (p:Str),risingS p l=true→(p::l).Pairwise (fun a b=>bR a b=true)
 | [],p,_=>List.pairwise_singleton _ _
 | x::r,p,h=>by
  have h':(!ltCps x.cps.toList p.cps.toList&&risingS x r)=true:=h
  rw [qJ] at h'
  have h1:bR p x=true:=by unfold bR;rw [←ltCps_eq];exact h'.1
  have ih:=a0R r x h'.2
  refine qc.mpr ⟨fun y hy=>?_,ih⟩
  rcases qF.mp hy with z | z
  ·rw [z];exact h1
  ·exact nO h1 ((qc.mp ih).1 y z)
theorem a7r (l:List Str) (h:sortedS l=true):l.Pairwise (fun a b=>bR a b=true):=by
 cases l with
 | nil=>exact .nil
 | cons x r=>exact a0R r x h
theorem fQ:∀ {a b:List Str},a.Perm b→a.Pairwise (fun a b=>bR a b=true)→b.Pairwise (fun a b=>bR a b=true)→a=b
 | [],b,hp,_,_=>by rw [List.nil_perm.mp hp]
 | x::a,b,hp,ha,hb=>by
  match b,hp,hb with
  | [],hp,_=>exact absurd hp.length_eq (by simp)
  | y::b,hp,hb=>
   have h1:=qc.mp ha
   have h2:=qc.mp hb
   have e:x=y:=by
    rcases qF.mp (hp.mem_iff.mp (qT (a:=x) (l:=a))) with z | z
    ·exact z
    ·rcases qF.mp (hp.mem_iff.mpr (qT (a:=y) (l:=b))) with q | q
     ·exact q.symm
     ·exact yC (h1.1 y q) (h2.1 x z)
   subst e
   rw [fQ (List.Perm.cons_inv hp) h1.2 h2.2]
theorem a3e {ns ms:List Str} (hp:ms.Perm ns) (hs:sortedS ms=true):ms=eG ns:=fQ (hp.trans (bP ns).symm) (a7r ms hs) (gK ns)
theorem a3d {prog:Program} {w:World} {A:Around} {E:Value→Shared→Prop} {s:Shared} {a:Addr} {ks:List Str} {Q:Value→Shared→Prop} (hh:A.handled=none) (g:SX.Good (zQ prog w) s.heap a ks (SX.ledOf w)) (few:ks.length<64)
  (h:∀ (h':Heap) (d':Drawn) (tk:Nat) (D:Addr) (out:Array Value) (e:Nat),(∀ b o,s.heap.get? b=some o→h'.get? b=some o)→s.heap.objs.size≤D→h'.get? D=some (seqObj "list" out e)→StrsAre out.toList (eG ks)→Q (.ref D) { s with heap:=h',drawn:=d',toks:=tk }) :
  wpAny (model prog w) A (call (.builtin "sorted") [.ref a]) Q E s:=by
 obtain ⟨es,ep,t,g1,hT,hl,hv⟩:=g.keys
 refine SX.sorted_set (Out:=fun out=>StrsAre out.toList (eG ks)) hh g1 hT (by rw [hl];exact few) (fun A' E' s' l vs n P hp ho q=>?_) h
 obtain ⟨qs,hk,hq⟩:=hv vs hp
 have hS:=SX.keys_strs hk
 refine list_sort_treeK strKind_oneLt ho hS.keysOf (fun v₁ v₂ rest e=>keyKind_strs (by rw [←e];exact hS)) (by rw [hp.length_eq,qD,qO,hl];exact few) fun st' hp' hs'=>q _ ?_
 obtain ⟨ss',h1,h2,h3⟩:=sorted_out_str hS hp' hs'
 rw [←a3e (h2.trans hq) h3]
 exact h1
theorem b2h {t:TA} (hc:X.calm=true) (h1:Gl X "sorted") (m1:X.mg "sorted" = none) (h2:Gl X "set") (m2:X.mg "set" = none) (b2:bootBuiltins "set" = some (.type "set")) (ha:PA X [e] t) (he:starEach [e] X.env=(false,eval e X.env)::starEach [] X.env)
  (he2:starEach [.Call (.Name "set" p2) [e] [] pos2] X.env=(false,eval (.Call (.Name "set" p2) [e] [] pos2) X.env)::starEach [] X.env) (hpl:∀ q,(backTo q (starEach [] X.env)).any (·.1)=false) (hn:∀ q,backTo q (starEach [] X.env)=[]) :
  PE X (.Call (.Name "sorted" p) [.Call (.Name "set" p2) [e] [] pos2] [] pos) (b6s X.K t):=by
 intro pins s σ H Q I h
 refine wpAny_Call_Name_kw (iZ I h1 m1 boot_sorted ?_)
 refine callWith_builtin1 ?_ he2 (hpl _)
 rw [he2]
 show wpAny _ _ (spliced ((false,eval (.Call (.Name "set" p2) [e] [] pos2) X.env)::backTo pos (starEach [] X.env))) _ _ s
 rw [hn]
 refine kQ (wpAny_Call_Name_kw (iZ I h2 m2 b2 ?_))
 refine callWith_type1 (thn (ha pos2 pins s σ H _ I h) fun us s1 ⟨vs,H1,I1,r1,qq⟩=>?_) he (hpl _)
 rcases qq with ⟨a,ns,e1,hq,h64,q⟩ | ⟨a,ns,e1,hq,h64,q⟩
 ·subst e1
  obtain ⟨u,rfl,rx⟩:=vals1 r1
  cases rx
  obtain ⟨its,rv,pl,hz⟩:=I1.list hq
  have hi:=intsAre_of rv
  have hd:=I1.ok.hd hc
  have hl:its.length=ns.length:=hi.length
  refine SX.set_of (knd:=intKind X.prog X.w) (val:=fun i=>ns.getD i 0) hd pl.isList (fun i v e=>?_) (fun i v A' E' s' Q' e q'=>?_) ?_ fun h' tk g kp=>?_
  ·obtain ⟨t,rfl⟩:=a6x hi i v (by simpa using e)
   exact ⟨by simp [intKind,Value.isInt],rfl⟩
  ·obtain ⟨t,rfl⟩:=a6x hi i v (by simpa using e)
   exact (intKind X.prog X.w).pyHash (k:=ns.getD i 0) (by simp [intKind,Value.isInt]) q'
  ·have hsz:its.toArray.size=ns.length:=by rw [qL,hl]
   rw [hsz];exact kF h64 (by decide)
  ·have hsz:its.toArray.size=ns.length:=by rw [qL,hl]
   rw [hsz,uH] at g
   refine kU (SX.sorted_setI hd g ?_ fun h2 d2 tk2 D out ep k2 hs2 ho hout=>?_)
   ·rw [←uH];exact kF (SX.metK_len _ _) h64
   ·have kk:∀ b o,s1.heap.get? b=some o→h2.get? b=some o:=fun b o z=>k2 b o (kp b o (qH z) z)
    obtain ⟨so,_,_,_,hso,_⟩:=g.ex
    have lt:s1.heap.objs.size≤D:=ql (qr (qH hso)) hs2
    have hf:H1 D=none:=I1.hok.fresh lt
    refine ⟨.ref D,_,Inv.draws (I1.laid (t':=tk2) (a:=D) (o:=.lst ((sortI (gH ns)).map V.int)) kk lt ⟨?_,out.toList,ep,lD hout,?_⟩),rfl,q _ hf⟩
    ·rw [qD,(sortI_perm _).length_eq,←uH]
     exact ql (SX.metK_len _ _) (qr (eB (by omega)))
    ·rw [ho]
 ·subst e1
  obtain ⟨u,rfl,rx⟩:=vals1 r1
  cases rx
  obtain ⟨its,rv,pl,hz⟩:=I1.list hq
  have hi:=wW rv
  have hd:=I1.ok.hd hc
  have hl:its.length=ns.length:=a3b hi
  refine SX.set_of (knd:=zQ X.prog X.w) (val:=fun i=>ns.getD i "") hd pl.isList (fun i v e=>?_) (fun i v A' E' s' Q' e q'=>?_) ?_ fun h' tk g kp=>?_
  ·obtain ⟨t,rfl⟩:=a5Q hi i v (by simpa using e)
   exact ⟨by simp [zQ,Value.isStrOf],rfl⟩
  ·obtain ⟨t,rfl⟩:=a5Q hi i v (by simpa using e)
   exact (zQ X.prog X.w).pyHash (k:=ns.getD i "") (by simp [zQ,Value.isStrOf]) q'
  ·have hsz:its.toArray.size=ns.length:=by rw [qL,hl]
   rw [hsz];exact kF h64 (by decide)
  ·have hsz:its.toArray.size=ns.length:=by rw [qL,hl]
   rw [hsz,pS] at g
   refine kU (a3d hd g ?_ fun h2 d2 tk2 D out ep k2 hs2 ho hout=>?_)
   ·rw [←pS];exact kF (SX.metK_len _ _) h64
   ·have kk:∀ b o,s1.heap.get? b=some o→h2.get? b=some o:=fun b o z=>k2 b o (kp b o (qH z) z)
    obtain ⟨so,_,_,_,hso,_⟩:=g.ex
    have lt:s1.heap.objs.size≤D:=ql (qr (qH hso)) hs2
    have hf:H1 D=none:=I1.hok.fresh lt
    refine ⟨.ref D,_,Inv.draws (I1.laid (t':=tk2) (a:=D) (o:=.lst ((eG (gG ns)).map V.str)) kk lt ⟨?_,out.toList,ep,sS hout,?_⟩),rfl,q _ hf⟩
    ·rw [qD,(bP _).length_eq,←pS]
     exact ql (SX.metK_len _ _) (qr (eB (by omega)))
    ·rw [ho]
theorem a6V (hc:X.calm=true) (m1:X.mg "sorted" = none) (m2:X.mg "set" = none) (ha:DE X e fa) (h1:Gl X "sorted":=by rfl) (h2:Gl X "set":=by rfl) (he:starEach [e] X.env=(false,eval e X.env)::starEach [] X.env:=by rfl)
  (he2:starEach [.Call (.Name "set" p2) [e] [] pos2] X.env=(false,eval (.Call (.Name "set" p2) [e] [] pos2) X.env)::starEach [] X.env:=by rfl):DE X (.Call (.Name "sorted" p) [.Call (.Name "set" p2) [e] [] pos2] [] pos) (op1 oK fa):=
 ⟨fun pins s σ H Q I ⟨ρ,r,H0,G₀,G,ef,R,q⟩=>b2h hc h1 m1 h2 m2 boot_set (eE ha.run iX he) he he2 (fun _=>rfl) (fun _=>rfl) pins s σ H Q I (bE R ef q.x fun x v G1 H1 g1 R1 rv e1=>by
  obtain ⟨d,ed,rfl⟩:=aY e1
  unfold oK at ed
  split at ed
  ·split at ed
   ·rename_i xs ns e2
    split at ed
    ·rename_i h64
     cases (qA ed)
     have:=dA (g:=.int) (fun d a q=>gQ q) e2
     subst this
     cases rv with
     | list hq r=>
      have e3:=r.ints
      subst e3
      refine .inl ⟨_,ns,rfl,g1.sub.seq hq,h64,fun l hl=>q _ _ _ (g1.trans (.put g1.sub hl)) (.list (.of aL) (fD _))⟩
    ·cases ed
   ·split at ed
    ·rename_i xs _ ns e2
     split at ed
     ·rename_i h64
      cases (qA ed)
      have:=dA (g:=.str) (fun d a q=>a1O q) e2
      subst this
      cases rv with
      | list hq r=>
       have e3:=r.strs
       subst e3
       refine .inr ⟨_,ns,rfl,g1.sub.seq hq,h64,fun l hl=>q _ _ _ (g1.trans (.put g1.sub hl)) (.list (.of aL) (mC _))⟩
     ·cases ed
    ·cases ed
  ·cases ed)⟩
end
theorem b0s {K:qB} {T:String} {x:PyData} {t:Bool} (h:b2M T x=some t):zG K (.type (tyD x)) (.type T)=some t:=by
 unfold b2M at h
 by_cases c:T = "int"
 ·rw [if_pos c] at h;subst c;cases x<;>first | (cases h;rfl) | cases h
 rw [if_neg c] at h
 by_cases c:T = "bool"
 ·rw [if_pos c] at h;subst c;cases x<;>first | (cases h;rfl) | cases h
 rw [if_neg c] at h
 by_cases c:T = "str"
 ·rw [if_pos c] at h;subst c;cases x<;>first | (cases h;rfl) | cases h
 rw [if_neg c] at h
 by_cases c:T = "tuple"
 ·rw [if_pos c] at h;subst c;cases x<;>first | (cases h;rfl) | cases h
 rw [if_neg c] at h;cases h
def b7a:PyData→Option (List PyData)
 | .str z=>some ((lettersOf z).map .str)
 | _=>none
def b6Z (fa:EF):AF:=fun ρ=>bnd (fa ρ) fun x=>lft (b7a x)
section
variable {X:Cx} {H0 G₀ G G1 H H1:Hp} {ρ:List Ent} {σ:St} {a b c d e iter:Expr} {es:List Expr} {pos p p2 pos2 px:Pos} {x:Str} {fa fb fc fd:EF}
theorem lL {T:String} (hm:X.mg "isinstance" = none) (hx:X.mg x=none) (hv:bootBuiltins x=some (.type T)) (ha:DE X a fa) (hn:x ≠ "__name__":=by decide) (hdb:(x==("__debug__" : Str))=false:=by decide)
  (he:starEach [a,.Name x p2] X.env=(false,eval a X.env)::starEach [.Name x p2] X.env:=by rfl) (he2:starEach [.Name x p2] X.env=(false,eval (.Name x p2) X.env)::starEach [] X.env:=by rfl)
  (hpl:(backTo pos (starEach [.Name x p2] X.env)).any (·.1)=false:=by rfl) (hg:Gl X "isinstance":=by rfl) (hgx:Gl X x:=by rfl):DE X (.Call (.Name "isinstance" p) [a,.Name x p2] [] pos) (op1 (isD T) fa):=by
 have hc:dU X (.builtin "isinstance") (fun xs H Q=>∃ v d t,xs=[v,.ty T]∧Rep X.K H v d∧b2M T d=some t∧Q (.bl t) H):=by
  intro pins s σ H xs us Q I r ⟨v,d,t,e1,rv,ht,q⟩
  subst e1
  obtain ⟨u,w',rfl,r1,r2⟩:=vals2 r
  cases r2
  exact b0r I rv r1 (b0s ht) fun tk=>⟨.bl t,H,I.tok tk,rfl,q⟩
 exact ⟨fun pins s σ H Q I ⟨ρ,r,H0,G₀,G,e,R,q⟩=>rH hc hg hm boot_isinstance (eE ha.run (eE (a6e (v:=.ty T) hgx hx hv rfl hn hdb) iX he2) he) (by decide) (by decide) he hpl pins s σ H Q I (bE R e q.x fun x v G1 H1 g1 R1 rv e1=>by
  obtain ⟨d,ed,rfl⟩:=aY e1
  obtain ⟨t,et,rfl⟩:=qK.mp ed
  exact ⟨v,x,t,rfl,rv.mono g1.sub,et,q _ _ _ g1 (.bool t)⟩)⟩
theorem b5k (hc:X.calm=true) (h:DE X iter fa):DI X (.Name x px) iter (b6Z fa):=⟨fun pins s σ H R I ⟨ρ,r,H0,G₀,G,e,S,q⟩=>by
 rcases cR e with ⟨x,e1,e2⟩ | ⟨c,e1,e2⟩
 ·obtain ⟨ds,e3,rfl⟩:=aY e2
  cases x<;>simp only [b7a] at e3<;>cases e3
  exact (b2e (h.pd e1) hc).run pins s σ H R I ⟨H0,G₀,G,S,q⟩
 ·subst e2
  exact a2a h.run pins s σ H R I ⟨ρ,_,H0,G₀,G,e1,S,q⟩⟩
end
section
variable {X:Cx} {H0 G₀ G G1 H H1:Hp} {ρ:List Ent} {σ:St} {a b c d e iter:Expr} {es:List Expr} {pos p p2 pos2 px:Pos} {x:Str} {fa fb fc fd:EF}
def a1p (x:PyData) (ds:List PyData):Option Bool:=if qQ x&&ds.all qQ then some (ds.any fun d=>jC d x) else none
def inX (x y:PyData):Option Bool:=match x with
 | .tuple _=>(match wH y with | some ds=>a1p x ds | none=>none)
 | .list _=>(match wH y with | some ds=>a1p x ds | none=>none)
 | _=>inD x y
def a0t (x y:PyData):Option Bool:=(inX x y).map (!·)
def b6G (K:qB) (neg:Bool) (dx:PyData) (ds:List PyData):R2:=fun x y H Q=>∃ p xs,y=.ref p∧(SqL K H p xs∨SqT K H p xs)∧Rep K H x dx∧RepAll K H xs ds∧qQ dx=true∧ds.all qQ=true∧Q (.bl (if neg then !(ds.any fun d=>jC d dx) else ds.any fun d=>jC d dx)) H
open Classical in
theorem yG {pins:List (Addr×Obj)} {s:Shared} {A:Around} (I:Inv X pins σ H s) (hu:A.units+64<cLine) {v:Value} {dx:PyData} {bs:List Addr} (rx:Reads s.heap v dx bs) (hx:qQ dx=true) :
  ∀ {xs:List V} {ds:List PyData} {us:List Value},RepAll X.K H xs ds→aX xs us→ds.all qQ=true →
   (∀ u∈us,SeqAt.EqAt A s u v (decide (∃ d as,Reads s.heap u d as∧qQ d=true∧jC d dx=true)))∧us.any (fun u=>decide (∃ d as,Reads s.heap u d as∧qQ d=true∧jC d dx=true))=ds.any fun d=>jC d dx
 | _,_,_,.nil,.nil,_=>⟨(fun u hm=>by cases hm),rfl⟩
 | _,_,_,.cons (d:=d) r rr,.cons t tt,hs=>by
  rw [zz,qJ] at hs
  obtain ⟨h1,h2⟩:=yG I hu rx hx rr tt hs.2
  obtain ⟨as,ra⟩:=r.reads I t
  have key0:∀ u,Reads s.heap u d as→decide (∃ d as,Reads s.heap u d as∧qQ d=true∧jC d dx=true)=jC d dx:=by
   intro u ra
   cases e:jC d dx with
   | true=>exact decide_eq_true ⟨d,as,ra,hs.1,e⟩
   | false=>
    refine decide_eq_false fun ⟨d',as',r',s',e'⟩=>?_
    rw [SeqAt.Reads.unique d d' _ _ _ (jc hs.1) ra r'] at e
    rw [e] at e';cases e'
  have key:=key0 _ ra
  refine ⟨fun u hu'=>?_,by rw [jk,jk,key,h2]⟩
  rcases qF.mp hu' with z | z
  ·subst z
   rw [key]
   exact SeqAt.eqAt_reads d dx A s _ v as bs ra rx (jc hs.1) (jc hx) (SeqAt.room_of_shaped hs.1 hu)
  ·exact h1 u z
open Classical in
theorem b4W (hu:X.A.in1.units+64<cLine) (dx:PyData) (ds:List PyData):OpR X (compareOp .In) (b6G X.K false dx ds):=by
 intro pins s σ H x y v u Q I rx ry h
 obtain ⟨p,xs,rfl,hq,r1,r2,h1,h2,q⟩:=h
 cases ry
 obtain ⟨bs,rb⟩:=r1.reads I rx
 rcases hq with hq | hq
 ·obtain ⟨its,r,pl,hz⟩:=I.list hq
  obtain ⟨e1,e2⟩:=yG (A:=X.A.in1) I hu rb h1 r2 r h2
  refine SeqAt.in_listAt _ pl.isList (fun w hw=>e1 w (by simpa using hw)) ⟨.bl _,H,I,rfl,?_⟩
  rw [←vD,e2]
  exact q
 ·obtain ⟨its,r,pl,hz⟩:=I.tuple hq
  obtain ⟨e1,e2⟩:=yG (A:=X.A.in1) I hu rb h1 r2 r h2
  refine SeqAt.in_tupleAt _ pl (fun w hw=>e1 w (by simpa using hw)) ⟨.bl _,H,I,rfl,?_⟩
  rw [←vD,e2]
  exact q
open Classical in
theorem b2o (hu:X.A.in1.units+64<cLine) (dx:PyData) (ds:List PyData):OpR X (compareOp .NotIn) (b6G X.K true dx ds):=by
 intro pins s σ H x y v u Q I rx ry h
 obtain ⟨p,xs,rfl,hq,r1,r2,h1,h2,q⟩:=h
 cases ry
 obtain ⟨bs,rb⟩:=r1.reads I rx
 rcases hq with hq | hq
 ·obtain ⟨its,r,pl,hz⟩:=I.list hq
  obtain ⟨e1,e2⟩:=yG (A:=X.A.in1) I hu rb h1 r2 r h2
  refine SeqAt.notIn_listAt _ pl.isList (fun w hw=>e1 w (by simpa using hw)) ⟨.bl _,H,I,rfl,?_⟩
  rw [←vD,e2]
  exact q
 ·obtain ⟨its,r,pl,hz⟩:=I.tuple hq
  obtain ⟨e1,e2⟩:=yG (A:=X.A.in1) I hu rb h1 r2 r h2
  refine SeqAt.notIn_tupleAt _ pl (fun w hw=>e1 w (by simpa using hw)) ⟨.bl _,H,I,rfl,?_⟩
  rw [←vD,e2]
  exact q
theorem rW {hu:X.A.in1.units+64<cLine} {x y:PyData} {ds:List PyData} {t:Bool} (e:wH y=some ds) (h:a1p x ds=some t):CmpD X .In x y t∧CmpD X .NotIn x y (!t):=by
 unfold a1p at h
 split at h
 ·rename_i hz
  rw [qJ] at hz
  cases (qA h)
  refine ⟨⟨_,b4W hu x ds,fun v u G H Q s rv ru q=>?_⟩,⟨_,b2o hu x ds,fun v u G H Q s rv ru q=>?_⟩⟩
  ·obtain ⟨p,vs,rfl,hq,r⟩:=iL s e ru
   exact ⟨p,vs,rfl,hq,rv.mono s,r.mono s,hz.1,hz.2,q⟩
  ·obtain ⟨p,vs,rfl,hq,r⟩:=iL s e ru
   exact ⟨p,vs,rfl,hq,rv.mono s,r.mono s,hz.1,hz.2,q⟩
 ·cases h
theorem a5f (hu:X.A.in1.units+64<cLine) (x y:PyData) (t:Bool) (h:inX x y=some t):CmpD X .In x y t:=by
 unfold inX at h
 split at h
 ·split at h
  ·rename_i ds e;exact (rW (hu:=hu) e h).1
  ·cases h
 ·split at h
  ·rename_i ds e;exact (rW (hu:=hu) e h).1
  ·cases h
 ·exact b7i x y t h
theorem a2e (hu:X.A.in1.units+64<cLine) (x y:PyData) (t:Bool) (h:a0t x y=some t):CmpD X .NotIn x y t:=by
 unfold a0t at h
 obtain ⟨t',hq,rfl⟩:=qK.mp h
 unfold inX at hq
 split at hq
 ·split at hq
  ·rename_i ds e;exact (rW (hu:=hu) e hq).2
  ·cases hq
 ·split at hq
  ·rename_i ds e;exact (rW (hu:=hu) e hq).2
  ·cases hq
 ·exact b5d x y _ (by unfold b5e;rw [hq];rfl)
end
theorem _root_.L2.Room.units1 {k:Nat} {A:Around} (r:Room k A):A.in1.units+64<cLine:=by
 have:=r.un
 show A.units+1+64<cLine
 omega
section
variable {X:Cx} {H0 G₀ G G1 H H1:Hp} {ρ:List Ent} {σ:St} {a b c d e iter:Expr} {es:List Expr} {pos p p2 pos2 px:Pos} {x:Str} {fa fb fc fd:EF}
end
def yP (ds:List PyData):List PyData:=(qd ds.length).map fun (k:Nat)=>.tuple [.int (k:Int),ds.getD k .none]
theorem b2X (ds:List PyData) (i:Nat):(yP ds)[i]?=(ds[i]?).map fun d=>.tuple [.int (i:Int),d]:=by
 unfold yP
 rw [qP]
 by_cases h:i<ds.length
 ·rw [kT h,qM h];simp [h]
 ·rw [qY (by simp;omega),qY (by omega)];rfl
section
variable {X:Cx} {a b e:Expr} {elts:List Expr} {k0:Nat} {p0 pos p:Pos} {fa fb:EF} {st:Stmt}
end
end L2.L3
namespace L2.ZT
open PySem PyProof.Rows
section
variable {prog:Program} {w:World} {A:Around} {E:Value→Shared→Prop} {s:Shared}
theorem tup_next {c t:Addr} {i:Nat} {xs:Array Value} {x:Value} {Q:Value→Shared→Prop} (hc:s.heap.IsTupleIter c t i) (ht:s.heap.IsTuple t xs) (hx:xs[i]?=some x)
  (q:∀ k,k.IsTupleIter c t (i+1)→km c s.heap k→Q x { s with heap:=k }):wpAny (model prog w) A (jI (.ref c)) Q E s:=by
 obtain ⟨oc,gc,ec,dc⟩:=id hc
 obtain ⟨ot,gt,_,nt,dt⟩:=ht
 unfold jI
 refine wpAny_bind (wpAny_callSpecial?_slot (name:=kE "__next__") hc.typeIs kY (wpAny_call_entry kY hc.typeIs F.entry_tuple_iterator_next ?_ (F.args_tuple_iterator_next_1 _)))
 show wpAny _ _ (field (.ref c) 0>>=_) _ _ s
 refine wpAny_bind (wpAny_field gc dc (x:=.ref t) rfl ?_)
 show wpAny _ _ (if (qy t==jf)=true then _ else _) _ _ s
 rw [if_neg (fun z=>by cases z)]
 show wpAny _ _ (field (.ref c) 1>>=_) _ _ s
 refine wpAny_bind (wpAny_field gc dc (x:=.int i 0) rfl ?_)
 show wpAny _ _ (seqItems? (.ref t)>>=_) _ _ s
 refine wpAny_bind (wpAny_seqItems gt dt ?_)
 simp only [jH,hx]
 refine wpAny_bind (wpAny_setField gc dc (by simp) (wpAny_pure ⟨x,rfl,wpAny_pure (q _ ?_ (zu ..))⟩))
 refine ⟨_,jj _ gc (Obj.isFreed_of_fields (vA dc _)),(Obj.cls_mapFields ..).trans ec,?_⟩
 rw [vA dc]
 simp [rawInt]
theorem tup_stop {c t:Addr} {i:Nat} {xs:Array Value} {Q:Value→Shared→Prop} (hh:A.handled=none) (hc:s.heap.IsTupleIter c t i) (ht:s.heap.IsTuple t xs) (hx:xs[i]?=none)
  (q:∀ k e,Heap.ExtBut c s.heap k→(∃ o,k.get? e=some o∧o.cls=.type "StopIteration")→E (.ref e) { s with heap:=k }):wpAny (model prog w) A (jI (.ref c)) Q E s:=by
 obtain ⟨oc,gc,ec,dc⟩:=id hc
 obtain ⟨ot,gt,_,nt,dt⟩:=ht
 unfold jI
 refine wpAny_bind (wpAny_callSpecial?_slot (name:=kE "__next__") hc.typeIs kY (wpAny_call_entry kY hc.typeIs F.entry_tuple_iterator_next ?_ (F.args_tuple_iterator_next_1 _)))
 show wpAny _ _ (field (.ref c) 0>>=_) _ _ s
 refine wpAny_bind (wpAny_field gc dc (x:=.ref t) rfl ?_)
 show wpAny _ _ (if (qy t==jf)=true then _ else _) _ _ s
 rw [if_neg (fun z=>by cases z)]
 show wpAny _ _ (field (.ref c) 1>>=_) _ _ s
 refine wpAny_bind (wpAny_field gc dc (x:=.int i 0) rfl ?_)
 show wpAny _ _ (seqItems? (.ref t)>>=_) _ _ s
 refine wpAny_bind (wpAny_seqItems gt dt ?_)
 simp only [jH,hx]
 refine wpAny_bind (wpAny_rule (wpAny_bind (wpAny_setField gc dc (by simp) ?_)))
 unfold Builtin.SmallTypes.stopIteration
 refine wpAny_bind ?_
 simp only [newExc,newTuple]
 refine wpAny_bind (wpAny_newObj_type ?_ (by size_fits))
 refine wpAny_bind (m:=firstArgMember _ _) (wpAny_of_eq (a:=jf) (by simp only [firstArgMember];rfl) ?_)
 refine wpAny_newObj_type ?_ (by size_fits)
 simp only [raiseNew]
 refine wpAny_bind (wpAny_handled ?_)
 rw [show A.in1.handled=none from hh]
 refine wpAny_bind (wpAny_pure (wpAny_throw (q _ _ ?_ ⟨_,qI _ rfl,rfl⟩)))
 exact ((zu ..).extBut.push _).push _
variable {z TI TO c d t u:Addr} {i j:Nat} {xs ys:Array Value} {a b:Value}
theorem b2L {x y:Value} {Q:Value→Shared→Prop} (D:ZipApart z TI TO c d t u) (hz:IsZip s.heap z TI TO .none) (hI:IsPair s.heap TI (.ref c) (.ref d)) (hO:IsPair s.heap TO a b)
  (hc:s.heap.IsTupleIter c t i) (hd:s.heap.IsTupleIter d u j) (ht:s.heap.IsTuple t xs) (hu:s.heap.IsTuple u ys) (hx:xs[i]?=some x) (hy:ys[j]?=some y)
  (q:∀ k,IsZip k z TI TO (rawInt s.heap.objs.size)→IsPair k TO x y→k.IsTupleIter c t (i+1)→k.IsTupleIter d u (j+1)→IsPair k s.heap.objs.size x y→k.objs.size=s.heap.objs.size+1 →
   (∀ e o,e≠z→e≠TO→e≠c→e≠d→s.heap.get? e=some o→k.get? e=some o)→Q (.ref s.heap.objs.size) { s with heap:=k }) :
  wpAny (model prog w) A (Builtin.«zip.__next__» ⟨[.ref z],[]⟩) (fun fin s'=>∃ v,fin=.done (.ret v)∧Q v s') E s:=by
 show wpAny _ _ (field (.ref z) 2>>=_) _ _ s
 refine wpAny_bind (wpAny_field hz rfl (x:=jR false) rfl ?_)
 show wpAny _ _ (field (.ref z) 3>>=_) _ _ s
 refine wpAny_bind (wpAny_field hz rfl (x:=qy TI) rfl ?_)
 refine wpAny_bind (wpAny_seqItems hI rfl ?_)
 show wpAny _ _ (jt (.ref z)>>=_) _ _ s
 refine wpAny_bind ?_
 unfold jt
 refine wpAny_bind (wpAny_field hz rfl (x:=jf) rfl (wpAny_pure ?_))
 simp only [if_true]
 refine wpAny_bind (wpAny_rule (wpAny_bind (wpAny_field hz rfl (x:=qy TO) rfl (wpAny_bind (wpAny_setField_rec hz (by simp) fun ka za sa=>?_)))))
 replace za:IsZip ka z TI TO .ellipsis:=za
 refine wpAny_bind ?_
 simp only [List.zipIdx_cons,List.zipIdx_nil,List.forIn_cons,List.forIn_nil]
 refine wpAny_bind (wpAny_bind (wpAny_onRaise ?_))
 show wpAny _ _ (jI (.ref c)>>=_) _ _ _
 refine wpAny_bind (tup_next (hc.extBut sa.extBut D.i1z) (ht.extBut sa.extBut D.l1z) hx fun kb cb sb=>wpAny_pure ?_)
 have ob:IsPair kb TO a b:=sb.extBut _ _ D.TOi1 (sa.extBut _ _ D.TOz hO)
 refine wpAny_bind (wpAny_seqItems ob rfl (wpAny_bind (wpAny_updateSeq_pair ob fun kc oc sc=>?_)))
 replace oc:IsPair kc TO x b:=oc
 refine wpAny_bind (wpAny_letGo (wpAny_pure (wpAny_bind (wpAny_bind (wpAny_onRaise ?_)))))
 show wpAny _ _ (jI (.ref d)>>=_) _ _ _
 have dc:kc.IsTupleIter d u j:=((hd.extBut sa.extBut D.i2z).extBut sb.extBut D.i12.symm).extBut sc.extBut D.TOi2.symm
 have uc:kc.IsTuple u ys:=((hu.extBut sa.extBut D.l2z).extBut sb.extBut D.l2i1).extBut sc.extBut D.l2TO
 refine wpAny_bind (tup_next dc uc hy fun kd dd sd=>wpAny_pure ?_)
 have od:IsPair kd TO x b:=sd.extBut _ _ D.TOi2 oc
 refine wpAny_bind (wpAny_seqItems od rfl (wpAny_bind (wpAny_updateSeq_pair od fun ke oe se=>?_)))
 replace oe:IsPair ke TO x y:=oe
 refine wpAny_bind (wpAny_letGo (wpAny_pure (wpAny_pure (wpAny_bind (wpAny_seqItems oe rfl (wpAny_bind (wpAny_newTuple ?_)))))))
 have sz:ke.objs.size=s.heap.objs.size:=by rw [se.1,sd.1,sc.1,sb.1,sa.1]
 have ze:IsZip ke z TI TO .ellipsis:=se.extBut _ _ D.TOz.symm (sd.extBut _ _ D.i2z.symm (sc.extBut _ _ D.TOz.symm (sb.extBut _ _ D.i1z.symm za)))
 have kp:∀ e o,e≠z→e≠TO→e≠c→e≠d→s.heap.get? e=some o→ke.get? e=some o:=fun e o n1 n2 n3 n4 g=>
  se.extBut _ _ n2 (sd.extBut _ _ n4 (sc.extBut _ _ n2 (sb.extBut _ _ n3 (sa.extBut _ _ n1 g))))
 have ce:ke.IsTupleIter c t (i+1):=((cb.extBut sc.extBut D.TOi1.symm).extBut sd.extBut D.i12).extBut se.extBut D.TOi1.symm
 have de:ke.IsTupleIter d u (j+1):=dd.extBut se.extBut D.TOi2.symm
 have zl:z<ke.objs.size:=qH ze
 show wpAny _ _ (vw (.ref z) (.ref ke.objs.size)>>=_) _ _ _
 refine wpAny_bind ?_
 unfold vw
 have zf:IsZip (ke.push { cls:=.type "tuple", data:=.seq #[x,y] }) z TI TO .ellipsis:=qC _ ze
 refine wpAny_bind (wpAny_setField_rec zf (by simp) fun kg zg sg=>?_)
 replace zg:IsZip kg z TI TO (rawInt ke.objs.size):=zg
 refine wpAny_setField_rec zg (by simp) fun kh zh sh=>?_
 replace zh:IsZip kh z TI TO (rawInt ke.objs.size):=zh
 have up:∀ e o,e≠z→ke.get? e=some o→kh.get? e=some o:=fun e o n g=>sh.extBut _ _ n (sg.extBut _ _ n (qC _ g))
 have th:IsPair kh ke.objs.size x y:=sh.extBut _ _ (jK zl) (sg.extBut _ _ (jK zl) (qI _ rfl))
 have lh:kh.objs.size=ke.objs.size+1:=by rw [sh.1,sg.1,qz]
 rw [sz] at zh th lh
 refine wpAny_pure ⟨_,rfl,?_⟩
 show Q (.ref ke.objs.size) _
 rw [sz]
 exact q kh zh (up _ _ D.TOz oe) (ce.at fun o g=>up _ o D.i1z g) (de.at fun o g=>up _ o D.i2z g) th lh fun e o n1 n2 n3 n4 g=>up e o n1 (kp e o n1 n2 n3 n4 g)
theorem b1I {Q:Fin→Shared→Prop} (hh:A.handled=none) (D:ZipApart z TI TO c d t u) (hz:IsZip s.heap z TI TO .none) (hI:IsPair s.heap TI (.ref c) (.ref d)) (hO:IsPair s.heap TO a b)
  (hc:s.heap.IsTupleIter c t i) (hd:s.heap.IsTupleIter d u j) (ht:s.heap.IsTuple t xs) (hu:s.heap.IsTuple u ys) (hend:xs[i]?=none∨ys[j]?=none)
  (q:∀ k e,(∀ f o,f≠z→f≠TO→f≠c→f≠d→s.heap.get? f=some o→k.get? f=some o)→(∃ o,k.get? e=some o∧o.cls=.type "StopIteration")→E (.ref e) { s with heap:=k }) :
  wpAny (model prog w) A (Builtin.«zip.__next__» ⟨[.ref z],[]⟩) Q E s:=by
 show wpAny _ _ (field (.ref z) 2>>=_) _ _ s
 refine wpAny_bind (wpAny_field hz rfl (x:=jR false) rfl ?_)
 show wpAny _ _ (field (.ref z) 3>>=_) _ _ s
 refine wpAny_bind (wpAny_field hz rfl (x:=qy TI) rfl ?_)
 refine wpAny_bind (wpAny_seqItems hI rfl ?_)
 show wpAny _ _ (jt (.ref z)>>=_) _ _ s
 refine wpAny_bind ?_
 unfold jt
 refine wpAny_bind (wpAny_field hz rfl (x:=jf) rfl (wpAny_pure ?_))
 simp only [if_true]
 refine wpAny_bind (wpAny_rule (wpAny_bind (wpAny_field hz rfl (x:=qy TO) rfl (wpAny_bind (wpAny_setField_rec hz (by simp) fun ka za sa=>?_)))))
 replace za:IsZip ka z TI TO .ellipsis:=za
 refine wpAny_bind ?_
 simp only [List.zipIdx_cons,List.zipIdx_nil,List.forIn_cons,List.forIn_nil]
 refine wpAny_bind (wpAny_bind (wpAny_onRaise ?_))
 show wpAny _ _ (jI (.ref c)>>=_) _ _ _
 cases hx:xs[i]? with
 | none=>
  refine wpAny_bind (tup_stop hh (hc.extBut sa.extBut D.i1z) (ht.extBut sa.extBut D.l1z) hx fun kb e sb he=>?_)
  obtain ⟨oe,ge,ee⟩:=he
  have zb:IsZip kb z TI TO .ellipsis:=sb _ _ D.i1z.symm za
  have ne:e≠z:=fun x=>by rw [x,zb] at ge;cases ge;simp at ee
  exact wpAny_setField_rec zb (by simp) fun kc _ sc=>q kc e (fun f o n1 _ n3 _ g=>sc.extBut _ _ n1 (sb _ _ n3 (sa.extBut _ _ n1 g))) ⟨oe,sc.extBut _ _ ne ge,ee⟩
 | some x=>
  have hy:ys[j]?=none:=by
   rcases hend with h | h
   ·rw [hx] at h;cases h
   ·exact h
  refine wpAny_bind (tup_next (hc.extBut sa.extBut D.i1z) (ht.extBut sa.extBut D.l1z) hx fun kb cb sb=>wpAny_pure ?_)
  have ob:IsPair kb TO a b:=sb.extBut _ _ D.TOi1 (sa.extBut _ _ D.TOz hO)
  refine wpAny_bind (wpAny_seqItems ob rfl (wpAny_bind (wpAny_updateSeq_pair ob fun kc oc sc=>?_)))
  refine wpAny_bind (wpAny_letGo (wpAny_pure (wpAny_bind (wpAny_bind (wpAny_onRaise ?_)))))
  show wpAny _ _ (jI (.ref d)>>=_) _ _ _
  have dc:kc.IsTupleIter d u j:=((hd.extBut sa.extBut D.i2z).extBut sb.extBut D.i12.symm).extBut sc.extBut D.TOi2.symm
  have uc:kc.IsTuple u ys:=((hu.extBut sa.extBut D.l2z).extBut sb.extBut D.l2i1).extBut sc.extBut D.l2TO
  refine wpAny_bind (tup_stop hh dc uc hy fun kd e sd he=>?_)
  obtain ⟨oe,ge,ee⟩:=he
  have zd:IsZip kd z TI TO .ellipsis:=sd _ _ D.i2z.symm (sc.extBut _ _ D.TOz.symm (sb.extBut _ _ D.i1z.symm za))
  have ne:e≠z:=fun x=>by rw [x,zd] at ge;cases ge;simp at ee
  exact wpAny_setField_rec zd (by simp) fun ke _ se=>q ke e (fun f o n1 n2 n3 n4 g=>se.extBut _ _ n1 (sd _ _ n4 (sc.extBut _ _ n2 (sb.extBut _ _ n3 (sa.extBut _ _ n1 g))))) ⟨oe,se.extBut _ _ ne ge,ee⟩
theorem next_tt {x y:Value} {Q:Option Value→Shared→Prop} (D:ZipApart z TI TO c d t u) (hz:IsZip s.heap z TI TO .none) (hI:IsPair s.heap TI (.ref c) (.ref d)) (hO:IsPair s.heap TO a b)
  (hc:s.heap.IsTupleIter c t i) (hd:s.heap.IsTupleIter d u j) (ht:s.heap.IsTuple t xs) (hu:s.heap.IsTuple u ys) (hx:xs[i]?=some x) (hy:ys[j]?=some y)
  (q:∀ k,IsZip k z TI TO (rawInt s.heap.objs.size)→IsPair k TO x y→k.IsTupleIter c t (i+1)→k.IsTupleIter d u (j+1)→IsPair k s.heap.objs.size x y→k.objs.size=s.heap.objs.size+1 →
   (∀ e o,e≠z→e≠TO→e≠c→e≠d→s.heap.get? e=some o→k.get? e=some o)→Q (some (.ref s.heap.objs.size)) { s with heap:=k }):wpAny (model prog w) A (pyNext (.ref z)) Q E s:=by
 have ty:s.TypeIs (.ref z) "zip" := ⟨_,hz,rfl⟩
 unfold pyNext
 exact wpAny_bind (wpAny_attempt (wpAny_callSpecial?_slot (name:=kE "__next__") ty vh (wpAny_call_entry vh ty F.entry_zip_next (b2L D hz hI hO hc hd ht hu hx hy fun k a1 a2 a3 a4 a5 a6 a7=>wpAny_pure (q k a1 a2 a3 a4 a5 a6 a7)) (F.args_zip_next_1 _))))
theorem last_tt {Q:Option Value→Shared→Prop} (hh:A.handled=none) (D:ZipApart z TI TO c d t u) (hz:IsZip s.heap z TI TO .none) (hI:IsPair s.heap TI (.ref c) (.ref d)) (hO:IsPair s.heap TO a b)
  (hc:s.heap.IsTupleIter c t i) (hd:s.heap.IsTupleIter d u j) (ht:s.heap.IsTuple t xs) (hu:s.heap.IsTuple u ys) (hend:xs[i]?=none∨ys[j]?=none)
  (q:∀ k,(∀ f o,f≠z→f≠TO→f≠c→f≠d→s.heap.get? f=some o→k.get? f=some o)→Q none { s with heap:=k }):wpAny (model prog w) A (pyNext (.ref z)) Q E s:=by
 have ty:s.TypeIs (.ref z) "zip" := ⟨_,hz,rfl⟩
 unfold pyNext
 refine wpAny_bind (wpAny_attempt (wpAny_callSpecial?_slot (name:=kE "__next__") ty vh (wpAny_call_entry vh ty F.entry_zip_next (b1I hh D hz hI hO hc hd ht hu hend fun k e hk he=>?_) (F.args_zip_next_1 _))))
 obtain ⟨oe,ge,ee⟩:=he
 exact wpAny_bind (wpAny_isInstance (T := "StopIteration") (b:=true) ⟨oe,ge,ee⟩ isSubtype_stop (wpAny_pure (q _ hk)))
end
abbrev itT (l:Addr):Obj:={ cls:=.type "tuple_iterator", data:=.fields #[.ref l,.int 0 0] }
abbrev zA (h:Heap) (l:Addr):Heap:=h.push (itT l)
abbrev zB (h:Heap) (l m:Addr):Heap:=(zA h l).push (itT m)
abbrev zC (h:Heap) (l m:Addr):Heap:=(zB h l m).push { cls:=.type "tuple", data:=.seq #[.ref h.objs.size,.ref (zA h l).objs.size] }
abbrev zD (h:Heap) (l m:Addr):Heap:=(zC h l m).push { cls:=.type "tuple", data:=.seq #[.none,.none] }
abbrev zE (h:Heap) (l m:Addr):Heap:=(zD h l m).push { cls:=.type "zip", data:=.fields #[.none,.bool false,.bool false,.ref (zB h l m).objs.size,.ref (zC h l m).objs.size] }
theorem b5f (l m:Addr) (xs ys:Array Value):Meets (Builtin.«zip.__new__» ⟨[.type "zip", .ref l,.ref m],[]⟩) (fun _ R s=>s.heap.IsTuple l xs∧s.heap.IsTuple m ys∧R (.ok (.ret (.ref (zD s.heap l m).objs.size))) { s with heap:=zE s.heap l m }):=
 .of_wp fun prog w A R s h=>by
  obtain ⟨hp,g,d,tk,os⟩:=s
  obtain ⟨ha,hb,h⟩:=h
  have sub:=sub_zip
  have tA:Heap.IsTuple (Shared.heap ⟨hp,g,d,tk,os⟩) l xs:=ha
  have tB:Heap.IsTuple (Shared.heap ⟨hp.push (itT l),g,d,tk,os⟩) m ys:=Heap.IsTuple.push hb _
  wp_walk using wpAny_pyIter_tuple tA,wpAny_pyIter_tuple tB
  exact ⟨_,rfl,h⟩
section
variable {prog:Program} {w:World} {A:Around} {E:Value→Shared→Prop} {s:Shared}
theorem call_tt {l m:Addr} {xs ys:Array Value} {Q:Value→Shared→Prop} (ha:s.heap.IsTuple l xs) (hb:s.heap.IsTuple m ys)
  (q:∀ k,IsZip k (s.heap.objs.size+4) (s.heap.objs.size+2) (s.heap.objs.size+3) .none→IsPair k (s.heap.objs.size+2) (.ref s.heap.objs.size) (.ref (s.heap.objs.size+1))→IsPair k (s.heap.objs.size+3) .none .none →
   k.IsTupleIter s.heap.objs.size l 0→k.IsTupleIter (s.heap.objs.size+1) m 0→(∀ c o,s.heap.get? c=some o→k.get? c=some o)→Q (.ref (s.heap.objs.size+4)) { s with heap:=k }) :
  wpAny (model prog w) A (call (.type "zip") [.ref l,.ref m]) Q E s:=by
 refine callType_new F.called_zip (by decide) (F.typeCall_zip_2 _ _) (F.newCall_zip_2 _ _) (fun obj=>F.args_object_init_3 obj _ _) F.entry_zip_new (b5f l m xs ys) ⟨ha,hb,?_⟩
 have n1:(zA s.heap l).objs.size=s.heap.objs.size+1:=qz ..
 have n2:(zB s.heap l m).objs.size=s.heap.objs.size+2:=by rw [qz,n1]
 have n3:(zC s.heap l m).objs.size=s.heap.objs.size+3:=by rw [qz,n2]
 have n4:(zD s.heap l m).objs.size=s.heap.objs.size+4:=by rw [qz,n3]
 have v5:(zE s.heap l m).get? (zD s.heap l m).objs.size=some _:=qI _ rfl
 have v4:(zE s.heap l m).get? (zC s.heap l m).objs.size=some _:=qC _ (qI _ rfl)
 have v3:(zE s.heap l m).get? (zB s.heap l m).objs.size=some _:=qC _ (qC _ (qI _ rfl))
 have v2:(zE s.heap l m).get? (zA s.heap l).objs.size=some _:=qC _ (qC _ (qC _ (qI _ rfl)))
 have v1:(zE s.heap l m).get? s.heap.objs.size=some _:=qC _ (qC _ (qC _ (qC _ (qI _ rfl))))
 show _∧_
 rw [n2,n3,n4] at v5
 rw [n1,n2] at v3
 rw [n3] at v4
 rw [n1] at v2
 rw [n4]
 exact ⟨⟨_,v5,rfl⟩,q _ v5 v3 v4 ⟨_,v1,rfl,rfl⟩ ⟨_,v2,rfl,rfl⟩ fun c o g=>qC _ (qC _ (qC _ (qC _ (qC _ g))))⟩
end
end L2.ZT
namespace L2.L3
open PySem PySem.Spec PyProof.Rows
def Itt (K:qB) (l1 l2:Addr):It:=
 ⟨fun i H=>∃ xs ys x y,SqT K H l1 xs∧SqT K H l2 ys∧xs[i]?=some x∧ys[i]?=some y,
 fun i H v H'=>∃ T x y,H T=none∧v=.ref T∧H'=upd H T (.tup [x,y])∧(∀ xs,SqT K H l1 xs→xs[i]?=some x)∧∀ ys,SqT K H l2 ys→ys[i]?=some y,
 fun i H=>∃ xs ys,SqT K H l1 xs∧SqT K H l2 ys∧(xs.length≤i∨ys.length≤i)⟩
def b7J (z TI TO i1 i2 l1 l2:Addr) (i:Nat) (h:Heap):Prop:=IsZip h z TI TO .none∧IsPair h TI (.ref i1) (.ref i2)∧(∃ a b,IsPair h TO a b)∧h.IsTupleIter i1 l1 i∧h.IsTupleIter i2 l2 i
def b4c (fa fb:EF):AF:=fun ρ=>match fa ρ,fb ρ with
 | some (.ok (.tuple a)),some (.ok (.tuple b))=>some (.ok (a2R a b))
 | _,_=>none
theorem b1D {P:Program} {w:World} {K:qB} {elts:List Expr} {k0:Nat} {p0:Pos} {z TI TO i1 i2 l1 l2:Addr} (D:ZipApart z TI TO i1 i2 l1 l2):Turn P w K (.Tuple elts k0 p0) (Itt K l1 l2) [z,TI,TO,i1,i2] z (b7J z TI TO i1 i2 l1 l2) where
 mem:=by simp
 obj:=fun i h ⟨hz,hTI,⟨a,b,hTO⟩,⟨o1,g1,_,d1⟩,⟨o2,g2,_,d2⟩⟩ c hc=>by
  simp only [qF,qe,or_false] at hc
  rcases hc with rfl | rfl | rfl | rfl | rfl
  ·exact ⟨_,hz,fun v q=>by cases q⟩
  ·exact ⟨_,hTI,fun v q=>by cases q⟩
  ·exact ⟨_,hTO,fun v q=>by cases q⟩
  ·exact ⟨o1,g1,fun v q=>by rw [d1] at q;cases q⟩
  ·exact ⟨o2,g2,fun v q=>by rw [d2] at q;cases q⟩
 keep:=fun i h h' ⟨hz,hTI,⟨a,b,hTO⟩,h1,h2⟩ kp=>⟨kp z (by simp) _ hz,kp TI (by simp) _ hTI,⟨a,b,kp TO (by simp) _ hTO⟩,h1.at fun o e=>kp i1 (by simp) o e,h2.at fun o e=>kp i2 (by simp) o e⟩
 item:=by
  intro X hP hw hK hc i pins s σ H E I hf ⟨hz,hTI,⟨a,b,hTO⟩,h1,h2⟩ ⟨xs,ys,x,y,q1,q2,ex,ey⟩
  subst hP hw hK
  obtain ⟨its,r1,p1,_⟩:=I.tuple q1
  obtain ⟨its2,r2,p2,_⟩:=I.tuple q2
  obtain ⟨u,eu,ru⟩:=r1.get ex
  obtain ⟨v,ev,rv⟩:=r2.get ey
  refine ZT.next_tt D hz hTI hTO h1 h2 p1 p2 (x:=u) (y:=v) (by rw [qt];exact eu) (by rw [qt];exact ev) fun h' a1 a2 a3 a4 a5 a6 hk=>⟨_,rfl,?_⟩
  refine wpAny_letOwnedTupleGo_zip a1 fun h2' hz' hs'=>?_
  have hk2:∀ c o,c∉[z,TO,i1,i2]→s.heap.get? c=some o→h2'.get? c=some o:=fun c o hc e=>by
   simp only [qF,qe,or_false,not_or] at hc
   exact hs'.extBut c o hc.1 (hk c o hc.1 hc.2.1 hc.2.2.1 hc.2.2.2 e)
  have nT:s.heap.objs.size≠z:=jK (qH hz)
  have new:bY X.prog X.w (upd H s.heap.objs.size (.tup [x,y])) h2' s.heap.objs.size (.tup [x,y]):=
   ⟨by show 2≤sizeLine;decide,[u,v],.cons ru (.cons rv .nil),⟨_,hs'.extBut _ _ nT a5,rfl,_,rfl⟩⟩
  have hfT:H s.heap.objs.size=none:=I.hok.fresh (qN _)
  refine ⟨.ref s.heap.objs.size,upd H s.heap.objs.size (.tup [x,y]),Inv.turnNew (s:=s) (h':=h2') (t':=s.toks) [z,TO,i1,i2] I (fun c hc=>hf c (by simp only [qF,qe,or_false] at hc ⊢;rcases hc with h | h | h | h<;>simp [h])) hk2 (qN _) new,rfl,
   ⟨_,x,y,hfT,rfl,rfl,fun xs' q=>by rw [I.tuple_inj q q1];exact ex,fun ys' q=>by rw [I.tuple_inj q q2];exact ey⟩,⟨hz',hs'.extBut _ _ D.TIz (hk _ _ D.TIz D.TITO D.TIi1 D.TIi2 hTI),⟨_,_,hs'.extBut _ _ D.TOz a2⟩,a3.extBut hs'.extBut D.i1z,a4.extBut hs'.extBut D.i2z⟩,fun c hc=>?_⟩
  obtain ⟨o,e,_⟩:∃ o,s.heap.get? c=some o∧True:=by
   simp only [qF,qe,or_false] at hc
   rcases hc with rfl | rfl | rfl | rfl | rfl
   ·exact ⟨_,hz,trivial⟩
   ·exact ⟨_,hTI,trivial⟩
   ·exact ⟨_,hTO,trivial⟩
   ·obtain ⟨o,g,_⟩:=h1;exact ⟨o,g,trivial⟩
   ·obtain ⟨o,g,_⟩:=h2;exact ⟨o,g,trivial⟩
  rw [aH (qW (qH e))]
  exact (hf c hc).1
 done:=by
  intro X hP hw hK hc i pins s σ H E I hf ⟨hz,hTI,⟨a,b,hTO⟩,h1,h2⟩ ⟨xs,ys,q1,q2,hend⟩
  subst hP hw hK
  obtain ⟨its,r1,p1,_⟩:=I.tuple q1
  obtain ⟨its2,r2,p2,_⟩:=I.tuple q2
  have l1':=r1.length
  have l2':=r2.length
  refine ZT.last_tt (I.ok.hd hc) D hz hTI hTO h1 h2 p1 p2 ?_ fun h' hk=>⟨rfl,Inv.turnAll (t':=s.toks) [z,TO,i1,i2] I (fun c hc=>hf c (by simp only [qF,qe,or_false] at hc ⊢;rcases hc with h | h | h | h<;>simp [h])) fun c o hc e=>?_⟩
  ·rcases hend with he | he
   ·exact .inl (by rw [qt];exact qY (by omega))
   ·exact .inr (by rw [qt];exact qY (by omega))
  ·simp only [qF,qe,or_false,not_or] at hc
   exact hk c o hc.1 hc.2.1 hc.2.2.1 hc.2.2.2 e
 self:=fun A i s Q E st h=>wpAny_pyIter_zip st.1 h
theorem b1C {K:qB} {G:Hp} {l1 l2:Addr} {xs ys:List V} {ds es:List PyData} (h1:SqT K G l1 xs) (r1:RepAll K G xs ds) (h2:SqT K G l2 ys) (r2:RepAll K G ys es):Walk K (Itt K l1 l2) G (a2R ds es):=by
 intro i G' H' s1 s2
 have a1:=gM (s1.trans s2) h1
 have a2:=gM (s1.trans s2) h2
 unfold a2R
 refine ⟨fun d e=>?_,fun hl=>⟨xs,ys,a1,a2,?_⟩⟩
 ·rw [qP] at e
  obtain ⟨⟨p,q⟩,e1,rfl⟩:=qK.mp e
  rw [zm] at e1
  obtain ⟨v,ev,rv⟩:=r1.get e1.1
  obtain ⟨u,eu,ru⟩:=r2.get e1.2
  refine ⟨⟨xs,ys,v,u,a1,a2,ev,eu⟩,fun x H2 ⟨T,x',y',hT,ex,eH,b1,b2⟩=>?_⟩
  subst ex eH
  have b3:=b1 xs a1
  have b4:=b2 ys a2
  rw [ev] at b3
  rw [eu] at b4
  cases b3
  cases b4
  have hG:G' T=none:=s2.free hT
  exact ⟨upd G' T (.tup [v,u]),.put s2 hT,.tuple (.of aL) (.cons ((rv.mono s1).mono (bJ hG)) (.cons ((ru.mono s1).mono (bJ hG)) .nil))⟩
 ·rw [qD,List.length_zip] at hl
  have e1:=r1.length
  have e2:=r2.length
  omega
section
variable {X:Cx} {a b:Expr} {elts:List Expr} {k0:Nat} {p0 pos p:Pos} {fa fb:EF}
theorem b5Q (hm:X.mg "zip" = none) (ha:DE X a fa) (hb:DE X b fb) (hv:bootBuiltins "zip" = some (.type "zip"):=by decide +kernel) (hs:starEach [a,b] X.env=(false,eval a X.env)::starEach [b] X.env:=by rfl) (hs2:starEach [b] X.env=(false,eval b X.env)::starEach [] X.env:=by rfl)
  (hpl:(backTo pos (starEach [b] X.env)).any (·.1)=false:=by rfl) (hg:Gl X "zip":=by rfl):DI X (.Tuple elts k0 p0) (.Call (.Name "zip" p) [a,b] [] pos) (b4c fa fb):=a6R fun ρ r e=>by
 unfold b4c at e
 split at e
 ·rename_i as bs e1 e3
  refine ⟨_,(qA e).symm,⟨?_⟩⟩
  intro pins s σ H R I ⟨H0,G₀,G,S,q⟩
  have pa:=fE (ha.pd e1) (fE (hb.pd e3) mE hs2) hs
  refine wpAny_Call_Name_kw (iZ I hg hm hv ?_ (by decide) (by decide))
  refine jS (thn (pa.run H0 G₀ G pos pins s σ H (fun vs H'=>∃ G',Grow G H G' H'∧RepAll X.K G' vs [.tuple as,.tuple bs]) I S fun vs G' H' g r=>⟨G',g,r⟩) fun us s1 ⟨vs,H1,I1,r1,G1,g1,w1⟩=>?_) hs hpl
  cases w1 with
  | cons wa wn=>cases wn with
   | cons wb wn=>
    cases wn
    cases wa with
    | tuple hq ra=>cases wb with
     | tuple hq2 rb=>
      obtain ⟨u,v,rfl,ru,rv⟩:=vals2 r1
      cases ru;cases rv
      obtain ⟨its,r1',p1,_⟩:=I1.tuple (gM g1.sub hq)
      obtain ⟨its2,r2',p2,_⟩:=I1.tuple (gM g1.sub hq2)
      refine ZT.call_tt p1 p2 fun h' z1 z2 z3 z4 z5 hk=>?_
      refine wpAny_pyIter_zip z1 ?_
      obtain ⟨o1,g1',_⟩:=p1
      obtain ⟨o2,g2',_⟩:=p2
      refine ⟨s1.heap.objs.size+4,[s1.heap.objs.size+4,s1.heap.objs.size+2,s1.heap.objs.size+3,s1.heap.objs.size,s1.heap.objs.size+1],_,_,H1,rfl,I1.kept (h':=h') (t':=s1.toks) (fun b o e=>hk b o e),b1D (zipApart_new (qH g1') (qH g2')),⟨z1,z2,⟨_,_,z3⟩,z4,z5⟩,fun c hc=>?_,q _ G1 H1 g1 (b1C hq ra hq2 rb)⟩
      have ge:s1.heap.objs.size≤c:=by
       simp only [qF,qe,or_false] at hc
       rcases hc with h | h | h | h | h<;>rw [h]<;>first | exact vB _ _ | exact qN _
      exact I1.fpOk ge (I1.hok.fresh ge)
 ·cases e
def a8G (fa fb:EF):AF:=fun ρ=>match a8H fa fb ρ with
 | some r=>some r
 | none=>b4c fa fb ρ
theorem b3g (hm:X.mg "zip" = none) (ha:DE X a fa) (hb:DE X b fb) (hs:starEach [a,b] X.env=(false,eval a X.env)::starEach [b] X.env:=by rfl) (hs2:starEach [b] X.env=(false,eval b X.env)::starEach [] X.env:=by rfl)
  (hpl:(backTo pos (starEach [b] X.env)).any (·.1)=false:=by rfl) (hg:Gl X "zip":=by rfl):DI X (.Tuple elts k0 p0) (.Call (.Name "zip" p) [a,b] [] pos) (a8G fa fb):=⟨fun pins s σ H R I ⟨ρ,r,H0,G₀,G,e,S,q⟩=>by
 unfold a8G at e
 split at e
 ·rename_i r' e1
  cases (qA e)
  exact (b5R hm ha hb (by decide +kernel) hs hs2 hpl hg).run pins s σ H R I ⟨ρ,_,H0,G₀,G,e1,S,q⟩
 ·exact (b5Q hm ha hb (by decide +kernel) hs hs2 hpl hg).run pins s σ H R I ⟨ρ,_,H0,G₀,G,e,S,q⟩⟩
end
end L2.L3
namespace L2.L3
open PySem
theorem a2L {α β:Type} {m:Mm α} {a:α} {k:α→Mm β} (h:m=some (.ok a)):bnd m k=k a:=by rw [h];rfl
theorem gI {α:Type} {m:Mm α} {ρ:List Ent} {a:α} {k:α→Option So} (h:m=some (.ok a)):bns m ρ k=k a:=by rw [h];rfl
theorem a1h {α:Type} {t:Tg} {ρb:List Ent} {ft:TF} {fe:EF} (φ:α→PyData) (ρx:α→List Ent) (c:α→Bool) (v:α→PyData):∀ (xs:List α),(∀ x∈xs,tgD t ρb (φ x)=some (ρx x))→(∀ x∈xs,ft (ρx x)=some (.ok (c x)))→(∀ x∈xs,c x=true→fe (ρx x)=some (.ok (v x))) →
  xW t ρb ft fe (xs.map φ)=some ((xs.filter c).map v)
 | [],_,_,_=>rfl
 | x::xs,h1,h2,h3=>by
  have ih:=a1h φ ρx c v xs (fun y hy=>h1 y (qE _ hy)) (fun y hy=>h2 y (qE _ hy)) (fun y hy=>h3 y (qE _ hy))
  have e1:=h1 x qT
  have e2:=h2 x qT
  rw [qG,xW,e1]
  dsimp only
  rw [e2]
  cases hc:c x with
  | true=>
   have e3:=h3 x qT hc
   dsimp only
   rw [e3]
   dsimp only
   rw [ih,qg hc]
   rfl
  | false=>
   dsimp only
   rw [ih,qo (by rw [hc];decide)]
theorem dC {α:Type} {t:Tg} {cap:List (Option Nat)} {fi:AF} {ft:TF} {fe:EF} {ρ:List Ent} (φ:α→PyData) (ρx:α→List Ent) (c:α→Bool) (v:α→PyData) (xs:List α) (hi:fi ρ=some (.ok (xs.map φ))) (hz:xs.length≤100000)
  (h1:∀ x∈xs,tgD t (dX cap ρ) (φ x)=some (ρx x)) (h2:∀ x∈xs,ft (ρx x)=some (.ok (c x))) (h3:∀ x∈xs,c x=true→fe (ρx x)=some (.ok (v x))) :
  cE t cap fi ft fe ρ=some (.ok (.list ((xs.filter c).map v))):=by
 unfold cE
 rw [a2L hi,qD,if_pos (by unfold fK;exact decide_eq_true hz),a1h φ ρx c v xs h1 h2 h3]
 rfl
theorem filter_all {α:Type} {c:α→Bool} {xs:List α} (h:∀ x∈xs,c x=true):xs.filter c=xs:=List.filter_eq_self.mpr h
theorem cK {α:Type} {t:Tg} {cap:List (Option Nat)} {fi:AF} {fe:EF} {ρ:List Ent} (φ:α→PyData) (ρx:α→List Ent) (v:α→PyData) (xs:List α) (hi:fi ρ=some (.ok (xs.map φ))) (hz:xs.length≤100000)
  (h1:∀ x∈xs,tgD t (dX cap ρ) (φ x)=some (ρx x)) (h3:∀ x∈xs,fe (ρx x)=some (.ok (v x))) :
  cE t cap fi ttT fe ρ=some (.ok (.list (xs.map v))):=by
 rw [dC φ ρx (fun _=>true) v xs hi hz h1 (fun _ _=>rfl) (fun x hx _=>h3 x hx),filter_all (fun _ _=>rfl)]
section
variable {α β:Type} {ρ:List Ent} {fa fb fc fd:EF} {ft fu:TF} {aa:AF} {d e:PyData} {i j k:Int}
@[simp] theorem bV (a:α) (k:α→Mm β):bnd (some (.ok a)) k=k a:=rfl
@[simp] theorem b9g (c:Str) (k:α→Mm β):bnd (some (.ex c)) k=some (.ex c):=rfl
@[simp] theorem lM (a:α) (k:α→Option So):bns (some (.ok a)) ρ k=k a:=rfl
@[simp] theorem b9f (c:Str) (k:α→Option So):bns (some (.ex c)) ρ k=some (.xc c ρ):=rfl
@[simp] theorem yA (a:α):lft (some a)=some (.ok a):=rfl
@[simp] theorem b3X:cst d ρ=some (.ok d):=rfl
@[simp] theorem wQ (d:PyData) (r:List Ent):var 0 (.val d::r)=some (.ok d):=rfl
@[simp] theorem a2T (n:Nat) (x:Ent) (r:List Ent):var (n+1) (x::r)=var n r:=rfl
@[simp] theorem a6h (g:PyData→PyData→Option PyData):op2 g fa fb ρ=bnd (fa ρ) fun x=>bnd (fb ρ) fun y=>lft (g x y):=rfl
@[simp] theorem a9J (g:PyData→Option PyData):op1 g fa ρ=bnd (fa ρ) fun x=>lft (g x):=rfl
@[simp] theorem pV:aG ρ=some (.ok []):=rfl
@[simp] theorem gA:aC fa aa ρ=bnd (fa ρ) fun x=>bnd (aa ρ) fun xs=>some (.ok (x::xs)):=rfl
@[simp] theorem wR:fN aa ρ=bnd (aa ρ) fun xs=>lft (a1e xs):=rfl
@[simp] theorem b5m:gP aa ρ=bnd (aa ρ) fun xs=>lft (a1f xs):=rfl
@[simp] theorem b7Z (n:Nat):fK n=decide (n≤100000):=rfl
@[simp] theorem a6m (ds:List PyData):a1e ds=if ds.length≤100000 then some (.tuple ds) else none:=by unfold a1e fK;by_cases h:ds.length≤100000<;>simp [h]
@[simp] theorem b7B (ds:List PyData):a1f ds=if ds.length≤100000 then some (.list ds) else none:=by unfold a1f fK;by_cases h:ds.length≤100000<;>simp [h]
@[simp] theorem a0c (g:PyData→PyData→Option Bool):mV g fa fb ρ=bnd (fa ρ) fun x=>bnd (fb ρ) fun y=>lft ((g x y).map .bool):=rfl
@[simp] theorem b1j (g:PyData→PyData→Option Bool):cH g fa fb ρ=bnd (fa ρ) fun x=>bnd (fb ρ) fun y=>lft (g x y):=rfl
theorem a6u (t u:Bool):(if t=true then (some (Re.ok u):Mm Bool) else some (.ok false))=some (.ok (t&&u)):=by cases t<;>rfl
theorem b0q (t u:Bool):(if t=true then (some (Re.ok (zR u)):Mm PyData) else some (.ok (.bool false)))=some (.ok (.bool (t&&u))):=by cases t<;>rfl
@[simp] theorem b8E (g g':PyData→PyData→Option Bool):b6b g g' fa fb fc ρ=bnd (fa ρ) fun x=>bnd (fb ρ) fun y=>bnd (lft (g x y)) fun t=>if t then bnd (fc ρ) fun z=>lft ((g' y z).map .bool) else some (.ok (.bool false)):=rfl
@[simp] theorem b8D (g g':PyData→PyData→Option Bool):a3Z g g' fa fb fc ρ=bnd (fa ρ) fun x=>bnd (fb ρ) fun y=>bnd (lft (g x y)) fun t=>if t then bnd (fc ρ) fun z=>lft (g' y z) else some (.ok false):=rfl
@[simp] theorem a8S:rB fa ρ=bnd (fa ρ) fun x=>lft (a2W x):=rfl
@[simp] theorem b4o (b:Bool):a2W (.bool b)=some b:=rfl
@[simp] theorem b7H (ds:List PyData):a2W (.list ds)=some (!ds.isEmpty):=rfl
@[simp] theorem b7F (ds:List PyData):a2W (.tuple ds)=some (!ds.isEmpty):=rfl
@[simp] theorem b7I (i:Int):a2W (.int i)=some (i != 0):=rfl
@[simp] theorem b7G:a2W .none=some false:=rfl
@[simp] theorem b5a:a2d ft ρ=bnd (ft ρ) fun t=>some (.ok (!t)):=rfl
@[simp] theorem b8h:b5b fa ρ=bnd (fa ρ) fun x=>lft ((oW x).map fun t=>.bool (!t)):=rfl
@[simp] theorem b7E (b:Bool):oW (.bool b)=some b:=rfl
@[simp] theorem b5C (i:Int):intD (.int i)=some i:=rfl
@[simp] theorem b8b (i:Str):a7k (.str i)=some i:=rfl
@[simp] theorem b1v:a0D ft fu ρ=bnd (ft ρ) fun t=>if t then fu ρ else some (.ok false):=rfl
@[simp] theorem b6R:orT ft fu ρ=bnd (ft ρ) fun t=>if t then some (.ok true) else fu ρ:=rfl
@[simp] theorem a5G:a0l fa fb ρ=bnd (fa ρ) fun x=>bnd (lft (oW x)) fun t=>if t then fb ρ else some (.ok (.bool false)):=rfl
@[simp] theorem b8Q:orE fa fb ρ=bnd (fa ρ) fun x=>bnd (lft (oW x)) fun t=>if t then some (.ok (.bool true)) else fb ρ:=rfl
@[simp] theorem b9b:ifE ft fa fb ρ=bnd (ft ρ) fun t=>if t then fa ρ else fb ρ:=rfl
@[simp] theorem a5C (g:List PyData→Option PyData):cI g aa ρ=bnd (aa ρ) fun xs=>lft (g xs):=rfl
@[simp] theorem sK (F:List PyData→Mm PyData):aU F aa ρ=bnd (aa ρ) fun ds=>(match F ds with | some (.ok d)=>some (.ok d) | _=>none):=rfl
@[simp] theorem b1A:cU (.int i) (.int j)=some (.int (i+j)):=rfl
@[simp] theorem b8a:a9e (.int i) (.int j)=some (.int (i - j)):=rfl
@[simp] theorem b8R:xU (.int i)=some (.int (-i)):=rfl
@[simp] theorem b6g (a b:List PyData):cU (.tuple a) (.tuple b)=if a.length+b.length≤100000 then some (.tuple (a++b)) else none:=by
 show (if fK (a.length+b.length)=true then _ else _)=_
 by_cases h:a.length+b.length≤100000<;>simp [h]
@[simp] theorem b1z (a b:List PyData):cU (.list a) (.list b)=if a.length+b.length≤100000 then some (.list (a++b)) else none:=by
 show (if fK (a.length+b.length)=true then _ else _)=_
 by_cases h:a.length+b.length≤100000<;>simp [h]
@[simp] theorem b8T:ltD (.int i) (.int j)=some (decide (i<j)):=rfl
@[simp] theorem b7e:leD (.int i) (.int j)=some (decide (i≤j)):=rfl
@[simp] theorem b3U:gtD (.int i) (.int j)=some (decide (j<i)):=rfl
@[simp] theorem b9c:geD (.int i) (.int j)=some (decide (j≤i)):=rfl
@[simp] theorem b7p:eqD (.int i) (.int j)=some (decide (i=j)):=rfl
@[simp] theorem a9R:neD (.int i) (.int j)=some (!decide (i=j)):=rfl
@[simp] theorem b9d (a b:Str):eqD (.str a) (.str b)=some (decide (a=b)):=rfl
@[simp] theorem b6X (a b:Str):neD (.str a) (.str b)=some (!decide (a=b)):=rfl
@[simp] theorem b9e (a b:Bool):eqD (.bool a) (.bool b)=some (decide (a=b)):=rfl
@[simp] theorem b8S (a b:Bool):neD (.bool a) (.bool b)=some (!decide (a=b)):=rfl
@[simp] theorem b5h:a4P (.int i) (.int j)=if 0<j then some (.int (i % j)) else none:=rfl
@[simp] theorem b8A:b2V (.int i) (.int j)=if 0<j∧j<1073741824 then some (.int (i / j)) else none:=rfl
theorem a2g (h1:-(2 ^ 64)<j) (h2:j<2 ^ 64):mH (.int i) (.int j)=some (.int (i*j)):=by
 show (if (iW i || iW j)=true then _ else _)=_
 rw [if_pos];simp [iW];right;omega
theorem a6k (h1:-(2 ^ 64)<i) (h2:i<2 ^ 64):mH (.int i) (.int j)=some (.int (i*j)):=by
 show (if (iW i || iW j)=true then _ else _)=_
 rw [if_pos];simp [iW];left;omega
@[simp] theorem b7c (xs:List PyData):yB [.list xs]=some (.int xs.length):=rfl
@[simp] theorem b8W (xs:List PyData):yB [.tuple xs]=some (.int xs.length):=rfl
@[simp] theorem b8l:a9Z [.int i,.int j]=some (.int (max i j)):=rfl
@[simp] theorem b8k:a7L [.int i,.int j]=some (.int (min i j)):=rfl
@[simp] theorem a0I (xs:List PyData):pZ [.list xs]=some (.tuple xs):=rfl
@[simp] theorem b8O (xs:List PyData):pZ [.tuple xs]=some (.tuple xs):=rfl
@[simp] theorem b8V (xs:List PyData):b7b [.list xs]=some (.list xs):=rfl
@[simp] theorem b8U (xs:List PyData):b7b [.tuple xs]=some (.list xs):=rfl
@[simp] theorem b9a (b:Bool):a5d [.bool b]=some (.int (if b then 1 else 0)):=rfl
theorem b3J (ns:List Int):a4x [.list (ns.map .int)]=some (.int ns.sum):=by show (dH intD (ns.map .int)).map _=_;rw [a1o];rfl
@[simp] theorem a9h:cY fa ρ=bnd (fa ρ) fun x=>lft (wH x):=rfl
@[simp] theorem b4v (ds:List PyData):wH (.list ds)=some ds:=rfl
@[simp] theorem b8d (ds:List PyData):wH (.tuple ds)=some ds:=rfl
@[simp] theorem b8X (ds:List PyData):ixD (.tuple ds) (.int i)=atI ds i:=rfl
@[simp] theorem b8Y (ds:List PyData):ixD (.list ds) (.int i)=atI ds i:=rfl
theorem b6f {xs:List α} (n:Nat):atI xs (n:Int)=xs[n]?:=by
 unfold atI ixN
 rw [if_pos (by omega)]
 by_cases h:n<xs.length
 ·rw [if_pos (by omega)];simp
 ·rw [if_neg (by omega)];rw [qY (by omega)];rfl
@[simp] theorem b9m (a:α) (r:List α):atI (a::r) 0=some a:=by
 unfold atI ixN
 rw [if_pos (by decide),if_pos (by simp<;>omega)];rfl
@[simp] theorem b9l (a b:α) (r:List α):atI (a::b::r) 1=some b:=by
 unfold atI ixN
 rw [if_pos (by decide),if_pos (by simp<;>omega)];rfl
@[simp] theorem b9k (a b c:α) (r:List α):atI (a::b::c::r) 2=some c:=by
 unfold atI ixN
 rw [if_pos (by decide),if_pos (by simp<;>omega)];rfl
@[simp] theorem b9j (a b c d:α) (r:List α):atI (a::b::c::d::r) 3=some d:=by
 unfold atI ixN
 rw [if_pos (by decide),if_pos (by simp<;>omega)];rfl
theorem b3B (xs:List α) (a:α):atI (xs++[a]) (-1)=some a:=by
 unfold atI ixN
 rw [if_neg (by decide),if_pos (by simp;omega)]
 have e:(-1+(((xs++[a]).length:Nat):Int)).toNat=xs.length:=by simp;omega
 rw [e]
 simp
@[simp] theorem b8i:iY ρ=some (.nx ρ):=rfl
@[simp] theorem fC:retS fa ρ=bns (fa ρ) ρ fun d=>some (.rt d):=rfl
@[simp] theorem b7C:b7o fa ρ=bns (fa ρ) ρ fun _=>some (.nx ρ):=rfl
@[simp] theorem dY (i:Nat):dW i fa ρ=bns (fa ρ) ρ fun d=>some (.nx (ρ.set i (.val d))):=rfl
@[simp] theorem b4j (t:Tg):b4k t fa ρ=bns (fa ρ) ρ fun d=>(tgD t ρ d).map So.nx:=rfl
@[simp] theorem nR (f g:SF):ifS ft f g ρ=bns (ft ρ) ρ fun t=>if t then f ρ else g ρ:=rfl
@[simp] theorem yJ (t:Tg) (fb:SF):a2t t aa fb ρ=bns (aa ρ) ρ fun ds=>hZ t fb ds ρ:=rfl
@[simp] theorem b8j (i:Nat):a7E i aa ρ=bns (aa ρ) ρ fun ds=>if ds.length≤100000 then some (.nx (ρ.set i (.lst ds))) else none:=by
 unfold a7E fK;cases aa ρ with
 | none=>rfl
 | some r=>cases r with
  | ok ds=>by_cases h:ds.length≤100000<;>simp [bns,h]
  | ex c=>rfl
theorem aQ {f g:SF} {ρ':List Ent} (h:f ρ=some (.nx ρ')):bI f g ρ=g ρ':=by unfold bI;rw [h]
theorem a5W {f g:SF} (h:f ρ=some (.rt d)):bI f g ρ=some (.rt d):=by unfold bI;rw [h]
@[simp] theorem b8P (i:Nat):tgD (.nm i) ρ d=some (ρ.set i (.val d)):=rfl
@[simp] theorem b7M (i j:Nat) (a b:PyData):tgD (.tp [i,j]) ρ (.tuple [a,b])=some ((ρ.set i (.val a)).set j (.val b)):=rfl
@[simp] theorem b7L (i j k:Nat) (a b c:PyData):tgD (.tp [i,j,k]) ρ (.tuple [a,b,c])=some (((ρ.set i (.val a)).set j (.val b)).set k (.val c)):=rfl
@[simp] theorem b7K (i j k l:Nat) (a b c d:PyData):tgD (.tp [i,j,k,l]) ρ (.tuple [a,b,c,d])=some ((((ρ.set i (.val a)).set j (.val b)).set k (.val c)).set l (.val d)):=rfl
end
end L2.L3
namespace L2.L3
open PySem
theorem lI {α:Type} {t:Tg} {fb:SF} (φ:α→PyData) (P:Nat→List Ent→Prop):∀ (xs:List α) (i:Nat) (ρ:List Ent),P i ρ →
  (∀ (j:Nat) (x:α) (ρ:List Ent),xs[j]?=some x→P (i+j) ρ→∃ ρ1 ρ2,tgD t ρ (φ x)=some ρ1∧(fb ρ1=some (.nx ρ2)∨fb ρ1=some (.ct ρ2))∧P (i+j+1) ρ2) →
  ∃ ρ',hZ t fb (xs.map φ) ρ=some (.nx ρ')∧P (i+xs.length) ρ'
 | [],i,ρ,h,_=>⟨ρ,rfl,by simpa using h⟩
 | x::xs,i,ρ,h,turn=>by
  obtain ⟨ρ1,ρ2,e1,e2,h2⟩:=turn 0 x ρ rfl (by simpa using h)
  obtain ⟨ρ',e3,h3⟩:=lI φ P xs (i+1) ρ2 (by simpa using h2) (fun j y ρ hy hp=>by
   have e:i+1+j=i+(j+1):=by omega
   rw [e] at hp ⊢
   exact turn (j+1) y ρ (by simpa using hy) hp)
  refine ⟨ρ',?_,by rw [qi,show i+(xs.length+1)=i+1+xs.length by omega];exact h3⟩
  rw [qG,hZ,e1]
  dsimp only
  rcases e2 with e2 | e2<;>(rw [e2];exact e3)
theorem a7O {α:Type} {t:Tg} {fb:SF} (φ:α→PyData) (P:List Ent→Prop) (xs:List α) (ρ:List Ent) (h:P ρ)
  (turn:∀ x∈xs,∀ ρ,P ρ→∃ ρ1 ρ2,tgD t ρ (φ x)=some ρ1∧(fb ρ1=some (.nx ρ2)∨fb ρ1=some (.ct ρ2))∧P ρ2):∃ ρ',hZ t fb (xs.map φ) ρ=some (.nx ρ')∧P ρ':=
 lI φ (fun _=>P) xs 0 ρ h fun j x ρ hx hp=>turn x (kR hx) ρ hp
theorem a6Z {i:Nat} {fa:EF} {ρ:List Ent} {ds:List PyData} {d:PyData} (h:ρ[i]?=some (.lst ds)) (ha:fa ρ=some (.ok d)) (hz:ds.length≤100000):a2P i fa ρ=some (.nx (ρ.set i (.lst (ds++[d])))):=by
 unfold a2P
 rw [h]
 dsimp only
 rw [gI ha,if_pos (by unfold fK;exact decide_eq_true hz)]
theorem a5Z {fa:EF} {ρ:List Ent} {n:Int} (h:fa ρ=some (.ok (.int n))) (h1:-1000000000≤n) (h2:n≤1000000000):a3n fa ρ=some (.ok (mD 0 n.toNat)):=by
 unfold a3n
 rw [h]
 dsimp only
 rw [if_pos]
 simp [a6A];omega
end L2.L3
namespace L2.L3
open PySem
theorem b1u {α:Type} {xs:List α} {p:Int} (h0:0≤p) (h1:p<xs.length) (dflt:α):atI xs p=some (xs.getD p.toNat dflt):=by
 have e:((p.toNat:Nat):Int)=p:=by omega
 have lt:p.toNat<xs.length:=by omega
 have q:=b6f (xs:=xs) p.toNat
 rw [e] at q
 rw [q]
 simp [zt,qM lt]
theorem b0G {α β:Type} (f:α→β) (xs:List α) (i:Nat) (d:α):(xs.map f).getD i (f d)=f (xs.getD i d):=by
 simp only [zt,qP]
 cases xs[i]?<;>rfl
theorem a2N {α β:Type} (f:α→β) {xs:List α} {p:Int} (h0:0≤p) (h1:p<xs.length) (dflt:α):atI (xs.map f) p=some (f (xs.getD p.toNat dflt)):=by
 rw [b1u h0 (by rw [qD];exact h1) (f dflt),b0G]
def cellOf (ns:List Int) (k:Int):Int:=
 if k<ns.length then ns.getD k.toNat 0 else if ns=[] then 0 else ns.getD (k % (ns.length:Int)).toNat 0*31+k
def drawnOf (ns:List Int) (k:Int):Int:=(cellOf ns k+6151*(k+1))*40692 % 2147483399
def pickOf (ns:List Int) (k many:Int):Int:=(drawnOf ns k*drawnOf ns k+drawnOf ns k / 31) % 2147483629 % many
theorem gN (ns:List Int) (k:Int) {many:Int} (h:0<many):0≤pickOf ns k many:=Int.emod_nonneg _ (by omega)
theorem gO (ns:List Int) (k:Int) {many:Int} (h:0<many):pickOf ns k many<many:=vg _ h
def aV:List Str:=["a", "b", "cc", "d", "e", "fx", "g", "h", "i", "jjjj"]
def spanOf (ns:List Int) (at':Int):Int:=([12,30,30,200]:List Int).getD (pickOf ns at' 4).toNat 0
theorem a1P (ns:List Int) (at':Int):spanOf ns at'=12∨spanOf ns at'=30∨spanOf ns at'=200:=by
 have h0:=gN ns at' (many:=4) (by decide)
 have h1:=gO ns at' (many:=4) (by decide)
 unfold spanOf
 generalize pickOf ns at' 4=p at h0 h1
 have:p=0∨p=1∨p=2∨p=3:=by omega
 rcases this with rfl | rfl | rfl | rfl<;>simp
def iI (ns:List Int) (at':Int) (k:Nat):Int:=([3,8,spanOf ns at']:List Int).getD (pickOf ns (at'+12+3*(k:Int)) 3).toNat 0
theorem wZ (ns:List Int) (at':Int) (k:Nat):0<iI ns at' k∧iI ns at' k≤200:=by
 have h0:=gN ns (at'+12+3*(k:Int)) (many:=3) (by decide)
 have h1:=gO ns (at'+12+3*(k:Int)) (many:=3) (by decide)
 have hs:=a1P ns at'
 unfold iI
 generalize pickOf ns (at'+12+3*(k:Int)) 3=p at h0 h1
 have:p=0∨p=1∨p=2:=by omega
 rcases this with rfl | rfl | rfl<;>simp<;>omega
def fZ (ns:List Int) (at':Int) (k:Nat):Int:=pickOf ns (at'+10+3*(k:Int)) (spanOf ns at')
def iJ (ns:List Int) (at':Int) (k:Nat):Int:=1+pickOf ns (at'+11+3*(k:Int)) (iI ns at' k)
def wI (ns:List Int) (at':Int) (k:Nat):Mt:=(aV.getD k "", fZ ns at' k,fZ ns at' k+iJ ns at' k)
def hV (ns:List Int) (at' most:Int):Nat:=(pickOf ns (at'+1) (most+1)).toNat
def iK (ns:List Int) (at' most:Int):List Mt:=(qd (hV ns at' most)).map (wI ns at')
theorem a6n {ns:List Int} {at' most:Int} (h:0≤most):((hV ns at' most:Nat):Int)≤most:=by
 have h0:=gN ns (at'+1) (many:=most+1) (by omega)
 have h1:=gO ns (at'+1) (many:=most+1) (by omega)
 unfold hV
 omega
theorem a0O (ns:List Int) (at' most:Int):(iK ns at' most).length=hV ns at' most:=by simp [iK]
theorem b1t (ns:List Int) (at':Int) (k:Nat):0≤fZ ns at' k∧fZ ns at' k<200:=by
 have hs:=a1P ns at'
 have h0:=gN ns (at'+10+3*(k:Int)) (many:=spanOf ns at') (by omega)
 have h1:=gO ns (at'+10+3*(k:Int)) (many:=spanOf ns at') (by omega)
 unfold fZ
 omega
theorem b1O (ns:List Int) (at':Int) (k:Nat):1≤iJ ns at' k∧iJ ns at' k≤200:=by
 have hs:=wZ ns at' k
 have h0:=gN ns (at'+11+3*(k:Int)) (many:=iI ns at' k) hs.1
 have h1:=gO ns (at'+11+3*(k:Int)) (many:=iI ns at' k) hs.1
 unfold iJ
 omega
theorem a0u:aV.Nodup:=by decide +kernel
theorem xV:∀ x∈aV,qh x=true:=by decide +kernel
structure SheetOk (s:List Mt):Prop where
 few:s.length≤10
 names:s.map (·.1)=aV.take s.length
 times:∀ m∈s,0≤m.2.1∧m.2.1<m.2.2∧m.2.2<400
theorem a3f (ns:List Int) (at':Int) {most:Int} (h0:0≤most) (h1:most≤10):SheetOk (iK ns at' most):=by
 have hm:=a6n (ns:=ns) (at':=at') h0
 refine ⟨by rw [a0O];omega,?_,fun m hm'=>?_⟩
 ·rw [a0O]
  have hl:hV ns at' most≤aV.length:=by show _≤10;omega
  unfold iK
  rw [qV]
  apply ja
  intro i
  rw [qP]
  by_cases hi:i<hV ns at' most
  ·rw [kT hi,jy hi]
   have hi':i<aV.length:=by omega
   simp [wI,zt,qM hi']
  ·rw [qY (by simpa using hi),qY (by simp;omega)]
   rfl
 ·unfold iK at hm'
  obtain ⟨k,_,rfl⟩:=qU.mp hm'
  have hb:=b1t ns at' k
  have hs:=b1O ns at' k
  simp only [wI]
  omega
theorem SheetOk.name_ok {s:List Mt} (S:SheetOk s):∀ m∈s,qh m.1=true:=fun m hm=>by
 have:m.1∈s.map (·.1):=qU.mpr ⟨m,hm,rfl⟩
 rw [S.names] at this
 exact xV _ (zM this)
theorem SheetOk.nodup {s:List Mt} (S:SheetOk s):(s.map (·.1)).Nodup:=by
 rw [S.names]
 exact a0u.sublist (zr _ _)
abbrev dN (ns:List Int):PyData:=.list (ns.map .int)
theorem a5T {ds:List PyData} {n:Nat} (h1:∀ d∈ds,kA d=true) (h2:∀ d∈ds,jb d≤n) (h3:n<64):qQ (.list ds)=true:=by
 refine a0P (n:=n+1) ?_ ?_ h3
 ·rw [kA];exact sI h1
 ·rw [jb];have:=iS h2;omega
theorem xA {ds:List PyData} {n:Nat} (h1:∀ d∈ds,kA d=true) (h2:∀ d∈ds,jb d≤n) (h3:n<64):qQ (.tuple ds)=true:=by
 refine a0P (n:=n+1) ?_ ?_ h3
 ·rw [kA];exact sI h1
 ·rw [jb];have:=iS h2;omega
theorem a5U (ns:List Int):qQ (.list (ns.map .int))=true:=a5T (n:=1) (fun d hd=>by obtain ⟨i,_,rfl⟩:=qU.mp hd;simp [kA]) (fun d hd=>by obtain ⟨i,_,rfl⟩:=qU.mp hd;simp [jb]) (by decide)
theorem a3M {a b:List PyData} (h1:qQ (.list a)=true) (h2:qQ (.list b)=true):eqD (.list a) (.list b)=some (qw a b):=by
 show (if (qQ (.list a)&&qQ (.list b))=true then some (jC (.list a) (.list b)) else none)=_
 rw [h1,h2,if_pos (by rfl),yN]
theorem a9Q {a b:List PyData} (h1:qQ (.list a)=true) (h2:qQ (.list b)=true):neD (.list a) (.list b)=some (!PyData.eqvAll a b):=by
 show (if (qQ (.list a)&&qQ (.list b))=true then some (!PyData.eqv (.list a) (.list b)) else none)=_
 rw [h1,h2,if_pos (by rfl),yN]
theorem a8a {a b:List PyData} (h1:qQ (.tuple a)=true) (h2:qQ (.tuple b)=true):eqD (.tuple a) (.tuple b)=some (qw a b):=by
 show (if (qQ (.tuple a)&&qQ (.tuple b))=true then some (jC (.tuple a) (.tuple b)) else none)=_
 rw [h1,h2,if_pos (by rfl),a1t]
theorem tO {a b:List PyData} (h1:qQ (.tuple a)=true) (h2:qQ (.tuple b)=true):neD (.tuple a) (.tuple b)=some (!PyData.eqvAll a b):=by
 show (if (qQ (.tuple a)&&qQ (.tuple b))=true then some (!PyData.eqv (.tuple a) (.tuple b)) else none)=_
 rw [h1,h2,if_pos (by rfl),a1t]
theorem a4B:qQ (.list [])=true:=by decide +kernel
theorem a6H (ds:List PyData):qw ds []=ds.isEmpty:=by cases ds<;>simp [qw]
theorem b0P {ds:List PyData} (h:qQ (.list ds)=true):eqD (.list ds) (.list [])=some ds.isEmpty:=by rw [a3M h a4B,a6H]
theorem a9P {ds:List PyData} (h:qQ (.list ds)=true):neD (.list ds) (.list [])=some (!ds.isEmpty):=by rw [a9Q h a4B,a6H]
abbrev a7h:TF:=cH ltD (var 1) (cI yB (aC (var 0) aG))
abbrev a7g:TF:=cH eqD (var 0) (gP aG)
def yL:SF:=(bI (ifS a7h (retS (op2 ixD (var 0) (var 1))) iY) (bI (ifS a7g (retS (cst (.int 0))) iY) (retS (op2 cU (op2 mH (op2 ixD (var 0) (op2 a4P (var 1) (cI yB (aC (var 0) aG)))) (cst (.int 31))) (var 1)))))
def sR:List PyData→Mm PyData:=eA 2 2 yL
def yK:SF:=(bI (dW 3 (op2 a4P (op2 mH (op2 cU (aU sR (aC (var 0) (aC (var 1) aG))) (op2 mH (cst (.int 6151)) (op2 cU (var 1) (cst (.int 1))))) (cst (.int 40692))) (cst (.int 2147483399)))) (retS (op2 a4P (op2 a4P (op2 cU (op2 mH (var 3) (var 3)) (op2 b2V (var 3) (cst (.int 31)))) (cst (.int 2147483629))) (var 2))))
def cG:List PyData→Mm PyData:=eA 4 3 yK
abbrev a5F:SF:=bI (dW 7 (aU cG (aC (var 0) (aC (op2 cU (op2 cU (var 1) (cst (.int 10))) (op2 mH (cst (.int 3)) (var 6))) (aC (var 3) aG))))) (bI (dW 8 (op2 cU (cst (.int 1)) (aU cG (aC (var 0) (aC (op2 cU (op2 cU (var 1) (cst (.int 11))) (op2 mH (cst (.int 3)) (var 6))) (aC (op2 ixD (gP (aC (cst (.int 3)) (aC (cst (.int 8)) (aC (var 3) aG)))) (aU cG (aC (var 0) (aC (op2 cU (op2 cU (var 1) (cst (.int 12))) (op2 mH (cst (.int 3)) (var 6))) (aC (cst (.int 3)) aG))))) aG)))))) (a2P 5 (fN (aC (op2 ixD (var 4) (var 6)) (aC (var 7) (aC (op2 cU (var 7) (var 8)) aG))))))
def uC:SF:=(bI (dW 3 (op2 ixD (gP (aC (cst (.int 12)) (aC (cst (.int 30)) (aC (cst (.int 30)) (aC (cst (.int 200)) aG))))) (aU cG (aC (var 0) (aC (var 1) (aC (cst (.int 4)) aG)))))) (bI (dW 4 (gP (aC (cst (.str "a")) (aC (cst (.str "b")) (aC (cst (.str "cc")) (aC (cst (.str "d")) (aC (cst (.str "e")) (aC (cst (.str "fx")) (aC (cst (.str "g")) (aC (cst (.str "h")) (aC (cst (.str "i")) (aC (cst (.str "jjjj")) aG)))))))))))) (bI (a7E 5 aG) (bI (a2t (.nm 6) (a3n (aU cG (aC (var 0) (aC (op2 cU (var 1) (cst (.int 1))) (aC (op2 cU (var 2) (cst (.int 1))) aG))))) a5F) (a3J 5 (retS (cI pZ (aC (var 5) aG))))))))
def eX:List PyData→Mm PyData:=eA 9 3 uC
theorem bZ {m n:Nat} {f:SF} {ds:List PyData} {d:PyData} (hl:ds.length=n) (h:f (sY m ds)=some (.rt d)):eA m n f ds=some (.ok d):=by
 unfold eA;rw [if_pos hl,h]
theorem a2p {ns:List Int} {p:Int} (h0:0≤p) (h1:p<ns.length):ixD (.list (ns.map .int)) (.int p)=some (.int (ns.getD p.toNat 0)):=by
 show atI (ns.map jv) p=_
 rw [a2N jv h0 h1 0]
theorem b5I (ns:List Int) (k:Int) (h0:0≤k):sR [dN ns,.int k]=some (.ok (.int (cellOf ns k))):=by
 refine bZ rfl ?_
 show yL [.val (dN ns),.val (.int k)]=_
 unfold yL cellOf
 by_cases h1:k<ns.length
 ·rw [a5W (d:=.int (ns.getD k.toNat 0)),if_pos h1]
  simp [h1]
  rw [a2N jv h0 h1 0]
  simp
 ·rw [aQ (ρ':=[.val (dN ns),.val (.int k)]) (by simp [h1]),if_neg h1]
  by_cases h2:ns=[]
  ·subst h2
   rw [a5W (d:=.int 0),if_pos rfl]
   have h:eqD (dN []) (.list [])=some true:=b0P a4B
   simp [h]
  ·have he:(ns.map jv).isEmpty=false:=by cases ns with
    | nil=>exact absurd rfl h2
    | cons a r=>rfl
   have h:eqD (dN ns) (.list [])=some false:=by rw [b0P (a5U ns),he]
   rw [aQ (ρ':=[.val (dN ns),.val (.int k)]) (by simp [h]),if_neg h2]
   have lp:(0:Int)<(ns.length:Nat):=by cases ns with
    | nil=>exact absurd rfl h2
    | cons a r=>simp<;>omega
   have a1:=Int.emod_nonneg k (b:=(ns.length:Int)) (by omega)
   have a2:=vg k lp
   have lp':0<ns.length:=by omega
   have ix:ixD (dN ns) (.int (k % (ns.length:Int)))=some (.int (ns.getD (k % (ns.length:Int)).toNat 0)):=a2p a1 a2
   have ml:mH (.int (ns.getD (k % (ns.length:Int)).toNat 0)) (.int 31)=some (.int (ns.getD (k % (ns.length:Int)).toNat 0*31)):=a2g (by decide) (by decide)
   simp only [fC,a6h,a2T,wQ,bV,a5C,gA,pV,b7c,yA,b5h,qD,if_pos lp,ix,b3X,ml,b1A,lM]
theorem b0W (ns:List Int) (k:Int):0≤drawnOf ns k∧drawnOf ns k<2147483399:=⟨Int.emod_nonneg _ (by decide),vg _ (by decide)⟩
theorem uF (ns:List Int) (k many:Int) (h0:0≤k) (hm:0<many):cG [dN ns,.int k,.int many]=some (.ok (.int (pickOf ns k many))):=by
 refine bZ rfl ?_
 show yK [.val (dN ns),.val (.int k),.val (.int many),.no]=_
 have db:=b0W ns k
 unfold yK
 rw [aQ (ρ':=[.val (dN ns),.val (.int k),.val (.int many),.val (.int (drawnOf ns k))])]
 ·have hsq:mH (.int (drawnOf ns k)) (.int (drawnOf ns k))=some (.int (drawnOf ns k*drawnOf ns k)):=a2g (by omega) (by omega)
  simp [hsq,hm,pickOf]
 ·have h2:mH (.int 6151) (.int (k+1))=some (.int (6151*(k+1))):=a6k (by decide) (by decide)
  have h3:mH (.int (cellOf ns k+6151*(k+1))) (.int 40692)=some (.int ((cellOf ns k+6151*(k+1))*40692)):=a2g (by decide) (by decide)
  simp [b5I ns k h0,h2,h3,drawnOf]
theorem a4E (n:Nat):mD 0 n=(qd n).map fun (k:Nat)=>jv (k:Int):=by simp [mD]
theorem a6J (ns:List Int) (at' most:Int) (h0:0≤at') (hm:0≤most) (hm2:most≤10):eX [dN ns,.int at',.int most]=some (.ok (dS (iK ns at' most))):=by
 refine bZ rfl ?_
 show uC [.val (dN ns),.val (.int at'),.val (.int most),.no,.no,.no,.no,.no,.no]=_
 have sp:=a1P ns at'
 have ml:=a6n (ns:=ns) (at':=at') hm
 have p0:=gN ns (at'+1) (many:=most+1) (by omega)
 have p1:=gO ns (at'+1) (many:=most+1) (by omega)
 unfold uC
 rw [aQ (ρ':=[.val (dN ns),.val (.int at'),.val (.int most),.val (.int (spanOf ns at')),.no,.no,.no,.no,.no])]
 rotate_left
 ·have h:=a2p (ns:=[12,30,30,200]) (gN ns at' (many:=4) (by decide)) (gO ns at' (by decide))
  have h':atI [jv 12,.int 30,.int 30,.int 200] (pickOf ns at' 4)=some (.int (spanOf ns at')):=h
  simp [uF ns at' 4 h0 (by decide),h']
 rw [aQ (ρ':=[.val (dN ns),.val (.int at'),.val (.int most),.val (.int (spanOf ns at')),.val (.list (aV.map .str)),.no,.no,.no,.no])]
 rotate_left
 ·simp [aV]
 rw [aQ (ρ':=[.val (dN ns),.val (.int at'),.val (.int most),.val (.int (spanOf ns at')),.val (.list (aV.map .str)),.lst [],.no,.no,.no])]
 rotate_left
 ·simp
 -- the turns
 have hr:a3n (aU cG (aC (var 0) (aC (op2 cU (var 1) (cst (.int 1))) (aC (op2 cU (var 2) (cst (.int 1))) aG)))) [.val (dN ns),.val (.int at'),.val (.int most),.val (.int (spanOf ns at')),.val (.list (aV.map .str)),.lst [],.no,.no,.no]=some (.ok ((qd (hV ns at' most)).map fun (k:Nat)=>jv (k:Int))):=by
  rw [a5Z (n:=pickOf ns (at'+1) (most+1)) (by simp [uF ns (at'+1) (most+1) (by omega) (by omega)]) (by omega) (by omega),a4E]
  rfl
 have turns:=lI (t:=.nm 6) (fun (k:Nat)=>jv (k:Int)) (fun m ρ=>m≤10→∃ x y z,ρ=[.val (dN ns),.val (.int at'),.val (.int most),.val (.int (spanOf ns at')),.val (.list (aV.map .str)),.lst ((qd m).map fun k=>dM (wI ns at' k)),x,y,z])
  (fb:=(bI (dW 7 (aU cG (aC (var 0) (aC (op2 cU (op2 cU (var 1) (cst (.int 10))) (op2 mH (cst (.int 3)) (var 6))) (aC (var 3) aG))))) (bI (dW 8 (op2 cU (cst (.int 1)) (aU cG (aC (var 0) (aC (op2 cU (op2 cU (var 1) (cst (.int 11))) (op2 mH (cst (.int 3)) (var 6))) (aC (op2 ixD (gP (aC (cst (.int 3)) (aC (cst (.int 8)) (aC (var 3) aG)))) (aU cG (aC (var 0) (aC (op2 cU (op2 cU (var 1) (cst (.int 12))) (op2 mH (cst (.int 3)) (var 6))) (aC (cst (.int 3)) aG))))) aG)))))) (a2P 5 (fN (aC (op2 ixD (var 4) (var 6)) (aC (var 7) (aC (op2 cU (var 7) (var 8)) aG))))))))
  (qd (hV ns at' most)) 0 [.val (dN ns),.val (.int at'),.val (.int most),.val (.int (spanOf ns at')),.val (.list (aV.map .str)),.lst [],.no,.no,.no] (fun _=>⟨.no,.no,.no,rfl⟩) (by
  intro m k ρ hk hp
  have hk':m<hV ns at' most∧k=m:=by
   obtain ⟨h1,h2⟩:=qS.mp hk
   rw [jm] at h1
   rw [List.getElem_range] at h2
   exact ⟨h1,h2.symm⟩
  obtain ⟨hk1,rfl⟩:=hk'
  obtain ⟨x,y,z,rfl⟩:=hp (by omega)
  rw [vJ]
  have st:=wZ ns at' k
  have e1:=uF ns (at'+10+3*(k:Int)) (spanOf ns at') (by omega) (by omega)
  have e2:=uF ns (at'+12+3*(k:Int)) 3 (by omega) (by decide)
  have e3:=uF ns (at'+11+3*(k:Int)) (iI ns at' k) (by omega) st.1
  have h:=a2p (ns:=[3,8,spanOf ns at']) (gN ns (at'+12+3*(k:Int)) (many:=3) (by decide)) (show pickOf ns _ 3<(3:Int) from gO ns _ (by decide))
  have h':atI [jv 3,.int 8,.int (spanOf ns at')] (pickOf ns (at'+12+3*(k:Int)) 3)=some (.int (iI ns at' k)):=h
  have m3:mH (.int 3) (.int (k:Int))=some (.int (3*(k:Int))):=a6k (by decide) (by decide)
  have nm:atI (aV.map jg) (k:Int)=some (.str (aV.getD k "")):=by
   have:=a2N jg (xs:=aV) (p:=(k:Int)) (by omega) (by show _<(10:Int);omega) ""
   simpa using this
  have nm':ixD (.list (aV.map jg)) (.int (k:Int))=some (.str (aV.getD k "")):=nm
  refine ⟨_,[.val (dN ns),.val (.int at'),.val (.int most),.val (.int (spanOf ns at')),.val (.list (aV.map .str)),.lst ((qd k).map (fun k=>dM (wI ns at' k))++[dM (wI ns at' k)]),.val (.int k),.val (.int (fZ ns at' k)),.val (.int (iJ ns at' k))],rfl,.inl ?_,fun _=>⟨.val (.int k),.val (.int (fZ ns at' k)),.val (.int (iJ ns at' k)),by rw [List.range_succ,qj];rfl⟩⟩
  simp only [List.set]
  rw [aQ (ρ':=[.val (dN ns),.val (.int at'),.val (.int most),.val (.int (spanOf ns at')),.val (.list (aV.map .str)),.lst ((qd k).map fun k=>dM (wI ns at' k)),.val (.int k),.val (.int (fZ ns at' k)),z]) (by simp [m3,e1,fZ])]
  rw [aQ (ρ':=[.val (dN ns),.val (.int at'),.val (.int most),.val (.int (spanOf ns at')),.val (.list (aV.map .str)),.lst ((qd k).map fun k=>dM (wI ns at' k)),.val (.int k),.val (.int (fZ ns at' k)),.val (.int (iJ ns at' k))]) (by simp [m3,e2,h',e3,iJ])]
  refine a6Z (ds:=(qd k).map fun k=>dM (wI ns at' k)) rfl (d:=dM (wI ns at' k)) ?_ (by simp;omega)
  simp only [wR,gA,a6h,a2T,wQ,bV,nm',yA,b1A,pV,a6m]
  rfl)
 obtain ⟨ρ',e,hp⟩:=turns
 rw [jm,vJ] at hp
 obtain ⟨x',y',z',rfl⟩:=hp (by omega)
 rw [aQ (ρ':=[.val (dN ns),.val (.int at'),.val (.int most),.val (.int (spanOf ns at')),.val (.list (aV.map .str)),.lst ((qd (hV ns at' most)).map fun k=>dM (wI ns at' k)),x',y',z'])]
 rotate_left
 ·rw [yJ,gI hr]
  exact e
 show retS (cI pZ (aC (var 5) aG)) [.val (dN ns),.val (.int at'),.val (.int most),.val (.int (spanOf ns at')),.val (.list (aV.map .str)),.val (.list ((qd (hV ns at' most)).map fun k=>dM (wI ns at' k))),x',y',z']=_
 simp [iK,qV,zw]
end L2.L3
namespace L2.L3
open PySem
abbrev uY:EF:=cE (.nm 0) [none] (cY (var 0)) ttT (op2 ixD (var 0) (cst (.int 0)))
def pN:SF:=(retS uY)
def cW:List PyData→Mm PyData:=eA 1 1 pN
abbrev a4v:TF:=orT (a2d (rB (op1 (isD "str") (var 0)))) (a2d (a3Z leD leD (cst (.int 1)) (cI yB (aC (var 0) aG)) (cst (.int 4))))
abbrev a4Z:EF:=cE (.nm 0) [none] (b6Z (var 0)) ttT (b6b leD leD (cst (.str "a")) (var 0) (cst (.str "z")))
def a7Z:SF:=(bI (ifS a4v (retS (cst (.bool false))) iY) (retS (cI allB (aC a4Z aG))))
def lS:List PyData→Mm PyData:=eA 1 1 a7Z
def a5m:SF:=(retS (a0l (op1 (isD "int") (var 0)) (b5b (op1 (isD "bool") (var 0)))))
def iG:List PyData→Mm PyData:=eA 1 1 a5m
def nU:SF:=(retS (a0l (aU iG (aC (var 0) aG)) (a0l (aU iG (aC (var 1) aG)) (b1m leD ltD leD (cst (.int 0)) (var 0) (var 1) (cst (.int 480))))))
def iV:List PyData→Mm PyData:=eA 2 2 nU
abbrev a0p:TF:=orT (a2d (rB (op1 (isD "tuple") (var 0)))) (cH neD (cI yB (aC (var 0) aG)) (cst (.int 3)))
def mL:SF:=(bI (ifS a0p (retS (cst (.bool false))) iY) (retS (a0l (aU lS (aC (op2 ixD (var 0) (cst (.int 0))) aG)) (aU iV (aC (op2 ixD (var 0) (cst (.int 1))) (aC (op2 ixD (var 0) (cst (.int 2))) aG))))))
def gW:List PyData→Mm PyData:=eA 1 1 mL
abbrev a3a:TF:=orT (a2d (rB (op1 (isD "tuple") (var 0)))) (cH gtD (cI yB (aC (var 0) aG)) (cst (.int 16)))
abbrev nQ:EF:=cE (.nm 0) [none] (cY (var 0)) ttT (aU gW (aC (var 0) aG))
abbrev uP:TF:=a2d (rB (cI allB (aC nQ aG)))
def nS:SF:=(retS (mV eqD (var 0) (op1 oK (var 0))))
def iU:List PyData→Mm PyData:=eA 1 1 nS
def pP:SF:=(bI (ifS a3a (retS (cst (.bool false))) iY) (bI (ifS uP (retS (cst (.bool false))) iY) (retS (aU iU (aC (aU cW (aC (var 0) aG)) aG)))))
def iH:List PyData→Mm PyData:=eA 1 1 pP
@[simp] theorem b8Z (neg:Bool) (k:PyData) (fa:EF) (ρ:List Ent):isE neg k fa ρ=bnd (fa ρ) fun x=>lft ((isB k x).map fun t=>.bool (neg != t)):=rfl
@[simp] theorem b7g (neg:Bool) (k:PyData) (fa:EF) (ρ:List Ent):isT neg k fa ρ=bnd (fa ρ) fun x=>lft ((isB k x).map fun t=>neg != t):=rfl
@[simp] theorem b8u:isB (.bool true) (.bool true)=some true:=rfl
@[simp] theorem b8v:isB (.bool false) (.bool false)=some true:=rfl
@[simp] theorem b8q (ds:List PyData):isD "tuple" (.tuple ds)=some (.bool true):=rfl
@[simp] theorem b8s (i:Int):isD "int" (.int i)=some (.bool true):=rfl
@[simp] theorem b8t (i:Int):isD "bool" (.int i)=some (.bool false):=rfl
@[simp] theorem b8r (i:Str):isD "str" (.str i)=some (.bool true):=rfl
@[simp] theorem b7D (g1 g2 g3:PyData→PyData→Option Bool) (fa fb fc fd:EF) (ρ:List Ent):b1m g1 g2 g3 fa fb fc fd ρ=bnd (fa ρ) fun x=>bnd (fb ρ) fun y=>bnd (lft (g1 x y)) fun t=>if t then bnd (fc ρ) fun z=>bnd (lft (g2 y z)) fun u=>if u then bnd (fd ρ) fun w=>lft ((g3 z w).map .bool) else some (.ok (.bool false)) else some (.ok (.bool false)):=rfl
theorem all_bools (bs:List Bool):allB [.list (bs.map .bool)]=some (.bool (bs.all id)):=by
 show (dH oW (bs.map .bool)).map _=_
 rw [nX (g:=.bool) (fun _=>rfl) bs];rfl
theorem b2Z {b e:Int} (h:0≤b∧b<e∧e≤480):iV [.int b,.int e]=some (.ok (.bool true)):=by
 have w:∀ i:Int,iG [.int i]=some (.ok (.bool true)):=fun i=>by kernel_rfl
 refine bZ rfl ?_
 show nU [.val (.int b),.val (.int e)]=_
 simp [nU,w,h.1,h.2.1,h.2.2]
structure MtOk (m:Mt):Prop where
 name:lS [.str m.1]=some (.ok (.bool true))
 ok:qh m.1=true
 times:0≤m.2.1∧m.2.1<m.2.2∧m.2.2≤480
theorem a8c {m:Mt} (h:MtOk m):gW [dM m]=some (.ok (.bool true)):=by
 refine bZ rfl ?_
 show mL [.val (dM m)]=_
 unfold mL
 rw [aQ (ρ':=[.val (dM m)]) (by simp)]
 simp [h.name,b2Z h.times]
theorem wO (s:List Mt) (hz:s.length≤100000):cW [dS s]=some (.ok (.list ((s.map (·.1)).map .str))):=by
 refine bZ rfl ?_
 show pN [.val (dS s)]=_
 have k1:uY [.val (dS s)]=some (.ok (.list (s.map fun m=>.str m.1))):=cK dM (fun m=>[.val (dM m)]) (fun m=>.str m.1) s (by simp) hz (fun m _=>by simp [dX]) (fun m _=>by simp)
 unfold pN
 rw [fC,k1,qV]
 rfl
theorem a8A (ns:List Str) (h:ns≠[]):dH intD (ns.map .str)=none:=by
 cases ns with
 | nil=>exact absurd rfl h
 | cons a r=>rfl
theorem a7m (ns:List Str) (h:ns.length<64):oK (.list (ns.map .str))=some (.list ((eG (gG ns)).map .str)):=by
 by_cases e:ns=[]
 ·subst e;simp [oK,dH,gH,gG,sortI,eG]
 ·simp only [oK,a8A ns e,a7j,if_pos h]
theorem a3R:∀ (ns acc:List Str),(∀ x∈ns,x∉acc)→ns.Nodup→ns.foldl (fun a n=>if n∈a then a else a++[n]) acc=acc++ns
 | [],acc,_,_=>by simp
 | n::ns,acc,h,hn=>by
  have h':=jV.mp hn
  rw [jG,if_neg (h n (by simp)),a3R ns (acc++[n]) (fun x hx=>?_) h'.2,kz]
  ·rfl
  ·simp only [jE,qf,not_or]
   exact ⟨h x (by simp [hx]),fun z=>h'.1 (z▸hx)⟩
theorem a5t {ns:List Str} (h:ns.Nodup):gG ns=ns:=by unfold gG;rw [a3R ns [] (by simp) h];rfl
theorem uI:∀ (ns acc:List Str),acc.Nodup→(ns.foldl (fun a n=>if n∈a then a else a++[n]) acc).Nodup∧∀ x∈ns.foldl (fun a n=>if n∈a then a else a++[n]) acc,x∈acc∨x∈ns
 | [],acc,h=>⟨h,fun x hx=>.inl hx⟩
 | n::ns,acc,h=>by
  rw [jG]
  split
  ·obtain ⟨a,b⟩:=uI ns acc h
   exact ⟨a,fun x hx=>(b x hx).imp id fun z=>qE _ z⟩
  ·rename_i hn
   obtain ⟨a,b⟩:=uI ns (acc++[n]) (by
    rw [kt]
    exact ⟨h,by simp,fun x hx y hy=>by rw [qf] at hy;subst hy;exact fun z=>hn (z▸hx)⟩)
   refine ⟨a,fun x hx=>?_⟩
   rcases b x hx with z | z
   ·rcases jE.mp z with z | z
    ·exact .inl z
    ·exact .inr (by rw [qf] at z;rw [z];simp)
   ·exact .inr (qE _ z)
theorem a8f {ns:List Str} {x:Str} (h:x∈gG ns):x∈ns:=((uI ns [] .nil).2 x h).elim (fun z=>by cases z) id
theorem nZ {ns:List Str} (h:∀ x∈ns,qh x=true):qQ (.list (ns.map .str))=true:=a5T (n:=1) (fun d hd=>by obtain ⟨i,hi,rfl⟩:=qU.mp hd;simpa [kA] using h i hi) (fun d hd=>by obtain ⟨i,_,rfl⟩:=qU.mp hd;simp [jb]) (by decide)
theorem b2W {a b:List Str} (h1:∀ x∈a,qh x=true) (h2:∀ x∈b,qh x=true):eqD (.list (a.map .str)) (.list (b.map .str))=some (decide (a=b)):=by rw [a3M (nZ h1) (nZ h2),nV]
theorem a5q (s:List Mt) (hz:s.length≤16) (h:∀ m∈s,MtOk m):iH [dS s]=some (.ok (.bool (decide (s.map (·.1)=eG (gG (s.map (·.1))))))):=by
 refine bZ rfl ?_
 show pP [.val (dS s)]=_
 have hz':¬(16:Int)<(s.length:Nat):=by omega
 have k1:nQ [.val (dS s)]=some (.ok (.list ((s.map fun _=>true).map .bool))):=by
  rw [show (s.map fun _=>true).map zR=s.map fun _=>zR true by simp [zw]]
  exact cK dM (fun m=>[.val (dM m)]) (fun _=>.bool true) s (by simp) (by omega) (fun m _=>by simp [dX]) (fun m hm=>by simp [a8c (h m hm)])
 have ha:(s.map fun _=>true).all id=true:=by simp
 have t2:uP [.val (dS s)]=some (.ok false):=by
  show a2d (rB (cI allB (aC nQ aG))) _=_
  rw [b5a,a8S,a5C,gA,k1]
  simp only [bV,pV,yA,all_bools,ha,b4o,Bool.not_true]
 have ok1:∀ x∈s.map (·.1),qh x=true:=fun x hx=>by obtain ⟨m,hm,rfl⟩:=qU.mp hx;exact (h m hm).ok
 unfold pP
 rw [aQ (ρ':=[.val (dS s)]) (by simp [hz']),aQ (ρ':=[.val (dS s)]) (by rw [nR,t2];simp)]
 have hss:=a7m (s.map (·.1)) (by rw [qD];omega)
 have he:=b2W (a:=s.map (·.1)) (b:=eG (gG (s.map (·.1)))) ok1 (fun x hx=>ok1 x (a8f ((bP _).mem_iff.mp hx)))
 have er:iU [.list ((s.map (·.1)).map .str)]=some (.ok (.bool (decide (s.map (·.1)=eG (gG (s.map (·.1))))))):=by
  refine bZ rfl ?_
  show nS [.val (.list ((s.map (·.1)).map .str))]=_
  unfold nS
  rw [fC,a0c]
  simp only [a2T,wQ,bV,a9J,hss,yA,he,Option.map_some,lM]
 rw [fC,sK,gA,sK,gA]
 simp only [wQ,bV,pV,wO s (by omega),er,lM]
theorem a3O (s:List Mt) (hz:s.length≤16) (h:∀ m∈s,MtOk m) (hn:(s.map (·.1)).Nodup) (hp:(s.map (·.1)).Pairwise (fun a b=>bR a b=true)):iH [dS s]=some (.ok (.bool true)):=by
 rw [a5q s hz h,a5t hn,decide_eq_true (fQ (bP _).symm hp (gK _))]
theorem a4O:∀ x∈aV,lS [.str x]=some (.ok (.bool true)):=by
 intro x hx
 simp only [aV,qF,qe,or_false] at hx
 rcases hx with rfl | rfl | rfl | rfl | rfl | rfl | rfl | rfl | rfl | rfl<;>kernel_rfl
theorem a4N:aV.Pairwise (fun a b=>bR a b=true):=by decide +kernel
theorem SheetOk.mt {s:List Mt} (S:SheetOk s):∀ m∈s,MtOk m:=fun m hm=>by
 have t:=S.times m hm
 have q:m.1∈s.map (·.1):=qU.mpr ⟨m,hm,rfl⟩
 rw [S.names] at q
 exact ⟨a4O _ (zM q),S.name_ok m hm,by omega⟩
theorem SheetOk.pw {s:List Mt} (S:SheetOk s):(s.map (·.1)).Pairwise (fun a b=>bR a b=true):=by rw [S.names];exact a4N.sublist (zr _ _)
end L2.L3
namespace L2.L3
open PySem
@[simp] theorem b9i (a b c d e:α) (r:List α):atI (a::b::c::d::e::r) 4=some e:=by
 unfold atI ixN
 rw [if_pos (by decide),if_pos (by simp<;>omega)];rfl
@[simp] theorem b9h (a b c d e f:α) (r:List α):atI (a::b::c::d::e::f::r) 5=some f:=by
 unfold atI ixN
 rw [if_pos (by decide),if_pos (by simp<;>omega)];rfl
theorem bN {F:List PyData→Mm PyData} {aa:AF} {ρ:List Ent} {ds:List PyData} {d:PyData} (ha:aa ρ=some (.ok ds)) (h:F ds=some (.ok d)):aU F aa ρ=some (.ok d):=by
 rw [sK,ha,bV,h]
theorem a0Y {ft fu:TF} {ρ:List Ent} (h1:ft ρ=some (.ok false)) (h2:fu ρ=some (.ok false)):orT ft fu ρ=some (.ok false):=by
 rw [b6R,h1,bV,if_neg (by decide),h2]
theorem mS {fa fb:EF} {ρ:List Ent} {x y:PyData} {r:Bool} (ha:fa ρ=some (.ok x)) (hb:fb ρ=some (.ok y)) (h:neD x y=some r):cH neD fa fb ρ=some (.ok r):=by
 rw [b1j,ha,bV,hb,bV,h];rfl
theorem dG {g:List PyData→Option PyData} {aa:AF} {ρ:List Ent} {ds:List PyData} {d:PyData} (ha:aa ρ=some (.ok ds)) (h:g ds=some d):cI g aa ρ=some (.ok d):=by
 rw [a5C,ha,bV,h];rfl
theorem iM {fa:EF} {ρ:List Ent} {d:PyData} {ds:List PyData} (ha:fa ρ=some (.ok d)) (hd:wH d=some ds):cY fa ρ=some (.ok ds):=by
 rw [a9h,ha,bV,hd];rfl
theorem wD:∀ (l:List PyData),(∀ d∈l,jC d d=true)→qw l l=true
 | [],_=>by simp [qw]
 | d::l,h=>by simp [qw,h d (by simp),wD l fun x hx=>h x (qE _ hx)]
end L2.L3
namespace L2.L3
open PySem
abbrev Row:=Int×Int×Int
abbrev dR (r:Row):PyData:=.tuple [.int r.1,.int r.2.1,.int r.2.2]
def jr:List Row→Row→List Row
 | [],r=>[r]
 | a::t,r=>if a.2.2=r.2.2 then (a.1,r.2.1,r.2.2)::t else r::a::t
def fG (rows:List Row):List Row:=(rows.foldl jr []).reverse
def RCh (f:Int→Int) (lo:Int):Int→List Row→Prop
 | hi,[]=>hi=lo
 | hi,r::t=>r.2.1=hi∧r.1<r.2.1∧(∀ x,r.1≤x→x<r.2.1→f x=r.2.2)∧RCh f lo r.1 t
def FCh (f:Int→Int) (hi:Int):Int→List Row→Prop
 | lo,[]=>lo=hi
 | lo,r::t=>r.1=lo∧r.1<r.2.1∧(∀ x,r.1≤x→x<r.2.1→f x=r.2.2)∧FCh f hi r.2.1 t
def Alt:List Row→Prop
 | a::b::t=>a.2.2≠b.2.2∧Alt (b::t)
 | _=>True
theorem tW {a r:Row} {t:List Row} (h:a.2.2=r.2.2):jr (a::t) r=(a.1,r.2.1,r.2.2)::t:=if_pos h
theorem tX {a r:Row} {t:List Row} (h:¬a.2.2=r.2.2):jr (a::t) r=r::a::t:=if_neg h
theorem b3R {f:Int→Int} {lo b e m:Int} (hbe:b<e) (hv:∀ x,b≤x→x<e→f x=m):∀ {acc:List Row},RCh f lo b acc→RCh f lo e (jr acc (b,e,m))
 | [],h=>⟨rfl,hbe,hv,h⟩
 | a::t,⟨h1,h2,h3,h4⟩=>by
  by_cases he:a.2.2=m
  ·rw [tW he]
   refine ⟨rfl,?_,fun x hx1 hx2=>?_,h4⟩
   ·show a.1<e;omega
   ·have hx1:a.1≤x:=hx1
    have hx2:x<e:=hx2
    by_cases hx:x<b
    ·rw [h3 x hx1 (by omega)];exact he
    ·exact hv x (by omega) hx2
  ·rw [tX he]
   exact ⟨rfl,hbe,hv,h1,h2,h3,h4⟩
theorem b5u {b e m:Int}:∀ {acc:List Row},Alt acc→Alt (jr acc (b,e,m))
 | [],_=>trivial
 | [a],_=>by
  by_cases he:a.2.2=m
  ·rw [tW he];trivial
  ·rw [tX he];exact ⟨fun z=>he z.symm,trivial⟩
 | a::c::t,⟨h1,h2⟩=>by
  by_cases he:a.2.2=m
  ·rw [tW he]
   exact ⟨by show m≠c.2.2;rw [←he];exact h1,h2⟩
  ·rw [tX he]
   exact ⟨fun z=>he z.symm,h1,h2⟩
theorem a5k {f:Int→Int} {lo hi2:Int}:∀ {acc:List Row} {hi:Int} {tail:List Row},RCh f lo hi acc→FCh f hi2 hi tail→FCh f hi2 lo (acc.reverse++tail)
 | [],hi,tail,h,ht=>by have h:hi=lo:=h;subst h;simpa using ht
 | r::t,hi,tail,⟨h1,h2,h3,h4⟩,ht=>by
  rw [kr,kz]
  exact a5k h4 ⟨rfl,h2,h3,by rw [h1];exact ht⟩
theorem a4i:∀ {l t:List Row} {a:Row},Alt (l++[a])→Alt (a::t)→Alt (l++a::t)
 | [],t,a,_,h=>h
 | [b],t,a,⟨h1,_⟩,h=>⟨h1,h⟩
 | b::c::l,t,a,⟨h1,h2⟩,h=>⟨h1,a4i (l:=c::l) h2 h⟩
theorem a7a:∀ {acc:List Row},Alt acc→Alt acc.reverse
 | [],_=>trivial
 | [a],_=>trivial
 | a::b::t,⟨h1,h2⟩=>by
  have ih:=a7a h2
  rw [kr] at ih ⊢
  rw [kr,kz]
  exact a4i ih ⟨fun z=>h1 z.symm,trivial⟩
def prs {α:Type}:List α→List (α×α)
 | a::b::r=>(a,b)::prs (b::r)
 | _=>[]
def rowsOf (f:Int→Int) (cuts:List Int):List Row:=(prs cuts).map fun p=>(p.1,p.2,f p.1)
def lastOf:Int→List Int→Int
 | a,[]=>a
 | _,b::r=>lastOf b r
def Flat (f:Int→Int) (cuts:List Int):Prop:=∀ p∈prs cuts,p.1<p.2∧∀ x,p.1≤x→x<p.2→f x=f p.1
theorem a6D {f:Int→Int} {lo:Int}:∀ {r:List Int} {a:Int} {acc:List Row},Flat f (a::r)→RCh f lo a acc→RCh f lo (lastOf a r) ((rowsOf f (a::r)).foldl jr acc)
 | [],a,acc,_,h=>h
 | b::r,a,acc,hf,h=>by
  have h0:=hf (a,b) qT
  have h1:Flat f (b::r):=fun p hp=>hf p (qE _ hp)
  have h2:RCh f lo b (jr acc (a,b,f a)):=b3R h0.1 h0.2 h
  exact a6D (a:=b) (r:=r) h1 h2
theorem a3L:∀ {rows acc:List Row},Alt acc→Alt (rows.foldl jr acc)
 | [],_,h=>h
 | r::t,acc,h=>a3L (rows:=t) (b5u (b:=r.1) (e:=r.2.1) (m:=r.2.2) h)
theorem a7W {f:Int→Int} {a:Int} {r:List Int} (hf:Flat f (a::r)):FCh f (lastOf a r) a (fG (rowsOf f (a::r))):=by
 have:=a5k (hi2:=lastOf a r) (tail:=[]) (a6D (lo:=a) (acc:=[]) hf rfl) rfl
 rwa [kM] at this
theorem a5b (rows:List Row):Alt (fG rows):=a7a (a3L (acc:=[]) trivial)
theorem a3K {f g:Int→Int} {lo hi:Int} (k:Int→Int) (hg:∀ x,g x=k (f x)):∀ {rows:List Row} {a:Int} {acc:List Row},FCh f hi a rows→RCh g lo a acc→RCh g lo hi ((rows.map fun r=>(r.1,r.2.1,k r.2.2)).foldl jr acc)
 | [],a,acc,h,h2=>by have h:a=hi:=h;subst h;exact h2
 | r::t,a,acc,⟨h1,h2,h3,h4⟩,hr=>by
  subst h1
  have q:RCh g lo r.2.1 (jr acc (r.1,r.2.1,k r.2.2)):=b3R h2 (fun x q1 q2=>by rw [hg,h3 x q1 q2]) hr
  exact a3K (a:=r.2.1) (acc:=jr acc (r.1,r.2.1,k r.2.2)) k hg h4 q
theorem a5a {f:Int→Int} {lo hi:Int} (k:Int→Int) {rows:List Row} (h:FCh f hi lo rows):FCh (fun x=>k (f x)) hi lo (fG (rows.map fun r=>(r.1,r.2.1,k r.2.2))):=by
 have:=a5k (hi2:=hi) (tail:=[]) (a3K (g:=fun x=>k (f x)) (lo:=lo) (acc:=[]) k (fun _=>rfl) h rfl) rfl
 rwa [kM] at this
theorem a5l {f:Int→Int} {hi:Int}:∀ {rows:List Row} {lo:Int},FCh f hi lo rows→lo≤hi∧∀ r∈rows,lo≤r.1∧r.1<r.2.1∧r.2.1≤hi
 | [],lo,h=>⟨by have h:lo=hi:=h;omega,fun _ z=>absurd z (by simp)⟩
 | r::t,lo,⟨h1,h2,h3,h4⟩=>by
  obtain ⟨i1,i2⟩:=a5l h4
  refine ⟨by omega,fun q hq=>?_⟩
  rcases qF.mp hq with rfl | hq
  ·exact ⟨by omega,h2,i1⟩
  ·have:=i2 q hq;omega
def a3H (m:Int) (r:Row):Bool:=decide (r.1≤m)&&decide (m<r.2.1)
theorem b0L {f:Int→Int} {hi:Int} (m:Int):∀ {rows:List Row} {lo:Int},FCh f hi lo rows→((rows.filter (a3H m)).map (·.2.2)=if lo≤m∧m<hi then [f m] else [])
 | [],lo,h=>by have h:lo=hi:=h;subst h;rw [if_neg (by omega)];rfl
 | r::t,lo,⟨h1,h2,h3,h4⟩=>by
  have ih:=b0L m h4
  have le:=a5l h4
  rw [zJ]
  by_cases hr:a3H m r=true
  ·rw [if_pos hr]
   simp only [a3H,qJ,decide_eq_true_eq] at hr
   rw [if_neg (by omega)] at ih
   rw [qG,ih,if_pos (by omega),h3 m hr.1 hr.2]
  ·rw [if_neg hr]
   simp only [a3H,qJ,decide_eq_true_eq] at hr
   rw [ih]
   by_cases hm:r.2.1≤m∧m<hi
   ·rw [if_pos hm,if_pos (by omega)]
   ·rw [if_neg hm,if_neg (by omega)]
def sumF (g:Int→Int) (lo:Int) (n:Nat):Int:=((qd n).map fun (k:Nat)=>g (lo+(k:Int))).sum
theorem dJ (g:Int→Int) (lo:Int) (n:Nat):sumF g lo (n+1)=sumF g lo n+g (lo+n):=by
 unfold sumF;rw [List.range_succ,qj,List.sum_append];simp
def Gap:List (Int×Int)→Prop
 | a::b::t=>a.2<b.1∧Gap (b::t)
 | _=>True
def eI (rows:List Row):List (Int×Int):=(rows.filter fun r=>decide (r.2.2=1)).map fun r=>(r.1,r.2.1)
theorem a6i {f:Int→Int} {hi lo:Int} {rows:List Row} (h:FCh f hi lo rows):∀ p∈eI rows,lo≤p.1∧p.1<p.2:=by
 intro p hp
 obtain ⟨r,hr,rfl⟩:=qU.mp hp
 have:=(a5l h).2 r (qv.mp hr).1
 exact ⟨this.1,this.2.1⟩
theorem a3q {f:Int→Int} {hi:Int}:∀ {rows:List Row} {lo:Int},FCh f hi lo rows→Alt rows→Gap (eI rows)
 | [],_,_,_=>trivial
 | r::t,lo,⟨h1,h2,h3,h4⟩,ha=>by
  have alt':Alt t:=by cases t with
   | nil=>trivial
   | cons q t=>exact ha.2
  have ih:=a3q h4 alt'
  unfold eI
  rw [zJ]
  split
  ·rename_i hm
   have hm:r.2.2=1:=by simpa using hm
   rw [qG]
   cases t with
   | nil=>trivial
   | cons q t=>
    have hq:q.2.2≠1:=fun z=>ha.1 (by rw [hm,z])
    obtain ⟨q1,q2,q3,q4⟩:=h4
    have e:eI (q::t)=eI t:=by unfold eI;rw [zJ,if_neg (by simpa using hq)]
    have ge:=a6i q4
    have ih':Gap (eI t):=by rw [←e];exact ih
    show Gap ((r.1,r.2.1)::eI (q::t))
    rw [e]
    cases ho:eI t with
    | nil=>trivial
    | cons p ps=>
     rw [ho] at ih' ge
     have:=ge p qT
     exact ⟨by show r.2.1<p.1;omega,ih'⟩
  ·exact ih
theorem b2t {f:Int→Int} {hi lo:Int} {rows:List Row} (h:FCh f hi lo rows) (m:Int):((eI rows).filter fun p=>decide (p.1≤m)&&decide (m<p.2)).length=if (lo≤m∧m<hi)∧f m=1 then 1 else 0:=by
 have e:((eI rows).filter fun p=>decide (p.1≤m)&&decide (m<p.2))=((rows.filter (a3H m)).filter fun r=>decide (r.2.2=1)).map fun r=>(r.1,r.2.1):=by
  unfold eI
  rw [vK,List.filter_filter,List.filter_filter]
  congr 1
  apply ky
  intro r _
  show ((decide (r.1≤m)&&decide (m<r.2.1))&&decide (r.2.2=1))=(decide (r.2.2=1)&&a3H m r)
  rw [Bool.and_comm];rfl
 have h2:=b0L m h
 rw [e,qD]
 have e3:((rows.filter (a3H m)).filter fun r=>decide (r.2.2=1)).length=(((rows.filter (a3H m)).map (·.2.2)).filter fun v=>decide (v=1)).length:=by
  rw [vK,qD];rfl
 rw [e3,h2]
 by_cases hm:lo≤m∧m<hi
 ·rw [if_pos hm]
  by_cases hf:f m=1
  ·simp [hf,hm]
  ·rw [if_neg (fun z=>hf z.2)];simp [hf]
 ·rw [if_neg hm,if_neg (fun z=>hm z.1)];rfl
end L2.L3
namespace L2.L3
open PySem
theorem rQ:∀ (ns acc:List Int) (x:Int),x∈ns.foldl (fun a n=>if n∈a then a else a++[n]) acc↔x∈acc∨x∈ns
 | [],acc,x=>by simp
 | n::ns,acc,x=>by
  rw [jG,rQ ns]
  by_cases h:n∈acc
  ·rw [if_pos h];simp;constructor
   ·rintro (h1 | h1);exact .inl h1;exact .inr (.inr h1)
   ·rintro (h1 | rfl | h1);exact .inl h1;exact .inl h;exact .inr h1
  ·rw [if_neg h];simp;constructor
   ·rintro ((h1 | h1) | h1);exact .inl h1;exact .inr (.inl h1);exact .inr (.inr h1)
   ·rintro (h1 | h1 | h1);exact .inl (.inl h1);exact .inl (.inr h1);exact .inr h1
theorem a7M (ns:List Int) (x:Int):x∈gH ns↔x∈ns:=by unfold gH;rw [rQ];simp
theorem nF:∀ (ns acc:List Int),acc.Nodup→(ns.foldl (fun a n=>if n∈a then a else a++[n]) acc).Nodup
 | [],acc,h=>h
 | n::ns,acc,h=>by
  rw [jG]
  refine nF ns _ ?_
  by_cases hn:n∈acc
  ·rw [if_pos hn];exact h
  ·rw [if_neg hn,kt]
   refine ⟨h,by simp,fun a ha b hb=>?_⟩
   rw [qf] at hb
   subst hb
   exact fun z=>hn (z▸ha)
theorem a3t (ns:List Int):(gH ns).Nodup:=nF ns [] List.nodup_nil
def ssI (ns:List Int):List Int:=sortI (gH ns)
theorem mY (ns:List Int):(sortI ns).Perm ns:=vW _ _
theorem a0q (ns:List Int):(sortI ns).Pairwise (·≤·):=by
 have h:=zy (le:=fun (a b:Int)=>decide (a≤b)) (fun a b c h1 h2=>by simp only [decide_eq_true_eq] at *;omega) (fun a b=>by simp only [vP,decide_eq_true_eq];omega) ns
 exact h.imp fun h=>by simpa using h
theorem b2C (ns:List Int) (x:Int):x∈ssI ns↔x∈ns:=by unfold ssI;rw [(mY _).mem_iff,a7M]
theorem a9f (ns:List Int):(ssI ns).Pairwise (·<·):=by
 have h1:=a0q (gH ns)
 have h2:(sortI (gH ns)).Nodup:=(mY _).nodup_iff.mpr (a3t ns)
 exact (h1.and h2).imp fun ⟨a,b⟩=>by omega
theorem a1Y {α:Type} {p:α×α}:∀ {l:List α},p∈prs l→p.1∈l∧p.2∈l
 | [],h=>absurd h (by simp [prs])
 | [a],h=>absurd h (by simp [prs])
 | a::b::r,h=>by
  have h:p=(a,b)∨p∈prs (b::r):=by simpa [prs] using h
  rcases h with rfl | h
  ·exact ⟨qT,qE _ qT⟩
  ·exact ⟨qE _ (a1Y h).1,qE _ (a1Y h).2⟩
theorem xN:∀ {c:List Int},c.Pairwise (·<·)→∀ p∈prs c,p.1<p.2∧∀ x∈c,x≤p.1∨p.2≤x
 | [],_,p,h=>absurd h (by simp [prs])
 | [a],_,p,h=>absurd h (by simp [prs])
 | a::b::r,hc,p,h=>by
  have hc':=hc
  rw [qc] at hc
  obtain ⟨ha,hr⟩:=hc
  have hr':=hr
  rw [qc] at hr'
  have h:p=(a,b)∨p∈prs (b::r):=by simpa [prs] using h
  rcases h with rfl | hq
  ·refine ⟨ha b qT,fun x hx=>?_⟩
   rcases qF.mp hx with rfl | hx
   ·left;exact jo _
   ·right
    rcases qF.mp hx with rfl | hx
    ·exact jo _
    ·exact kX (hr'.1 x hx)
  ·obtain ⟨i1,i2⟩:=xN hr p hq
   refine ⟨i1,fun x hx=>?_⟩
   rcases qF.mp hx with rfl | hx
   ·left
    have:p.1∈b::r:=(a1Y hq).1
    exact kX (ha _ this)
   ·exact i2 x hx
theorem a5L {α:Type} (φ:α→PyData):∀ xs:List α,a2R (xs.map φ) ((xs.map φ).drop 1)=(prs xs).map fun p=>.tuple [φ p.1,φ p.2]
 | []=>rfl
 | [a]=>rfl
 | a::b::r=>by
  have ih:=a5L φ (b::r)
  simp only [a2R,prs,qG,List.drop_one,List.tail_cons,List.zip_cons_cons] at ih ⊢
  rw [ih]
theorem b7w (ds:List PyData):cutD ds (some 1) none=ds.drop 1:=by
 unfold cutD
 have e:HT.sIx ds.length 0 (some 1)=min 1 ds.length:=by
  unfold HT.sIx
  dsimp only
  rw [if_neg (by decide)];rfl
 have e2:HT.sIx ds.length ds.length none=ds.length:=rfl
 rw [e,e2]
 by_cases h:1≤ds.length
 ·rw [Nat.min_eq_left h,kl (by simp)]
 ·have:ds=[]:=by cases ds with
   | nil=>rfl
   | cons a r=>simp at h
  subst this;rfl
theorem a7n {ns:List Int} (h:ns.length<64):oK (.list (ns.map .int))=some (.list ((ssI ns).map .int)):=by
 unfold oK
 dsimp only
 rw [a1o]
 dsimp only
 rw [if_pos h]
 rfl
theorem b3D {α:Type} {ρ:List Ent} {fa:EF} (φ:α→PyData) {xs:List α} (h:fa ρ=some (.ok (.list (xs.map φ)))):a8H fa (slE fa (a1a (cst (.int 1))) a1b) ρ=some (.ok ((prs xs).map fun p=>.tuple [φ p.1,φ p.2])):=by
 have hs:slE fa (a1a (cst (.int 1))) a1b ρ=some (.ok (.list ((xs.map φ).drop 1))):=by
  unfold slE a1a a1b
  rw [a2L h]
  simp only [b3X,bV,b5C,Option.map_some,yA]
  unfold slD
  dsimp only
  rw [b7w]
  rfl
 unfold a8H
 rw [h,hs]
 dsimp only
 rw [a5L]
end L2.L3
namespace L2.L3
open PySem
abbrev a7i:TF:=thT (a0D (rB (var 1)) (cH eqD (op2 ixD (op2 ixD (var 1) (op1 xU (cst (.int 1)))) (cst (.int 2))) (var 4)))
abbrev a8y:SF:=ifS a7i (b1U 1 (op1 xU (cst (.int 1))) (fN (aC (thE (op2 ixD (op2 ixD (var 1) (op1 xU (cst (.int 1)))) (cst (.int 0)))) (aC (var 3) (aC (var 4) aG))))) (a2P 1 (fN (aC (var 2) (aC (var 3) (aC (var 4) aG)))))
def yM:SF:=(bI (a7E 1 aG) (bI (a2t (.tp [2,3,4]) (cY (var 0)) a8y) (a3J 1 (retS (var 1)))))
def lR:List PyData→Mm PyData:=eA 5 1 yM
abbrev a3C:EF:=cE (.tp [0,1,2]) [none,none,none,some 1] (cY (var 0)) (a3Z leD ltD (var 1) (var 3) (var 2)) (var 0)
def pO:SF:=(retS a3C)
def mP:List PyData→Mm PyData:=eA 2 2 pO
def uB:SF:=(retS (cI yB (aC (aU mP (aC (var 0) (aC (var 1) aG))) aG)))
def lO:List PyData→Mm PyData:=eA 2 2 uB
abbrev b0n:EF:=cE (.tp [0,1,2]) [none,none,none] (cY (var 0)) ttT (var 1)
abbrev b0l:EF:=cE (.tp [0,1,2]) [none,none,none] (cY (var 0)) ttT (var 2)
abbrev b0j:EF:=cE (.tp [0,1]) [none,none,some 0] (a8G (var 3) (slE (var 3) (a1a (cst (.int 1))) a1b)) ttT (fN (aC (var 0) (aC (var 1) (aC (aU lO (aC (var 2) (aC (var 0) aG))) aG))))
def a2v:SF:=(bI (dW 1 b0n) (bI (dW 2 b0l) (bI (dW 3 (op1 oK (op2 cU (var 1) (var 2)))) (retS (aU lR (aC b0j aG))))))
def sQ:List PyData→Mm PyData:=eA 4 1 a2v
abbrev b2G:EF:=cE (.tp [0,1,2]) [none,none,none] (cY (aU sQ (aC (var 0) aG))) ttT (fN (aC (var 0) (aC (var 1) (aC (cI a7L (aC (var 2) (aC (cst (.int 1)) aG))) aG))))
abbrev b2F:EF:=cE (.tp [0,1,2]) [none,none,none] (cY (var 1)) (cH eqD (var 2) (cst (.int 1))) (fN (aC (var 0) (aC (var 1) aG)))
def a5n:SF:=(bI (dW 1 (aU lR (aC b2G aG))) (retS b2F))
def a0o:List PyData→Mm PyData:=eA 2 1 a5n
theorem b1y {α:Type} {ρ:List Ent} {fa:EF} (φ:α→PyData) {xs:List α} (h:fa ρ=some (.ok (.list (xs.map φ)))):a8G fa (slE fa (a1a (cst (.int 1))) a1b) ρ=some (.ok ((prs xs).map fun p=>.tuple [φ p.1,φ p.2])):=by
 have z:=b3D φ h
 unfold a8G
 rw [z]
def bS (m:Int) (x:Mt):Bool:=decide (x.2.1≤m)&&decide (m<x.2.2)
def iP (s:List Mt) (m:Int):List Str:=(s.filter (bS m)).map (·.1)
def aS (s:List Mt) (m:Int):Int:=((iP s m).length:Nat)
theorem a5p (s:List Mt) (m:Int) (h:s.length≤100000):mP [dS s,.int m]=some (.ok (.list ((iP s m).map .str))):=by
 refine bZ rfl ?_
 show pO [.val (dS s),.val (.int m)]=_
 unfold pO
 have:=dC (t:=.tp [0,1,2]) (cap:=[none,none,none,some 1]) (fi:=cY (var 0)) (ft:=a3Z leD ltD (var 1) (var 3) (var 2)) (fe:=var 0) (ρ:=[.val (dS s),.val (.int m)]) dM (fun x=>[.val (.str x.1),.val (.int x.2.1),.val (.int x.2.2),.val (.int m)]) (bS m) (fun x=>.str x.1) s rfl h (fun x _=>rfl) (fun x _=>by simp [a6u,bS]) (fun x _ _=>rfl)
 rw [fC,gI this]
 simp [iP]
theorem a8d (s:List Mt) (m:Int) (h:s.length≤100000):lO [dS s,.int m]=some (.ok (.int (aS s m))):=by
 refine bZ rfl ?_
 show uB [.val (dS s),.val (.int m)]=_
 simp [uB,a5p s m h,aS]
theorem a3P (rows:List Row) (h:rows.length≤1000):lR [.list (rows.map dR)]=some (.ok (.list ((fG rows).map dR))):=by
 refine bZ rfl ?_
 show yM [.val (.list (rows.map dR)),.no,.no,.no,.no]=_
 unfold yM
 rw [aQ (ρ':=[.val (.list (rows.map dR)),.lst [],.no,.no,.no]) (by simp)]
 have turns:=lI (t:=.tp [2,3,4]) dR (fun m ρ=>∃ x y z,ρ=[.val (.list (rows.map dR)),.lst (((rows.take m).foldl jr []).reverse.map dR),x,y,z])
  (fb:=(ifS (thT (a0D (rB (var 1)) (cH eqD (op2 ixD (op2 ixD (var 1) (op1 xU (cst (.int 1)))) (cst (.int 2))) (var 4)))) (b1U 1 (op1 xU (cst (.int 1))) (fN (aC (thE (op2 ixD (op2 ixD (var 1) (op1 xU (cst (.int 1)))) (cst (.int 0)))) (aC (var 3) (aC (var 4) aG))))) (a2P 1 (fN (aC (var 2) (aC (var 3) (aC (var 4) aG)))))))
  rows 0 [.val (.list (rows.map dR)),.lst [],.no,.no,.no] ⟨.no,.no,.no,rfl⟩ (by
   intro k r ρ hk ⟨x,y,z,e⟩
   subst e
   have hk1:k<rows.length:=(qS.mp hk).1
   have hj:∀ (acc:List Row) (a:Row),(jr acc a).length≤acc.length+1:=by
    intro acc a
    cases acc with
    | nil=>simp [jr]
    | cons c t=>
     by_cases hc:c.2.2=a.2.2
     ·rw [tW hc];simp
     ·rw [tX hc];simp
   have hlen:∀ (l acc:List Row),(l.foldl jr acc).length≤acc.length+l.length:=by
    intro l
    induction l with
    | nil=>intro acc;simp
    | cons a l ih=>
     intro acc
     have:=ih (jr acc a)
     have h2:=hj acc a
     simp only [jG,qi]
     omega
   have hl:=hlen (rows.take k) []
   rw [ji] at hl
   have stp:(rows.take (k+1)).foldl jr []=jr ((rows.take k).foldl jr []) r:=by
    rw [List.take_succ,hk,vo];rfl
   rw [vJ,stp]
   generalize (rows.take k).foldl jr []=acc at hl ⊢
   have ap:a2P 1 (fN (aC (var 2) (aC (var 3) (aC (var 4) aG)))) [.val (.list (rows.map dR)),.lst (acc.reverse.map dR),.val (.int r.1),.val (.int r.2.1),.val (.int r.2.2)]=some (.nx [.val (.list (rows.map dR)),.lst (acc.reverse.map dR++[dR r]),.val (.int r.1),.val (.int r.2.1),.val (.int r.2.2)]):=
    a6Z rfl (by simp) (by simp at hl ⊢;omega)
   cases acc with
   | nil=>
    refine ⟨[.val (.list (rows.map dR)),.lst [],.val (.int r.1),.val (.int r.2.1),.val (.int r.2.2)],[.val (.list (rows.map dR)),.lst [dR r],.val (.int r.1),.val (.int r.2.1),.val (.int r.2.2)],rfl,.inl ?_,.val (.int r.1),.val (.int r.2.1),.val (.int r.2.2),rfl⟩
    have ht:thT (a0D (rB (var 1)) (cH eqD (op2 ixD (op2 ixD (var 1) (op1 xU (cst (.int 1)))) (cst (.int 2))) (var 4))) [.val (.list (rows.map dR)),.lst [],.val (.int r.1),.val (.int r.2.1),.val (.int r.2.2)]=some (.ok false):=by
     simp [thT,frzAll,gT]
    rw [nR,gI ht]
    exact ap
   | cons a t=>
    have er:(a::t).reverse.map dR=t.reverse.map dR++[dR a]:=by simp
    have ll:(t.reverse.map dR).length=t.length:=by simp
    rw [er] at ap ⊢
    generalize hL:t.reverse.map dR=L at ap ll ⊢
    have hlast:atI (L++[dR a]) (-1)=some (dR a):=b3B _ _
    have ht:thT (a0D (rB (var 1)) (cH eqD (op2 ixD (op2 ixD (var 1) (op1 xU (cst (.int 1)))) (cst (.int 2))) (var 4))) [.val (.list (rows.map dR)),.lst (L++[dR a]),.val (.int r.1),.val (.int r.2.1),.val (.int r.2.2)]=some (.ok (decide (a.2.2=r.2.2))):=by
     simp [thT,frzAll,gT,hlast]
    have ht0:thE (op2 ixD (op2 ixD (var 1) (op1 xU (cst (.int 1)))) (cst (.int 0))) [.val (.list (rows.map dR)),.lst (L++[dR a]),.val (.int r.1),.val (.int r.2.1),.val (.int r.2.2)]=some (.ok (.int a.1)):=by
     simp [thE,frzAll,gT,hlast,xO]
    by_cases he:a.2.2=r.2.2
    ·refine ⟨[.val (.list (rows.map dR)),.lst (L++[dR a]),.val (.int r.1),.val (.int r.2.1),.val (.int r.2.2)],[.val (.list (rows.map dR)),.lst (L++[dR (a.1,r.2.1,r.2.2)]),.val (.int r.1),.val (.int r.2.1),.val (.int r.2.2)],rfl,.inl ?_,.val (.int r.1),.val (.int r.2.1),.val (.int r.2.2),?_⟩
     ·rw [nR,gI ht,if_pos (by simpa using he)]
      have hix:ixN ((L++[dR a]).length) (-1)=some L.length:=by
       unfold ixN
       rw [if_neg (by decide),if_pos (by simp;omega)]
       simp;omega
      unfold b1U
      rw [gI (a:=dR (a.1,r.2.1,r.2.2)) (by simp only [wR,gA,ht0,bV,a2T,wQ,pV,a6m];rfl)]
      show (match ixN ((L++[dR a]).length) (-1) with | some j=>some (So.nx [.val (.list (rows.map dR)),.lst ((L++[dR a]).set j (dR (a.1,r.2.1,r.2.2))),.val (.int r.1),.val (.int r.2.1),.val (.int r.2.2)]) | none=>none)=_
      rw [hix]
      simp
     ·rw [tW he,kr,qj,hL];rfl
    ·refine ⟨[.val (.list (rows.map dR)),.lst (L++[dR a]),.val (.int r.1),.val (.int r.2.1),.val (.int r.2.2)],[.val (.list (rows.map dR)),.lst (L++[dR a]++[dR r]),.val (.int r.1),.val (.int r.2.1),.val (.int r.2.2)],rfl,.inl ?_,.val (.int r.1),.val (.int r.2.1),.val (.int r.2.2),?_⟩
     ·rw [nR,gI ht,if_neg (by simpa using he)]
      exact ap
     ·rw [tX he,kr,qj,er,hL];rfl)
 obtain ⟨ρ',e,x,y,z,rfl⟩:=turns
 rw [vJ,wB] at e
 rw [aQ (by rw [yJ];simp only [a9h,wQ,bV,b4v,yA,lM];exact e)]
 show retS (var 1) [.val (.list (rows.map dR)),.val (.list ((rows.foldl jr []).reverse.map dR)),x,y,z]=_
 simp [fG]
def cutsOf (s:List Mt):List Int:=ssI (s.map (·.2.1)++s.map (·.2.2))
def eL (s:List Mt):List Row:=fG (rowsOf (aS s) (cutsOf s))
def gE (s:List Mt):List Row:=fG ((eL s).map fun r=>(r.1,r.2.1,min r.2.2 1))
def bG (s:List Mt):List (Int×Int):=eI (gE s)
abbrev dP (p:Int×Int):PyData:=.tuple [.int p.1,.int p.2]
theorem a1Z {α:Type}:∀ l:List α,(prs l).length≤l.length
 | []=>by simp [prs]
 | [a]=>by simp [prs]
 | a::b::r=>by have:=a1Z (b::r);simp only [prs,qi] at this ⊢;omega
theorem mM:∀ (ns acc:List Int),(ns.foldl (fun a n=>if n∈a then a else a++[n]) acc).length≤acc.length+ns.length
 | [],acc=>by simp
 | n::ns,acc=>by
  rw [jG]
  by_cases h:n∈acc
  ·rw [if_pos h];have:=mM ns acc;simp only [qi];omega
  ·rw [if_neg h];have:=mM ns (acc++[n]);simp only [jA,qi,List.length_nil] at this ⊢;omega
theorem b1J (ns:List Int):(ssI ns).length≤ns.length:=by
 unfold ssI
 rw [(mY _).length_eq]
 have:=mM ns []
 simpa [gH] using this
theorem pL (rows:List Row):(fG rows).length≤rows.length:=by
 have hj:∀ (acc:List Row) (a:Row),(jr acc a).length≤acc.length+1:=by
  intro acc a
  cases acc with
  | nil=>simp [jr]
  | cons c t=>
   by_cases hc:c.2.2=a.2.2
   ·rw [tW hc];simp
   ·rw [tX hc];simp
 have hlen:∀ (l acc:List Row),(l.foldl jr acc).length≤acc.length+l.length:=by
  intro l
  induction l with
  | nil=>intro acc;simp
  | cons a l ih=>
   intro acc
   have:=ih (jr acc a)
   have h2:=hj acc a
   simp only [jG,qi]
   omega
 have:=hlen rows []
 unfold fG
 simpa using this
theorem a3U (s:List Mt):(cutsOf s).length≤2*s.length:=by
 have:=b1J (s.map (·.2.1)++s.map (·.2.2))
 simp only [jA,qD] at this
 unfold cutsOf;omega
theorem a0K (s:List Mt):(eL s).length≤2*s.length:=by
 have h1:=pL (rowsOf (aS s) (cutsOf s))
 have h2:=a1Z (cutsOf s)
 have h3:=a3U s
 unfold eL
 simp only [rowsOf,qD] at h1 ⊢
 omega
theorem b3a (s:List Mt) (h:s.length≤30):sQ [dS s]=some (.ok (.list ((eL s).map dR))):=by
 refine bZ rfl ?_
 show a2v [.val (dS s),.no,.no,.no]=_
 unfold a2v
 have c1:=cK (t:=.tp [0,1,2]) (cap:=[none,none,none]) (fi:=cY (var 0)) (fe:=var 1) (ρ:=[.val (dS s),.no,.no,.no]) dM (fun x=>[.val (.str x.1),.val (.int x.2.1),.val (.int x.2.2)]) (fun x=>.int x.2.1) s rfl (by omega) (fun x _=>rfl) (fun x _=>rfl)
 rw [aQ (ρ':=[.val (dS s),.val (.list ((s.map (·.2.1)).map .int)),.no,.no]) (by rw [dY,gI c1];simp [qV,zw])]
 have c2:=cK (t:=.tp [0,1,2]) (cap:=[none,none,none]) (fi:=cY (var 0)) (fe:=var 2) (ρ:=[.val (dS s),.val (.list ((s.map (·.2.1)).map .int)),.no,.no]) dM (fun x=>[.val (.str x.1),.val (.int x.2.1),.val (.int x.2.2)]) (fun x=>.int x.2.2) s rfl (by omega) (fun x _=>rfl) (fun x _=>rfl)
 rw [aQ (ρ':=[.val (dS s),.val (.list ((s.map (·.2.1)).map .int)),.val (.list ((s.map (·.2.2)).map .int)),.no]) (by rw [dY,gI c2];simp [qV,zw])]
 have c3:op1 oK (op2 cU (var 1) (var 2)) [.val (dS s),.val (.list ((s.map (·.2.1)).map .int)),.val (.list ((s.map (·.2.2)).map .int)),.no]=some (.ok (.list ((cutsOf s).map .int))):=by
  have ha:cU (.list ((s.map (·.2.1)).map .int)) (.list ((s.map (·.2.2)).map .int))=some (.list ((s.map (·.2.1)++s.map (·.2.2)).map .int)):=by
   rw [b1z,if_pos (by simp;omega),qj]
  have hs:=a7n (ns:=s.map (·.2.1)++s.map (·.2.2)) (by simp;omega)
  simp only [a9J,a6h,a2T,wQ,bV,ha,yA,hs]
  rfl
 rw [aQ (ρ':=[.val (dS s),.val (.list ((s.map (·.2.1)).map .int)),.val (.list ((s.map (·.2.2)).map .int)),.val (.list ((cutsOf s).map .int))]) (by rw [dY,gI c3];rfl)]
 have z:=b1y (fa:=var 3) (ρ:=[.val (dS s),.val (.list ((s.map (·.2.1)).map .int)),.val (.list ((s.map (·.2.2)).map .int)),.val (.list ((cutsOf s).map .int))]) jv (xs:=cutsOf s) rfl
 have hl:=a1Z (cutsOf s)
 have hc:=a3U s
 have c4:=cK (t:=.tp [0,1]) (cap:=[none,none,some 0]) (fe:=fN (aC (var 0) (aC (var 1) (aC (aU lO (aC (var 2) (aC (var 0) aG))) aG)))) (fun p:Int×Int=>.tuple [.int p.1,.int p.2]) (fun p=>[.val (.int p.1),.val (.int p.2),.val (dS s)]) (fun p=>dR (p.1,p.2,aS s p.1)) (prs (cutsOf s)) z (by omega) (fun x _=>rfl) (fun x _=>by simp [a8d s x.1 (by omega)])
 have c5:(prs (cutsOf s)).map (fun p=>dR (p.1,p.2,aS s p.1))=(rowsOf (aS s) (cutsOf s)).map dR:=by simp [rowsOf]
 rw [c5] at c4
 have ej:=a3P (rowsOf (aS s) (cutsOf s)) (by simp [rowsOf];omega)
 simp only [fC,sK,gA,a2L c4,pV,bV,ej,lM]
 rfl
theorem b0R (s:List Mt) (h:s.length≤30):a0o [dS s]=some (.ok (.list ((bG s).map dP))):=by
 refine bZ rfl ?_
 show a5n [.val (dS s),.no]=_
 unfold a5n
 have hl:=a0K s
 have c1:=cK (t:=.tp [0,1,2]) (cap:=[none,none,none]) (fi:=cY (aU sQ (aC (var 0) aG))) (fe:=fN (aC (var 0) (aC (var 1) (aC (cI a7L (aC (var 2) (aC (cst (.int 1)) aG))) aG)))) (ρ:=[.val (dS s),.no]) dR (fun x=>[.val (.int x.1),.val (.int x.2.1),.val (.int x.2.2)]) (fun x=>dR (x.1,x.2.1,min x.2.2 1)) (eL s) (by simp [b3a s h]) (by omega) (fun x _=>rfl) (fun x _=>by simp)
 have c2:(eL s).map (fun x=>dR (x.1,x.2.1,min x.2.2 1))=((eL s).map fun r=>(r.1,r.2.1,min r.2.2 1)).map dR:=by simp
 rw [c2] at c1
 have ej:=a3P ((eL s).map fun r=>(r.1,r.2.1,min r.2.2 1)) (by simp;omega)
 have hl2:=pL ((eL s).map fun r=>(r.1,r.2.1,min r.2.2 1))
 rw [qD] at hl2
 rw [aQ (ρ':=[.val (dS s),.val (.list ((gE s).map dR))]) (by simp only [dY,sK,gA,a2L c1,pV,bV,ej,lM];rfl)]
 have c3:=dC (t:=.tp [0,1,2]) (cap:=[none,none,none]) (fi:=cY (var 1)) (ft:=cH eqD (var 2) (cst (.int 1))) (fe:=fN (aC (var 0) (aC (var 1) aG))) (ρ:=[.val (dS s),.val (.list ((gE s).map dR))]) dR (fun x=>[.val (.int x.1),.val (.int x.2.1),.val (.int x.2.2)]) (fun r=>decide (r.2.2=1)) (fun r=>dP (r.1,r.2.1)) (gE s) rfl (by unfold gE;omega) (fun x _=>rfl) (fun x _=>by simp) (fun x _ _=>by simp)
 rw [fC,gI c3]
 simp [bG,eI]
theorem nN {s:List Mt} (x:Int):x∈cutsOf s↔(∃ m∈s,m.2.1=x)∨∃ m∈s,m.2.2=x:=by
 unfold cutsOf;rw [b2C];simp
theorem a7Q {s:List Mt}:Flat (aS s) (cutsOf s):=by
 intro p hp
 obtain ⟨h1,h2⟩:=xN (a9f _) p hp
 refine ⟨h1,fun x q1 q2=>?_⟩
 unfold aS iP
 have:s.filter (bS x)=s.filter (bS p.1):=by
  apply ky
  intro m hm
  have b1:=h2 m.2.1 ((nN _).mpr (.inl ⟨m,hm,rfl⟩))
  have b2:=h2 m.2.2 ((nN _).mpr (.inr ⟨m,hm,rfl⟩))
  unfold bS
  have e1:(m.2.1≤x)=(m.2.1≤p.1):=propext ⟨fun _=>by omega,fun _=>by omega⟩
  have e2:(x<m.2.2)=(p.1<m.2.2):=propext ⟨fun _=>by omega,fun _=>by omega⟩
  simp only [e1,e2]
 rw [this]
theorem a6p (s:List Mt) (m:Int):0≤aS s m:=by unfold aS;omega
theorem tS {s:List Mt} {m:Int} (h:∀ x∈s,¬(x.2.1≤m∧m<x.2.2)):aS s m=0:=by
 unfold aS iP
 rw [vE.mpr (fun x hx=>by
  have:=h x hx
  unfold bS
  simp only [qJ,decide_eq_true_eq]
  exact this)]
 rfl
structure Ends' (s:List Mt) (lo hi:Int) (r:List Int):Prop where
 eq:cutsOf s=lo::r
 last:lastOf lo r=hi
 lo_le:∀ x∈s,lo≤x.2.1
 hi_ge:∀ x∈s,x.2.2≤hi
theorem a2n:∀ {a:Int} {r:List Int},(a::r).Pairwise (·<·)→∀ x∈a::r,x≤lastOf a r
 | a,[],_,x,hx=>by simp at hx;subst hx;exact jo _
 | a,b::r,h,x,hx=>by
  rw [qc] at h
  rcases qF.mp hx with rfl | hx
  ·exact kX (Int.lt_of_lt_of_le (h.1 b qT) (a2n h.2 b qT))
  ·exact a2n h.2 x hx
theorem a6I {s:List Mt} (h:s≠[]):∃ lo hi r,Ends' s lo hi r:=by
 cases hc:cutsOf s with
 | nil=>
  exfalso
  cases s with
  | nil=>exact h rfl
  | cons x s=>have:=(nN (s:=x::s) x.2.1).mpr (.inl ⟨x,qT,rfl⟩);rw [hc] at this;simp at this
 | cons lo r=>
  have hp:(lo::r).Pairwise (·<·):=by rw [←hc];exact a9f _
  refine ⟨lo,lastOf lo r,r,hc,rfl,fun x hx=>?_,fun x hx=>?_⟩
  ·have:=(nN (s:=s) x.2.1).mpr (.inl ⟨x,hx,rfl⟩)
   rw [hc] at this
   rw [qc] at hp
   rcases qF.mp this with h | h
   ·omega
   ·exact kX (hp.1 _ h)
  ·have:=(nN (s:=s) x.2.2).mpr (.inr ⟨x,hx,rfl⟩)
   rw [hc] at this
   exact a2n hp _ this
section
variable {s:List Mt} {lo hi:Int} {r:List Int}
theorem Ends'.steps (E:Ends' s lo hi r):FCh (aS s) hi lo (eL s):=by
 unfold eL
 have h:=a7Q (s:=s)
 rw [E.eq] at h ⊢
 rw [←E.last]
 exact a7W h
theorem Ends'.busy (E:Ends' s lo hi r):FCh (fun x=>min (aS s x) 1) hi lo (gE s):=a5a (fun v=>min v 1) E.steps
theorem Ends'.out (E:Ends' s lo hi r) {m:Int} (h:¬(lo≤m∧m<hi)):aS s m=0:=tS fun x hx z=>by
 have:=E.lo_le x hx;have:=E.hi_ge x hx;omega
end
theorem sL (s:List Mt):(∀ p∈bG s,p.1<p.2)∧Gap (bG s):=by
 by_cases h:s=[]
 ·subst h
  have e:bG []=[]:=by decide +kernel
  rw [e]
  exact ⟨fun p hp=>(by cases hp),trivial⟩
 ·obtain ⟨lo,hi,r,E⟩:=a6I h
  exact ⟨fun p hp=>(a6i E.busy p hp).2,a3q E.busy (a5b _)⟩
theorem a4g (s:List Mt):(bG s).length≤2*s.length:=by
 have bl:=pL ((eL s).map fun r=>(r.1,r.2.1,min r.2.2 1))
 have sl:=a0K s
 rw [qD] at bl
 unfold bG eI gE
 rw [qD]
 exact ql (kJ _ _) (by omega)
theorem ifF {t:TF} {f:SF} {g:SF} {ρ:List Ent} (h:t ρ=some (.ok false)):bI (ifS t f iY) g ρ=g ρ:=aQ (by rw [nR,gI h];rfl)
end L2.L3
namespace L2.ST
open PySem PySem.W PyProof.Rows
section
variable {α β:Type} {lt:Nat→Nat→Bool} {n:Nat}
def run (lt:Nat→Nat→Bool):KasT α→α
 | .ret a=>a
 | .ask i j k=>run lt (k (lt i j))
def asks (n:Nat) (lt:Nat→Nat→Bool):KasT α→Prop
 | .ret _=>True
 | .ask i j k=>i<n∧j<n∧asks n lt (k (lt i j))
def Hq (n:Nat) (lt:Nat→Nat→Bool) (t:KasT α) (Q:α→Prop):Prop:=asks n lt t∧Q (run lt t)
theorem iC {a:α} {Q:α→Prop} (h:Q a):Hq n lt (.ret a) Q:=⟨trivial,h⟩
theorem uA {i j:Nat} {k:Bool→KasT α} {Q:α→Prop} (hi:i<n) (hj:j<n) (h:Hq n lt (k (lt i j)) Q):Hq n lt (.ask i j k) Q:=⟨⟨hi,hj,h.1⟩,h.2⟩
theorem oG {f:α→KasT β} {Q:β→Prop}:∀ {t:KasT α},Hq n lt t (fun a=>Hq n lt (f a) Q)→Hq n lt (t.bind f) Q
 | .ret _,h=>h.2
 | .ask i j k,h=>uA h.1.1 h.1.2.1 (oG (t:=k (lt i j)) ⟨h.1.2.2,h.2⟩)
theorem gS {t:KasT α} {Q Q':α→Prop} (h:Hq n lt t Q) (hq:∀ a,Q a→Q' a):Hq n lt t Q':=⟨h.1,hq _ h.2⟩
theorem wp_run {cmp:Nat→Nat→(Bool→Shared→Prop)→Shared→Prop} {s:Shared} (hc:∀ i j C,i<n→j<n→C (lt i j) s→cmp i j C s):∀ (t:KasT α) {Q:α→Shared→Prop},asks n lt t→Q (run lt t) s→t.kasWp cmp Q s
 | .ret _,_,_,h=>h
 | .ask i j k,Q,a,h=>hc i j _ a.1 a.2.1 (wp_run hc (k (lt i j)) a.2.2 h)
end
section
variable {r:Nat→Int} {n:Nat} {p:Array Nat}
def vl (r:Nat→Int) (p:Array Nat) (k:Nat):Int:=r (p.getD k 0)
def ltr (r:Nat→Int) (i j:Nat):Bool:=decide (r i<r j)
def Up (r:Nat→Int) (p:Array Nat) (k:Nat):Prop:=∀ i j,i≤j→j<k→vl r p i≤vl r p j
def pW (r:Nat→Int) (p:Array Nat) (k:Nat):Prop:=∀ i j,i≤j→j<k→vl r p j≤vl r p i
structure Pm (n:Nat) (p:Array Nat):Prop where
 size:p.size=n
 perm:p.Perm (qd n).toArray
theorem Pm.lt (h:Pm n p) (hn:0<n) (k:Nat):p.getD k 0<n:=by
 by_cases hk:k<p.size
 ·have e:p.getD k 0=p[k]:=by simp [zF,hk]
  rw [e]
  have:p[k]∈(qd n).toArray:=h.perm.mem_iff.mp (Array.getElem_mem hk)
  simpa using this
 ·have e:p.getD k 0=0:=by simp [zF,hk]
  rw [e];exact hn
theorem Pm.rev (h:Pm n p) (i j:Nat):Pm n (kas_rev p i j):=⟨by unfold kas_rev;rw [mirror_size];exact h.size,(mirror_perm _ _ _ _).trans h.perm⟩
theorem Pm.bub (h:Pm n p) (i j:Nat):Pm n (bubble p i j):=⟨by rw [bubble_size];exact h.size,(bubble_perm _ _ _).trans h.perm⟩
theorem rX {p q:Array Nat} {i j:Nat} (h:p[i]?=q[j]?):p.getD i 0=q.getD j 0:=by
 rw [Array.getD_eq_getD_getElem?,Array.getD_eq_getD_getElem?,h]
theorem a4m {i j:Nat} (hj:j≤p.size) (k:Nat):vl r (kas_rev p i j) k=if i≤k∧k<j then vl r p (i+j - 1 - k) else vl r p k:=by
 have e:=getElem?_mirror_all (i:=i) hj k
 unfold vl kas_rev
 by_cases h:i≤k∧k<j
 ·rw [if_pos h] at e ⊢;rw [rX e]
 ·rw [if_neg h] at e ⊢;rw [rX e]
theorem a8Q {src d:Nat} (hs:src<p.size) (hd:d≤src) (k:Nat):vl r (bubble p src d) k=if k=src - d then vl r p src else if src - d<k∧k≤src then vl r p (k - 1) else vl r p k:=by
 have e:=getElem?_bubble hs d hd k
 unfold vl
 by_cases h:k=src - d
 ·rw [if_pos h] at e ⊢;rw [rX e]
 ·rw [if_neg h] at e ⊢
  by_cases h2:src - d<k∧k≤src
  ·rw [if_pos h2] at e ⊢;rw [rX e]
  ·rw [if_neg h2] at e ⊢;rw [rX e]
theorem Up.snoc {k:Nat} (h:Up r p k) (hk:0<k) (hl:vl r p (k - 1)≤vl r p k):Up r p (k+1):=fun i j hij hj=>by
 by_cases e:j=k
 ·subst e
  by_cases e2:i=j
  ·subst e2;exact jo _
  ·exact Int.le_trans (h i (j - 1) (by omega) (by omega)) hl
 ·exact h i j hij (by omega)
theorem pW.snoc {k:Nat} (h:pW r p k) (hk:0<k) (hl:vl r p k≤vl r p (k - 1)):pW r p (k+1):=fun i j hij hj=>by
 by_cases e:j=k
 ·subst e
  by_cases e2:i=j
  ·subst e2;exact jo _
  ·exact Int.le_trans hl (h i (j - 1) (by omega) (by omega))
 ·exact h i j hij (by omega)
theorem b0A (P:Pm n p) (hn:0<n):∀ (f m:Nat),0<m→Up r p m→Hq n (ltr r) (kas_asc p f m) (fun k=>m≤k∧k≤m+f∧Up r p k∧(k<m+f→vl r p k<vl r p (k - 1)))
 | 0,m,hm,h=>iC ⟨qN _,qN _,h,fun z=>absurd z (by omega)⟩
 | f+1,m,hm,h=>by
  refine uA (P.lt hn _) (P.lt hn _) ?_
  by_cases c:r (p.getD m 0)<r (p.getD (m - 1) 0)
  ·rw [show ltr r (p.getD m 0) (p.getD (m - 1) 0)=true from decide_eq_true c,if_pos rfl]
   exact iC ⟨qN _,by omega,h,fun _=>c⟩
  ·rw [show ltr r (p.getD m 0) (p.getD (m - 1) 0)=false from decide_eq_false c,if_neg (by simp)]
   exact gS (b0A P hn f (m+1) (by omega) (h.snoc hm (Int.not_lt.mp c))) fun k ⟨a,b,c,d⟩=>⟨by omega,by omega,c,fun z=>d (by omega)⟩
theorem a1J {i j:Nat} (hj:j≤p.size) (he:∀ k,i≤k→k<j→vl r p k=vl r p (j - 1)) (k:Nat):vl r (kas_rev p i j) k=vl r p k:=by
 rw [a4m hj]
 by_cases h:i≤k∧k<j
 ·rw [if_pos h,he _ (by omega) (by omega),he k h.1 h.2]
 ·rw [if_neg h]
theorem pW.cong {p':Array Nat} {k:Nat} (e:∀ k,vl r p' k=vl r p k) (h:pW r p k):pW r p' k:=fun i j a b=>by rw [e,e];exact h i j a b
theorem a2s (hn:0<n):∀ (f:Nat) (p:Array Nat) (m q:Nat),Pm n p→q<m→m+f≤n→pW r p m→(∀ k,m - (q+1)≤k→k<m→vl r p k=vl r p (m - 1)) →
  Hq n (ltr r) (kas_desc f p m q) (fun x=>Pm n x.1∧m≤x.2.1∧x.2.1≤m+f∧x.2.2<x.2.1∧pW r x.1 x.2.1∧∀ k,x.2.1 - (x.2.2+1)≤k→k<x.2.1→vl r x.1 k=vl r x.1 (x.2.1 - 1))
 | 0,p,m,q,P,hq,hm,hd,he=>iC ⟨P,qN _,qN _,hq,hd,he⟩
 | f+1,p,m,q,P,hq,hm,hd,he=>by
  have one:∀ p':Array Nat,∀ k,m+1 - (0+1)≤k→k<m+1→vl r p' k=vl r p' (m+1 - 1):=fun p' k a b=>by rw [show k=m+1 - 1 by omega]
  refine uA (P.lt hn _) (P.lt hn _) ?_
  by_cases c:r (p.getD m 0)<r (p.getD (m - 1) 0)
  ·rw [show ltr r (p.getD m 0) (p.getD (m - 1) 0)=true from decide_eq_true c,if_pos rfl]
   have hd':=hd.snoc (by omega) (kX c)
   by_cases q0:q > 0
   ·rw [if_pos q0]
    have e:=a1J (i:=m - (q+1)) (j:=m) (by rw [P.size];omega) he
    exact gS (a2s hn f _ (m+1) 0 (P.rev _ _) (by omega) (by omega) (hd'.cong e) (one _)) fun x ⟨a,b,c,d,e,g⟩=>⟨a,by omega,by omega,d,e,g⟩
   ·rw [if_neg q0]
    exact gS (a2s hn f _ (m+1) 0 P (by omega) (by omega) hd' (one _)) fun x ⟨a,b,c,d,e,g⟩=>⟨a,by omega,by omega,d,e,g⟩
  ·rw [show ltr r (p.getD m 0) (p.getD (m - 1) 0)=false from decide_eq_false c,if_neg (by simp)]
   refine uA (P.lt hn _) (P.lt hn _) ?_
   by_cases c2:r (p.getD (m - 1) 0)<r (p.getD m 0)
   ·rw [show ltr r (p.getD (m - 1) 0) (p.getD m 0)=true from decide_eq_true c2,if_pos rfl]
    exact iC ⟨P,qN _,vB _ _,hq,hd,he⟩
   ·rw [show ltr r (p.getD (m - 1) 0) (p.getD m 0)=false from decide_eq_false c2,if_neg (by simp)]
    have eq:vl r p m=vl r p (m - 1):=by unfold vl;omega
    refine gS (a2s hn f p (m+1) (q+1) P (by omega) (by omega) (hd.snoc (by omega) (by omega)) fun k a b=>?_) fun x ⟨a,b,c,d,e,g⟩=>⟨a,by omega,by omega,d,e,g⟩
    rw [show m+1 - 1=m by omega,eq]
    by_cases e2:k=m
    ·rw [e2,eq]
    ·exact he k (by omega) (by omega)
theorem pW.rev {m:Nat} (P:Pm n p) (hm:m≤n) (h:pW r p m):Up r (kas_rev p 0 m) m:=fun i j hij hj=>by
 rw [a4m (by rw [P.size];omega),a4m (by rw [P.size];omega),if_pos (by omega),if_pos (by omega)]
 exact h _ _ (by omega) (by omega)
abbrev b6j (r:Nat→Int) (n:Nat) (x:Nat×Array Nat):Prop:=Pm n x.2∧0<x.1∧x.1≤n∧Up r x.2 x.1
theorem b0z (hn:0<n) {m:Nat} (P:Pm n p) (h0:0<m) (hm:m≤n) (hd:pW r p m):Hq n (ltr r) (kas_tail3 m n p) (b6j r n):=by
 unfold kas_tail3
 refine oG (gS (b0A (P.rev 0 m) hn (n - m) m h0 (hd.rev P hm)) fun k ⟨a,b,c,d⟩=>iC ⟨P.rev 0 m,by show 0<k;omega,by show k≤n;omega,c⟩)
theorem yH (hn:0<n) {m:Nat} (P:Pm n p) (hm:m+1≤n) (hd:pW r p (m+1)):Hq n (ltr r) (kas_descPart m n p) (b6j r n):=by
 unfold kas_descPart
 refine oG (gS (a2s hn (n - (m+1)) p (m+1) 0 P (by omega) (by omega) hd (fun k a b=>by rw [show k=m+1 - 1 by omega])) fun x ⟨a,b,c,d,e,g⟩=>?_)
 by_cases h:x.2.2 > 0
 ·rw [if_pos h]
  exact b0z hn (a.rev _ _) (by omega) (by omega) (e.cong (a1J (by rw [a.size];omega) g))
 ·rw [if_neg h]
  exact b0z hn a (by omega) (by omega) e
theorem b2S (hn:0<n) (P:Pm n p):Hq n (ltr r) (kas_count n p) (b6j r n):=by
 unfold kas_count
 refine oG (gS (b0A P hn (n - 1) 1 (by decide) (fun i j a b=>by rw [show i=j by omega];exact jo _)) fun m ⟨a,b,c,d⟩=>?_)
 by_cases h:(m==n)=true
 ·rw [if_pos h]
  exact iC ⟨P,by show 0<m;omega,by show m≤n;omega,c⟩
 ·rw [if_neg h]
  have hmn:m<n:=by have:m≠n:=fun z=>h (by rw [z];simp);omega
  have dr:=d (by omega)
  by_cases h1:m > 1
  ·rw [if_pos h1]
   refine uA (P.lt hn _) (P.lt hn _) ?_
   by_cases c2:r (p.getD 0 0)<r (p.getD (m - 1) 0)
   ·rw [show ltr r (p.getD 0 0) (p.getD (m - 1) 0)=true from decide_eq_true c2,if_pos rfl]
    exact iC ⟨P,by show 0<m;omega,by show m≤n;omega,c⟩
   ·rw [show ltr r (p.getD 0 0) (p.getD (m - 1) 0)=false from decide_eq_false c2,if_neg (by simp)]
    have eqs:∀ k,k<m→vl r p k=vl r p (m - 1):=fun k hk=>by
     have a1:=c 0 k (jn _) hk
     have a2:=c k (m - 1) (by omega) (by omega)
     have a3:vl r p (m - 1)≤vl r p 0:=Int.not_lt.mp c2
     omega
    have e:=a1J (r:=r) (i:=0) (j:=m) (by rw [P.size];omega) (fun k _ hk=>eqs k hk)
    refine yH hn (P.rev 0 m) (by omega) (pW.cong e ?_)
    refine pW.snoc (fun i j hij hj=>?_) (by omega) (kX dr)
    rw [eqs i (by omega),eqs j hj];exact jo _
  ·rw [if_neg h1]
   refine yH hn P (by omega) (pW.snoc (fun i j hij hj=>?_) (by omega) (kX dr))
   rw [show i=j by omega];exact jo _
theorem a2r (hn:0<n) (P:Pm n p) {k:Nat} (hu:Up r p k):∀ (f l u:Nat),l≤u→u≤k→u - l≤f→(∀ i,i<l→vl r p i≤vl r p k)→(∀ i,u≤i→i<k→vl r p k<vl r p i) →
  Hq n (ltr r) (kas_place p k f l u) (fun x=>x≤k∧(∀ i,i<x→vl r p i≤vl r p k)∧∀ i,x≤i→i<k→vl r p k<vl r p i)
 | 0,l,u,h1,h2,h3,a,b=>iC ⟨by omega,a,fun i hi hk=>b i (by omega) hk⟩
 | f+1,l,u,h1,h2,h3,a,b=>by
  unfold kas_place
  by_cases h:l≥u
  ·rw [if_pos h];exact iC ⟨by omega,a,fun i hi hk=>b i (by omega) hk⟩
  ·rw [if_neg h]
   refine uA (P.lt hn _) (P.lt hn _) ?_
   by_cases c:r (p.getD k 0)<r (p.getD ((l+u) / 2) 0)
   ·rw [show ltr r (p.getD k 0) (p.getD ((l+u) / 2) 0)=true from decide_eq_true c,if_pos rfl]
    refine a2r hn P hu f l ((l+u) / 2) (by omega) (by omega) (by omega) a fun i hi hk=>?_
    have c':vl r p k<vl r p ((l+u) / 2):=c
    exact Int.lt_of_lt_of_le c' (hu _ _ hi hk)
   ·rw [show ltr r (p.getD k 0) (p.getD ((l+u) / 2) 0)=false from decide_eq_false c,if_neg (by simp)]
    refine a2r hn P hu f ((l+u) / 2+1) u (by omega) (by omega) (by omega) (fun i hi=>?_) b
    have c':vl r p ((l+u) / 2)≤vl r p k:=Int.not_lt.mp c
    exact Int.le_trans (hu i ((l+u) / 2) (by omega) (by omega)) c'
theorem b3T (hn:0<n):∀ (f:Nat) (p:Array Nat) (k:Nat),Pm n p→0<k→k+f=n→Up r p k→Hq n (ltr r) (kas_bin f p k) (fun q=>Pm n q∧Up r q n)
 | 0,p,k,P,_,hk,hu=>iC ⟨P,by rw [show n=k by omega];exact hu⟩
 | f+1,p,k,P,h0,hk,hu=>by
  unfold kas_bin
  refine oG (gS (a2r hn P hu k 0 k (jn _) (qN _) (by omega) (fun i hi=>absurd hi (by omega)) (fun i hi hk=>absurd hi (by omega))) fun l ⟨a,b,c⟩=>?_)
  refine b3T hn f _ (k+1) (P.bub _ _) (by omega) (by omega) fun i j hij hj=>?_
  have hs:k<p.size:=by rw [P.size];omega
  have ei:=a8Q (r:=r) hs (show k - l≤k by omega) i
  have ej:=a8Q (r:=r) hs (show k - l≤k by omega) j
  rw [show k - (k - l)=l by omega] at ei ej
  rw [ei,ej]
  by_cases i1:i=l
  ·rw [if_pos i1]
   by_cases j1:j=l
   ·rw [if_pos j1];exact jo _
   ·rw [if_neg j1,if_pos (by omega)];exact kX (c (j - 1) (by omega) (by omega))
  ·rw [if_neg i1]
   by_cases i2:l<i∧i≤k
   ·rw [if_pos i2,if_neg (by omega),if_pos (by omega)];exact hu _ _ (by omega) (by omega)
   ·rw [if_neg i2]
    by_cases j1:j=l
    ·rw [if_pos j1];exact b i (by omega)
    ·rw [if_neg j1]
     by_cases j2:l<j∧j≤k
     ·rw [if_pos j2];exact hu _ _ (by omega) (by omega)
     ·rw [if_neg j2];exact hu _ _ hij (by omega)
theorem h_sort (hn:2≤n):Hq n (ltr r) (kas_sort n) (fun q=>Pm n q∧Up r q n):=by
 unfold kas_sort
 refine oG (gS (b2S (by omega) ⟨by simp,Array.Perm.refl _⟩) fun x ⟨a,b,c,d⟩=>?_)
 by_cases h:x.1<n
 ·rw [if_pos h,show max x.1 1=x.1 by omega]
  exact b3T (by omega) _ _ _ a b (by omega) d
 ·rw [if_neg h]
  exact iC ⟨a,by rw [show n=x.1 by omega];exact d⟩
end
end L2.ST
namespace L2.L3
open PySem
def ltC:PyData→PyData→Bool
 | .int a,.int b=>decide (a<b)
 | .str a,.str b=>!bR b a
 | _,_=>false
def eqC:PyData→PyData→Bool
 | .int a,.int b=>a==b
 | .str a,.str b=>a==b
 | _,_=>false
def ltR:List PyData→List PyData→Bool
 | a::r,b::s=>if eqC a b then ltR r s else ltC a b
 | _,_=>false
def eT:List Bool→List PyData→Bool
 | [],[]=>true
 | true::g,.int _::r=>eT g r
 | false::g,.str _::r=>eT g r
 | _,_=>false
theorem gL {a:List PyData} (h:eT [] a=true):a=[]:=by
 cases a with
 | nil=>rfl
 | cons x r=>cases x<;>cases h
theorem sig_int {g:List Bool} {a:List PyData} (h:eT (true::g) a=true):∃ i r,a=.int i::r∧eT g r=true:=by
 cases a with
 | nil=>cases h
 | cons x r=>cases x<;>first | exact ⟨_,_,rfl,h⟩ | cases h
theorem sig_str {g:List Bool} {a:List PyData} (h:eT (false::g) a=true):∃ i r,a=.str i::r∧eT g r=true:=by
 cases a with
 | nil=>cases h
 | cons x r=>cases x<;>first | exact ⟨_,_,rfl,h⟩ | cases h
theorem a4U (a:Str):bR a a=true:=by have:=iR a a;rwa [Bool.or_self] at this
theorem a2l:∀ (g:List Bool) (a:List PyData),eT g a=true→ltR a a=false
 | [],a,h=>by rw [gL h];rfl
 | true::g,a,h=>by
  obtain ⟨i,r,rfl,h⟩:=sig_int h
  simp [ltR,eqC,a2l g r h]
 | false::g,a,h=>by
  obtain ⟨i,r,rfl,h⟩:=sig_str h
  simp [ltR,eqC,a2l g r h]
theorem a2k:∀ (g:List Bool) (a b:List PyData),eT g a=true→eT g b=true→ltR a b=true∨a=b∨ltR b a=true
 | [],a,b,h,h'=>by rw [gL h,gL h'];exact .inr (.inl rfl)
 | true::g,a,b,h,h'=>by
  obtain ⟨i,r,rfl,h⟩:=sig_int h
  obtain ⟨j,q,rfl,h'⟩:=sig_int h'
  by_cases e:i=j
  ·subst e
   rcases a2k g r q h h' with z | z | z
   ·exact .inl (by simp [ltR,eqC,z])
   ·exact .inr (.inl (by rw [z]))
   ·exact .inr (.inr (by simp [ltR,eqC,z]))
  ·by_cases l:i<j
   ·exact .inl (by simp [ltR,eqC,e,ltC,l])
   ·exact .inr (.inr (by have:¬j=i:=fun z=>e z.symm;simp [ltR,eqC,this,ltC];omega))
 | false::g,a,b,h,h'=>by
  obtain ⟨i,r,rfl,h⟩:=sig_str h
  obtain ⟨j,q,rfl,h'⟩:=sig_str h'
  by_cases e:i=j
  ·subst e
   rcases a2k g r q h h' with z | z | z
   ·exact .inl (by simp [ltR,eqC,z])
   ·exact .inr (.inl (by rw [z]))
   ·exact .inr (.inr (by simp [ltR,eqC,z]))
  ·have e':¬j=i:=fun z=>e z.symm
   cases l:bR j i with
   | false=>exact .inl (by simp [ltR,eqC,e,ltC,l])
   | true=>
    cases l2:bR i j with
    | false=>exact .inr (.inr (by simp [ltR,eqC,e',ltC,l2]))
    | true=>exact absurd (yC l2 l) e
theorem a4S:∀ (g:List Bool) (a b c:List PyData),eT g a=true→eT g b=true→eT g c=true→ltR a b=true→ltR b c=true→ltR a c=true
 | [],a,b,c,h,_,_,z,_=>by rw [gL h] at z;cases z
 | true::g,a,b,c,h,h',h'',z,z'=>by
  obtain ⟨i,r,rfl,h⟩:=sig_int h
  obtain ⟨j,q,rfl,h'⟩:=sig_int h'
  obtain ⟨k,u,rfl,h''⟩:=sig_int h''
  simp only [ltR,eqC,ltC,beq_iff_eq] at z z' ⊢
  by_cases e:i=j
  ·subst e
   rw [if_pos rfl] at z
   by_cases e2:i=k
   ·subst e2;rw [if_pos rfl] at z' ⊢;exact a4S g r q u h h' h'' z z'
   ·rw [if_neg e2] at z' ⊢;exact z'
  ·rw [if_neg e] at z
   by_cases e2:j=k
   ·subst e2;rw [if_neg e];exact z
   ·rw [if_neg e2] at z'
    rw [decide_eq_true_eq] at z z'
    rw [if_neg (by omega)];exact decide_eq_true (by omega)
 | false::g,a,b,c,h,h',h'',z,z'=>by
  obtain ⟨i,r,rfl,h⟩:=sig_str h
  obtain ⟨j,q,rfl,h'⟩:=sig_str h'
  obtain ⟨k,u,rfl,h''⟩:=sig_str h''
  simp only [ltR,eqC,ltC,beq_iff_eq] at z z' ⊢
  by_cases e:i=j
  ·subst e
   rw [if_pos rfl] at z
   by_cases e2:i=k
   ·subst e2;rw [if_pos rfl] at z' ⊢;exact a4S g r q u h h' h'' z z'
   ·rw [if_neg e2] at z' ⊢;exact z'
  ·rw [if_neg e] at z
   by_cases e2:j=k
   ·subst e2;rw [if_neg e];exact z
   ·rw [if_neg e2] at z'
    have z1:bR j i=false:=by simpa using z
    have z2:bR k j=false:=by simpa using z'
    have y1:bR i j=true:=by have:=iR i j;rw [z1,vi] at this;exact this
    have y2:bR j k=true:=by have:=iR j k;rw [z2,vi] at this;exact this
    have z3:bR k i=false:=by
     cases q3:bR k i with
     | false=>rfl
     | true=>rw [nO q3 y1] at z2;cases z2
    have e3:¬i=k:=fun w=>by subst w;rw [a4U] at z3;cases z3
    rw [if_neg e3,z3];rfl
def ltT:PyData→PyData→Bool
 | .tuple a,.tuple b=>ltR a b
 | _,_=>false
def cO (g:List Bool):PyData→Bool
 | .tuple a=>eT g a
 | _=>false
theorem eY {g:List Bool} {d:PyData} (h:cO g d=true):∃ a,d=.tuple a∧eT g a=true:=by
 cases d<;>first | exact ⟨_,rfl,h⟩ | cases h
section
variable {g:List Bool} {a b c:PyData}
theorem a6o (h:cO g a=true):ltT a a=false:=by obtain ⟨x,rfl,h⟩:=eY h;exact a2l g x h
theorem a2i (h:cO g a=true) (h':cO g b=true):ltT a b=true∨a=b∨ltT b a=true:=by
 obtain ⟨x,rfl,h⟩:=eY h
 obtain ⟨y,rfl,h'⟩:=eY h'
 exact (a2k g x y h h').imp id (Or.imp (fun e=>by rw [e]) id)
theorem a2j (h:cO g a=true) (h':cO g b=true) (h'':cO g c=true) (z:ltT a b=true) (z':ltT b c=true):ltT a c=true:=by
 obtain ⟨x,rfl,h⟩:=eY h
 obtain ⟨y,rfl,h'⟩:=eY h'
 obtain ⟨u,rfl,h''⟩:=eY h''
 exact a4S g x y u h h' h'' z z'
theorem b5l (h:cO g a=true) (h':cO g b=true) (h'':cO g c=true) (z:ltT b a=false) (z':ltT c b=false):ltT c a=false:=by
 cases e:ltT c a with
 | false=>rfl
 | true=>
  rcases a2i h h' with q | q | q
  ·rw [a2j h'' h h' e q] at z';cases z'
  ·subst q;rw [e] at z';cases z'
  ·rw [q] at z;cases z
end
def a5e (x:PyData):List PyData→List PyData
 | []=>[x]
 | y::l=>if ltT y x then y::a5e x l else x::y::l
def pA (l:List PyData):List PyData:=l.foldr a5e []
theorem tZ (x:PyData):∀ l:List PyData,(a5e x l).Perm (x::l)
 | []=>.refl _
 | y::l=>by
  unfold a5e
  split
  ·exact ((tZ x l).cons y).trans (.swap x y l)
  ·exact .refl _
theorem tE:∀ l:List PyData,(pA l).Perm l
 | []=>.refl _
 | x::l=>(tZ x _).trans ((tE l).cons x)
abbrev a0E (l:List PyData):Prop:=l.Pairwise fun a b=>ltT b a=false
theorem uZ {g:List Bool} {x:PyData} (hx:cO g x=true):∀ l:List PyData,(∀ d∈l,cO g d=true)→a0E l→a0E (a5e x l)
 | [],_,_=>by simp [a5e]
 | y::l,h,hp=>by
  have hp':=qc.mp hp
  have hy:=h y (by simp)
  unfold a5e
  by_cases e:ltT y x=true
  ·rw [if_pos e,a0E,qc]
   refine ⟨fun z hz=>?_,uZ hx l (fun d hd=>h d (qE _ hd)) hp'.2⟩
   rcases qF.mp ((tZ x l).mem_iff.mp hz) with rfl | hz
   ·cases q:ltT z y with
    | false=>rfl
    | true=>have:=a2j hx hy hx q e;rw [a6o hx] at this;cases this
   ·exact hp'.1 z hz
  ·rw [if_neg e,a0E,qc]
   have e':ltT y x=false:=by simpa using e
   refine ⟨fun z hz=>?_,hp⟩
   rcases qF.mp hz with rfl | hz
   ·exact e'
   ·exact b5l hx hy (h z (qE _ hz)) e' (hp'.1 z hz)
theorem uQ {g:List Bool}:∀ l:List PyData,(∀ d∈l,cO g d=true)→a0E (pA l)
 | [],_=>.nil
 | x::l,h=>uZ (h x (by simp)) _ (fun d hd=>h d (qE _ ((tE l).mem_iff.mp hd))) (uQ l fun d hd=>h d (qE _ hd))
theorem a3c {g:List Bool}:∀ (l m:List PyData),l.Perm m→(∀ d∈l,cO g d=true)→a0E l→a0E m→l=m
 | [],m,hp,_,_,_=>by rw [List.nil_perm.mp hp]
 | x::l,[],hp,_,_,_=>by have:=hp.length_eq;simp at this
 | x::l,y::m,hp,h,h1,h2=>by
  have q1:=qc.mp h1
  have q2:=qc.mp h2
  have hy:y∈x::l:=hp.mem_iff.mpr (by simp)
  have hx:x∈y::m:=hp.mem_iff.mp (by simp)
  have e:x=y:=by
   rcases qF.mp hy with z | z
   ·exact z.symm
   ·rcases qF.mp hx with w | w
    ·exact w
    ·rcases a2i (h x (by simp)) (h y hy) with u | u | u
     ·rw [q2.1 x w] at u;cases u
     ·exact u
     ·rw [q1.1 y z] at u;cases u
  subst e
  rw [a3c l m (List.Perm.cons_inv hp) (fun d hd=>h d (qE _ hd)) q1.2 q2.2]
theorem a5S {g:List Bool} {l m:List PyData} (hp:l.Perm m) (h:∀ d∈m,cO g d=true) (hs:a0E l):l=pA m:=
 a3c (g:=g) l (pA m) (hp.trans (tE m).symm) (fun d hd=>h d (hp.mem_iff.mp hd)) hs (uQ m h)
def rk (ds:List PyData) (i:Nat):Int:=((ds.filter fun x=>ltT x (ds.getD i .none)).length:Nat)
theorem a2u {α:Type} {p q:α→Bool}:∀ l:List α,(∀ x∈l,p x=true→q x=true)→(l.filter p).length≤(l.filter q).length
 | [],_=>by simp
 | x::l,h=>by
  have ih:=a2u l fun y hy=>h y (qE _ hy)
  cases e:p x with
  | false=>
   rw [qo (by simp [e])]
   cases e2:q x with
   | false=>rw [qo (by simp [e2])];exact ih
   | true=>rw [qg e2,qi];omega
  | true=>rw [qg e,qg (h x (by simp) e),qi,qi];omega
theorem a6E {α:Type} {p q:α→Bool}:∀ l:List α,(∀ x∈l,p x=true→q x=true)→(∃ x∈l,p x=false∧q x=true)→(l.filter p).length<(l.filter q).length
 | [],_,⟨x,hx,_⟩=>by cases hx
 | x::l,h,⟨y,hy,h1,h2⟩=>by
  have ih:=a2u l fun y hy=>h y (qE _ hy)
  rcases qF.mp hy with rfl | hy
  ·rw [qo (by simp [h1]),qg h2,qi];omega
  ·have ih2:=a6E l (fun y hy=>h y (qE _ hy)) ⟨y,hy,h1,h2⟩
   cases e:p x with
   | false=>
    rw [qo (by simp [e])]
    cases e2:q x with
    | false=>rw [qo (by simp [e2])];exact ih2
    | true=>rw [qg e2,qi];omega
   | true=>rw [qg e,qg (h x (by simp) e),qi,qi];omega
theorem b3K {g:List Bool} {ds:List PyData} (h:∀ d∈ds,cO g d=true) {i j:Nat} (hi:i<ds.length) (hj:j<ds.length):ltT (ds.getD i .none) (ds.getD j .none)=ST.ltr (rk ds) i j:=by
 have mi:ds.getD i .none∈ds:=by rw [qx,qM hi];exact jM hi
 have mj:ds.getD j .none∈ds:=by rw [qx,qM hj];exact jM hj
 unfold ST.ltr rk
 generalize ds.getD i PyData.none=a at *
 generalize ds.getD j PyData.none=b at *
 have ha:=h a mi
 have hb:=h b mj
 cases e:ltT a b with
 | true=>
  refine (decide_eq_true ?_).symm
  have:=a6E (p:=fun x=>ltT x a) (q:=fun x=>ltT x b) ds (fun x hx z=>a2j (h x hx) ha hb z e) ⟨a,mi,a6o ha,e⟩
  omega
 | false=>
  refine (decide_eq_false ?_).symm
  have:=a2u (p:=fun x=>ltT x b) (q:=fun x=>ltT x a) ds (fun x hx z=>by
   rcases a2i ha hb with q | q | q
   ·rw [e] at q;cases q
   ·subst q;exact z
   ·exact a2j (h x hx) hb ha z q)
  omega
theorem xR {g:List Bool} {ds:List PyData} (h:∀ d∈ds,cO g d=true) {p:Array Nat} (P:ST.Pm ds.length p) (U:ST.Up (rk ds) p ds.length):(p.toList.map fun i=>ds.getD i .none)=pA ds:=by
 have hl:p.toList.length=ds.length:=by rw [qO];exact P.size
 have hr:(qd ds.length).map (fun i=>ds.getD i .none)=ds:=by
  refine wC (by simp) fun i h1 h2=>?_
  simp [qx,h2]
 have hp:(p.toList.map fun i=>ds.getD i .none).Perm ds:=by
  have:=(Array.perm_iff_toList_perm.mp P.perm).map fun i=>ds.getD i PyData.none
  simp only [vV] at this
  rw [hr] at this
  exact this
 refine a5S hp h ?_
 unfold a0E
 rw [jl,List.pairwise_iff_getElem]
 intro i j hi hj hij
 have hi':i<p.size:=by simpa using hi
 have hj':j<p.size:=by simpa using hj
 have u:=U i j (qr hij) (by rw [P.size] at hj';exact hj')
 unfold ST.vl at u
 have ei:p.toList[i]=p.getD i 0:=by simp [zF,hi']
 have ej:p.toList[j]=p.getD j 0:=by simp [zF,hj']
 rw [ei,ej]
 by_cases hn:0<ds.length
 ·rw [b3K h (P.lt hn j) (P.lt hn i)]
  exact decide_eq_false (by omega)
 ·rw [P.size] at hi';omega
end L2.L3
namespace L2.L3
open PySem PySem.W PyProof.Rows PySem.Calls
section
variable {prog:Program} {w:World} {A:Around} {E:Value→Shared→Prop} {s:Shared}
theorem b2v {Q:Bool→Shared→Prop} (b:Bool) (m n:Int) (t u:Tok) (h:Q (decide (m<n)) s):wpAny (model prog w) A (oneLt' b (.int m t) (.int n u)) Q E s:=by
 cases b with
 | true=>exact oneLt_int h
 | false=>exact kat_one _ _ (lt_int h)
theorem b2u {Q:Bool→Shared→Prop} (b:Bool) (m n:Str) (t u:Tok) (h:Q (decide (m.cps.toList<n.cps.toList)) s):wpAny (model prog w) A (oneLt' b (.str m t) (.str n u)) Q E s:=by
 cases b with
 | true=>exact oneLt_str h
 | false=>exact kat_one _ _ (lt_str h)
theorem a0d {Q:Bool→Shared→Prop}:∀ (g:List Bool) (xs ys:List Value) (ds es:List PyData) (as bs:List Addr) (i:Nat),ReadsAll s.heap xs ds as→ReadsAll s.heap ys es bs→eT g ds=true→eT g es=true→Q (ltR ds es) s →
  KatLex prog w A true false Q (xs.zip ys) i s
 | [],xs,ys,ds,es,as,bs,i,r,r',h,h',q=>by
  have e1:=gL h
  have e2:=gL h'
  subst e1;subst e2
  cases r;cases r'
  exact kat_nil q
 | true::g,xs,ys,ds,es,as,bs,i,r,r',h,h',q=>by
  obtain ⟨m,r1,rfl,h⟩:=sig_int h
  obtain ⟨n,r2,rfl,h'⟩:=sig_int h'
  cases r with | cons v rr=>
  cases r' with | cons v' rr'=>
  cases v;cases v'
  refine kat_cons (SeqAt.EqAt.int_int _ _ _ _ _ _ _ _ ?_)
  by_cases e:m=n
  ·subst e
   rw [beq_self_eq_true]
   refine kat_yes (a0d g _ _ _ _ _ _ _ rr rr' h h' ?_)
   simpa [ltR,eqC] using q
  ·rw [beq_eq_false_iff_ne.mpr e]
   refine kat_no (b2v _ _ _ _ _ ?_)
   simpa [ltR,eqC,e,ltC] using q
 | false::g,xs,ys,ds,es,as,bs,i,r,r',h,h',q=>by
  obtain ⟨m,r1,rfl,h⟩:=sig_str h
  obtain ⟨n,r2,rfl,h'⟩:=sig_str h'
  cases r with | cons v rr=>
  cases r' with | cons v' rr'=>
  cases v;cases v'
  refine kat_cons (SeqAt.EqAt.str_str _ _ _ _ _ _ _ _ ?_)
  by_cases e:m=n
  ·subst e
   rw [beq_self_eq_true]
   refine kat_yes (a0d g _ _ _ _ _ _ _ rr rr' h h' ?_)
   simpa [ltR,eqC] using q
  ·rw [beq_eq_false_iff_ne.mpr e]
   refine kat_no (b2u _ _ _ _ _ ?_)
   have:ltR (.str m::r1) (.str n::r2)=decide (m.cps.toList<n.cps.toList):=by
    simp [ltR,eqC,e,ltC,bR]
   rw [←this];exact q
theorem b4z {Q:Bool→Shared→Prop} {g:List Bool} {v u:Value} {d e:PyData} {as bs:List Addr} (r:Reads s.heap v d as) (r':Reads s.heap u e bs) (h:cO g d=true) (h':cO g e=true) (q:Q (ltT d e) s) :
  wpAny (model prog w) A (keyLt' (tuples' true) v u) Q E s:=by
 obtain ⟨x,rfl,h⟩:=eY h
 obtain ⟨y,rfl,h'⟩:=eY h'
 cases r with
 | tuple hg hc hd rr=>
  cases r' with
  | tuple hg' hc' hd' rr'=>
   refine kat_lt hg hd hg' hd' ?_
   have sz:∀ (g:List Bool) (x y:List PyData),eT g x=true→eT g y=true→x.length=y.length:=by
    intro g
    induction g with
    | nil=>intro x y h h';rw [gL h,gL h']
    | cons b g ih=>
     intro x y h h'
     cases b with
     | true=>obtain ⟨_,_,rfl,h⟩:=sig_int h;obtain ⟨_,_,rfl,h'⟩:=sig_int h';simp [ih _ _ h h']
     | false=>obtain ⟨_,_,rfl,h⟩:=sig_str h;obtain ⟨_,_,rfl,h'⟩:=sig_str h';simp [ih _ _ h h']
   have ln:∀ {vs:List Value} {ds:List PyData} {as:List Addr},ReadsAll s.heap vs ds as→vs.length=ds.length:=by
    intro vs
    induction vs with
    | nil=>intro ds as r;cases r;rfl
    | cons v vs ih=>intro ds as r;cases r with | cons _ r=>simp [ih r]
   have e1:=ln rr
   have e2:=ln rr'
   have e3:=sz _ _ _ h h'
   rw [decide_eq_false (by rw [←qO,←qO];omega)]
   exact a0d g _ _ _ _ _ _ 0 rr rr' h h' q
inductive Rows (h:Heap):List Value→List PyData→Prop
 | nil:Rows h [] []
 | cons {v:Value} {vs:List Value} {d:PyData} {ds:List PyData} {as:List Addr}:Reads h v d as→Rows h vs ds→Rows h (v::vs) (d::ds)
theorem Rows.len {h:Heap} {vs:List Value} {ds:List PyData} (r:Rows h vs ds):vs.length=ds.length:=by
 induction r with
 | nil=>rfl
 | cons _ _ ih=>simp [ih]
theorem Rows.keeps {h h':Heap} (k:∀ b o,h.get? b=some o→h'.get? b=some o) {vs:List Value} {ds:List PyData} (r:Rows h vs ds):Rows h' vs ds:=by
 induction r with
 | nil=>exact .nil
 | cons r _ ih=>exact .cons (Reads.keeps k r) ih
theorem Rows.at {h:Heap} {vs:List Value} {ds:List PyData} (r:Rows h vs ds):∀ i,i<vs.length→∃ as,Reads h (vs.getD i .none) (ds.getD i .none) as:=by
 induction r with
 | nil=>intro i hi;simp at hi
 | cons r _ ih=>
  intro i hi
  cases i with
  | zero=>exact ⟨_,r⟩
  | succ i=>exact ih i (by simpa using hi)
theorem Rows.firsts {h:Heap} {g:List Bool} {k:Bool} {vs:List Value} {ds:List PyData} (r:Rows h vs ds) (hs:∀ d∈ds,cO (k::g) d=true) :
  ∃ fs:List Value,KatTups h vs fs∧fs.length=vs.length∧∀ v∈fs,(k=true∧∃ i t,v=.int i t)∨(k=false∧∃ i t,v=.str i t):=by
 induction r with
 | nil=>exact ⟨[],.nil,rfl,fun v hv=>by cases hv⟩
 | @cons v vs d ds as r _ ih=>
  obtain ⟨fs,t,l,a⟩:=ih fun d hd=>hs d (qE _ hd)
  obtain ⟨x,rfl,hx⟩:=eY (hs d (by simp))
  cases r with
  | tuple hg hc hd rr=>
   cases k with
   | true=>
    obtain ⟨i,y,rfl,hy⟩:=sig_int hx
    generalize hv:vx _=vl at rr
    cases rr with | cons z rr=>
    cases z with | int _ tk=>
    refine ⟨.int i tk::fs,KatTups.cons hg hc hd (by rw [←je,hv];rfl) t,by simp [l],fun v hv=>?_⟩
    ·rcases qF.mp hv with rfl | hv
     ·exact .inl ⟨rfl,_,_,rfl⟩
     ·exact a v hv
   | false=>
    obtain ⟨i,y,rfl,hy⟩:=sig_str hx
    generalize hv:vx _=vl at rr
    cases rr with | cons z rr=>
    cases z with | str _ tk=>
    refine ⟨.str i tk::fs,KatTups.cons hg hc hd (by rw [←je,hv];rfl) t,by simp [l],fun v hv=>?_⟩
    ·rcases qF.mp hv with rfl | hv
     ·exact .inr ⟨rfl,_,_,rfl⟩
     ·exact a v hv
theorem a7y {g:List Bool} {k:Bool} {vs:List Value} {ds:List PyData} (r:Rows s.heap vs ds) (hs:∀ d∈ds,cO (k::g) d=true) (hne:0<vs.length) {Q:SortKind→Shared→Prop} (h:Q (tuples' true) s) :
  wpAny (model prog w) A (keyKind' vs.toArray) Q E s:=by
 obtain ⟨fs,t,l,a⟩:=r.firsts hs
 cases k with
 | true=>
  refine kat_kind (T:=.type "int") t (by omega) (fun v hv=>?_) (by decide) h
  rcases a v hv with ⟨_,i,t,rfl⟩ | ⟨z,_⟩
  ·exact Looks.of_pure rfl
  ·cases z
 | false=>
  refine kat_kind (T:=.type "str") t (by omega) (fun v hv=>?_) (by decide) h
  rcases a v hv with ⟨z,_⟩ | ⟨_,i,t,rfl⟩
  ·cases z
  ·exact Looks.of_pure rfl
theorem xZ {a:Addr} {vs:List Value} {ds:List PyData} {g:List Bool} {k:Bool} {n:Nat} {h0:Heap} {P:Fin→Shared→Prop} (ho:s.heap.get? a=some (seqObj "list" vs.toArray n))
  (rd:Rows h0 vs ds) (hk:∀ b o,h0.get? b=some o→b≠a∧s.heap.get? b=some o) (hs:∀ d∈ds,cO (k::g) d=true) (h64:vs.length<64)
  (h:∀ p:Array Nat,ST.Pm ds.length p→(p.toList.map fun i=>ds.getD i .none)=pA ds→P (.done (.ret .none)) { s with heap:=sortedHeap s.heap a vs (p.toList.map fun i=>vs.getD i .none).toArray }) :
  wpAny (model prog w) A (Builtin.«list.sort» ⟨[.ref a],[]⟩) P E s:=by
 have ln:=rd.len
 rw [list_sort_plain]
 have ha:a<s.heap.objs.size:=qH ho
 refine wpAny_bind (listItems_at ho rfl ?_)
 refine wpAny_bind (listUpdate_at ho rfl ?_)
 obtain ⟨e1,ho1⟩:∃ e1,(s.heap.update a (jT fun _=>#[])).get? a=some (seqObj "list" #[] e1):=⟨_,get?_update_seq ho (fun _=>#[])⟩
 refine wpAny_bind (seqEpoch_at ho1 rfl ?_)
 refine wpAny_bind (wpAny_newTuple ?_)
 refine wpAny_bind (wpAny_newList ?_)
 refine wpAny_holding ?_
 have ho6:(((s.heap.update a (jT fun _=>#[])).push (seqObj "tuple" vs.toArray 0)).push (seqObj "list" #[] 0)).get? a=some (seqObj "list" #[] e1):=by
  rw [Heap.get?_push_ne _ _ _ (by rw [size_push',Heap.size_update];exact qW (jZ ha)),Heap.get?_push_ne _ _ _ (by rw [Heap.size_update];exact qW ha)]
  exact ho1
 have rd6:Rows (((s.heap.update a (jT fun _=>#[])).push (seqObj "tuple" vs.toArray 0)).push (seqObj "list" #[] 0)) vs ds:=rd.keeps fun b o q=>by
  obtain ⟨h1,h2⟩:=hk b o q
  refine qC _ (qC _ ?_)
  rw [kI _ _ _ _ h1];exact h2
 show wpAny (model prog w) A _ P E { s with heap:=((s.heap.update a (jT fun _=>#[])).push (seqObj "tuple" vs.toArray 0)).push (seqObj "list" #[] 0) }
 dsimp only
 have hsz:vs.toArray.size=vs.length:=by simp
 by_cases h2:vs.toArray.size<2
 ·rw [if_pos h2,if_pos h2]
  refine wpAny_bind (wpAny_pure ?_)
  rw [StateT.run_pure]
  refine wpAny_bind (wpAny_pure ?_)
  dsimp only
  refine wpAny_bind (seqEpoch_at ho6 rfl ?_)
  refine wpAny_bind (listUpdate_at ho6 rfl ?_ (hsz2:=by rw [Array.size_map];show (pairsOf vs).size≤_;rw [pairsOf_size,sizeLine_eq];omega))
  simp only [bne_self_eq_false,kG,if_false]
  refine wpAny_pure ?_
  have hpm:ST.Pm ds.length (qd vs.length).toArray:=by rw [ln];exact ⟨by simp,Array.Perm.refl _⟩
  have hp:=h (qd vs.length).toArray hpm (xR hs hpm (fun i j hij hj=>by rw [show i=j by omega];exact jo _))
  have e:(qd vs.length).map (fun i=>vs.getD i jf)=vs:=by
   refine wC (by simp) fun i h1 h2=>?_
   simp [qx,h2]
  have e2:((vs.toArray.zip vs.toArray).map (·.2))=vs.toArray:=by
   apply Array.toList_inj.mp
   simp [Array.toList_zip,List.map_snd_zip]
  simp only [vV,e] at hp
  rw [←e2] at hp
  exact hp
 ·rw [if_neg h2,if_neg h2]
  refine wpAny_bind (a7y (s:={ s with heap:=_ }) rd6 hs (by omega) ?_)
  have hq:=ST.h_sort (r:=rk ds) (n:=vs.length) (by omega)
  refine wpAny_bind (wpAny_mono (kat_run (κ:=tuples' true) (ks:=vs) (vs:=vs) (s:={ s with heap:=_ }) (G:=fun p s'=>s'={ s with heap:=((s.heap.update a (jT fun _=>#[])).push (seqObj "tuple" vs.toArray 0)).push (seqObj "list" #[] 0) }∧ST.Pm vs.length p∧ST.Up (rk ds) p vs.length)
   (Q:=fun st' s'=>∃ p:Array Nat,arrOf st'=p.map (kas_item (vs.toArray.zip vs.toArray))∧failedOf st'=none∧s'={ s with heap:=((s.heap.update a (jT fun _=>#[])).push (seqObj "tuple" vs.toArray 0)).push (seqObj "list" #[] 0) }∧ST.Pm vs.length p∧ST.Up (rk ds) p vs.length)
   rfl (by omega) h64 (fun p' st' s' a1 a2 a3 a4=>⟨p',a2,a3,a4⟩)
   (ST.wp_run (n:=vs.length) (lt:=ST.ltr (rk ds)) (fun i j C hi hj hC=>?_) _ hq.1 ⟨rfl,hq.2⟩)) ?_ fun _ _ e=>e)
  ·obtain ⟨as,ri⟩:=rd6.at i hi
   obtain ⟨bs,rj⟩:=rd6.at j hj
   have mi:ds.getD i .none∈ds:=by rw [qx,qM (by omega)];exact jM (by omega)
   have mj:ds.getD j .none∈ds:=by rw [qx,qM (by omega)];exact jM (by omega)
   refine b4z ri rj (hs _ mi) (hs _ mj) ?_
   rw [b3K hs (by omega) (by omega)]
   exact hC
  ·rintro ⟨⟨⟩,st'⟩ s' ⟨p,har,hf,rfl,hP,hU⟩
   dsimp only
   have hout:=kat_snds rfl har
   refine wpAny_bind (seqEpoch_at ho6 rfl ?_)
   rw [hout]
   refine wpAny_bind (listUpdate_at ho6 rfl ?_ (hsz2:=by rw [qL,qD,qO,hP.size,sizeLine_eq];omega))
   rw [hf]
   simp only [bne_self_eq_false,kG,if_false]
   rw [ln] at hP hU
   exact wpAny_pure (h p hP (xR hs hP hU))
theorem a0A {l:Addr} {T:String} {o:Obj} {vs:List Value} {n:Nat} {Q:List Value→Shared→Prop} (hT:T = "list" ∨ T = "tuple") (ho:s.heap.get? l=some o) (hc:o.cls=.type T) (hd:o.data=.seq vs.toArray n) (few:vs.length≤sizeLine)
  (hQ:∀ h',(∀ b o,s.heap.get? b=some o→h'.get? b=some o)→s.heap.objs.size≤h'.objs.size→Q vs { s with heap:=h' }):wpAny (model prog w) A (collect (.ref l)) Q E s:=by
 unfold collect
 refine wpAny_bind (wpAny_runValue (codeAny_builtin F.entry_proto_collect ?_))
 rw [jO F.plain_proto_collect _]
 show wpAny _ A.in1 (newList []>>=fun l'=>again (.builtin "list.__iadd__" ⟨[l',.ref l],[]⟩)) _ _ s
 refine wpAny_bind (wpAny_newObj_type ?_)
 refine wpAny_pure ⟨plainId_quiet vN _,codeAny_builtin F.entry_list_iadd ?_⟩
 rw [jO vN _]
 have hS1:(s.heap.push { cls:=.type "list", data:=.seq ([]:List Value).toArray }).get? s.heap.objs.size=some { cls:=.type "list", data:=.seq ([]:List Value).toArray }:=qI _ rfl
 have ty1:vR { s with heap:=s.heap.push { cls:=.type "list", data:=.seq ([]:List Value).toArray } } (.ref l) T:=⟨o,qC _ ho,hc⟩
 show wpAny _ A.in1 (jY (.ref s.heap.objs.size) (.ref l) (.ref s.heap.objs.size)) _ _ _
 unfold jY
 refine wpAny_bind (wpAny_typeOf ty1 ?_)
 rw [if_pos (by rcases hT with rfl | rfl<;>simp)]
 refine wpAny_bind (listItems_at (qC _ ho) hd ?_)
 refine wpAny_bind (listItems_at hS1 rfl ?_)
 rw [if_neg (by simp)]
 refine wpAny_bind (listUpdate_at hS1 rfl ?_ (jn _) (by rw [Array.size_append,qL,qL,List.length_nil];omega))
 have hS₂:=jj (jT (·++vs.toArray)) hS1 rfl
 refine wpAny_pure ?_
 show wpAny _ A (load s.heap.objs.size>>=_) _ _ _
 refine wpAny_bind (wpAny_load hS₂ (wpAny_pure ?_))
 have e:(([]:List Value).toArray++vs.toArray).toList=vs:=by simp
 show Q (([]:List Value).toArray++vs.toArray).toList _
 rw [e]
 refine hQ _ (fun b o' hb=>?_) (by rw [Heap.size_update,size_push'];omega)
 rw [kI _ _ _ _ (qW (qH hb))]
 exact qC _ hb
theorem wX {l:Addr} {T:String} {o:Obj} {vs:List Value} {n:Nat} {Q:Value→Shared→Prop} {R:Array Value→Prop} (hT:T = "list" ∨ T = "tuple") (ho:s.heap.get? l=some o) (hc:o.cls=.type T) (hd:o.data=.seq vs.toArray n) (h64:vs.length<64)
  (sort:∀ (A':Around) (E':Value→Shared→Prop) (s':Shared) (a:Addr) (k:Nat) (P:Fin→Shared→Prop),s'.heap.get? a=some (seqObj "list" vs.toArray k)→(∀ b o,s.heap.get? b=some o→b≠a∧s'.heap.get? b=some o) →
   (∀ out,R out→P (.done (.ret .none)) { s' with heap:=sortedHeap s'.heap a vs out })→wpAny (model prog w) A' (Builtin.«list.sort» ⟨[.ref a],[]⟩) P E' s')
  (h:∀ (a:Addr) (h2:Heap) (ep:Nat) (out:Array Value),R out→(∀ b o,s.heap.get? b=some o→h2.get? b=some o)→s.heap.objs.size≤a→h2.get? a=some (seqObj "list" out ep)→Q (.ref a) { s with heap:=h2 }) :
  wpAny (model prog w) A (call (.builtin "sorted") [.ref l]) Q E s:=by
 refine vF kind_sorted plain_sorted entry_sorted (args_sorted1 _) ?_
 unfold Builtin.«sorted»
 refine wpAny_bind (m:=checkCount "sorted" 1 1 _) (wpAny_pure ?_)
 refine wpAny_bind (a0A hT ho hc hd (by rw [sizeLine_eq];omega) fun h1 kp up=>?_)
 refine wpAny_bind (wpAny_newList ?_ (by rw [sizeLine_eq];omega))
 have hoL:(h1.push (seqObj "list" vs.toArray 0)).get? h1.objs.size=some (seqObj "list" vs.toArray 0):=qI _ rfl
 have keep:∀ b o,s.heap.get? b=some o→b≠h1.objs.size∧(h1.push (seqObj "list" vs.toArray 0)).get? b=some o:=fun b o q=>⟨qW (qH (kp _ _ q)),qC _ (kp _ _ q)⟩
 show wpAny _ _ _ _ _ { s with heap:=h1.push (seqObj "list" vs.toArray 0) }
 refine wpAny_bind (wpAny_holding (wpAny_call_entry slot_list_sort ⟨_,hoL,rfl⟩ entry_list_sort (sort _ _ { s with heap:=h1.push (seqObj "list" vs.toArray 0) } _ 0 _ hoL keep fun out hR=>⟨_,rfl,?_⟩) (args_list_sort _)))
 obtain ⟨e1,ho1⟩:∃ e1,((h1.push (seqObj "list" vs.toArray 0)).update h1.objs.size (jT fun _=>#[])).get? h1.objs.size=some (seqObj "list" #[] e1):=⟨_,get?_update_seq hoL (fun _=>#[])⟩
 have hz:h1.objs.size<((h1.push (seqObj "list" vs.toArray 0)).update h1.objs.size (jT fun _=>#[])).objs.size:=qH ho1
 have ho6:=qC (seqObj "list" #[] 0) (qC (seqObj "tuple" vs.toArray 0) ho1)
 obtain ⟨e2,ho2⟩:∃ e2,(sortedHeap (h1.push (seqObj "list" vs.toArray 0)) h1.objs.size vs out).get? h1.objs.size=some (seqObj "list" out e2):=⟨_,get?_update_seq ho6 (fun _=>out)⟩
 refine wpAny_pure ⟨_,rfl,h _ _ e2 out hR (fun b o q=>?_) up ho2⟩
 obtain ⟨hb,hq⟩:=keep b o q
 unfold sortedHeap
 rw [kI _ _ _ _ hb]
 refine qC _ (qC _ ?_)
 rw [kI _ _ _ _ hb]
 exact hq
end
end L2.L3
namespace L2.L3
open PySem PySem.W PyProof.Rows
def a0N:List PyData→Option (List Bool)
 | []=>some []
 | .int _::r=>(a0N r).map (true::·)
 | .str _::r=>(a0N r).map (false::·)
 | _=>none
def b4u:PyData→Option (List Bool)
 | .tuple a=>a0N a
 | _=>none
def a7q (ds:List PyData):Option PyData:=match ds with
 | x::xs=>(match b4u x with
  | some (k::g)=>if (x::xs).all (cO (k::g))&&decide ((x::xs).length<64) then some (.list (pA (x::xs))) else none
  | _=>none)
 | _=>none
def a7o (ds:List PyData):Option PyData:=match b1L ds with
 | some d=>some d
 | none=>(match ds with
  | [.list xs]=>a7q xs
  | [.tuple xs]=>(match dH intD xs with
   | some ns=>if ns.length<64 then some (.list ((sortI ns).map .int)) else none
   | none=>a7q xs)
  | _=>none)
section
variable {X:Cx} {pins:List (Addr×Obj)} {σ:List (Option V)} {H:Hp} {s:Shared}
theorem a5Y (I:Inv X pins σ H s):∀ {xs:List V} {ds:List PyData} {us:List Value},RepAll X.K H xs ds→aX xs us→Rows s.heap us ds
 | _,_,_,.nil,.nil=>.nil
 | _,_,_,.cons r rr,.cons t tt=>by
  obtain ⟨as,ra⟩:=r.reads I t
  exact .cons ra (a5Y I rr tt)
theorem RepAll.at {K:qB} {G:Hp}:∀ {vs:List V} {ds:List PyData},RepAll K G vs ds→∀ i,i<vs.length→Rep K G (vs.getD i .non) (ds.getD i .none)
 | _,_,.nil,i,h=>by simp at h
 | _,_,.cons r rr,0,_=>r
 | _,_,.cons r rr,i+1,h=>RepAll.at rr i (by simpa using h)
theorem RepAll.len {K:qB} {G:Hp}:∀ {vs:List V} {ds:List PyData},RepAll K G vs ds→vs.length=ds.length
 | _,_,.nil=>rfl
 | _,_,.cons _ rr=>by simp [RepAll.len rr]
theorem RepAll.pick {K:qB} {G:Hp} {vs:List V} {ds:List PyData} (r:RepAll K G vs ds):∀ p:List Nat,(∀ i∈p,i<vs.length)→RepAll K G (p.map fun i=>vs.getD i .non) (p.map fun i=>ds.getD i .none)
 | [],_=>.nil
 | i::p,h=>.cons (r.at i (h i (by simp))) (RepAll.pick r p fun j hj=>h j (qE _ hj))
theorem aX.at':∀ {vs:List V} {us:List Value},aX vs us→∀ i,i<vs.length→RelV (vs.getD i .non) (us.getD i .none)
 | _,_,.nil,i,h=>by simp at h
 | _,_,.cons r rr,0,_=>r
 | _,_,.cons r rr,i+1,h=>aX.at' rr i (by simpa using h)
theorem aX.pick {vs:List V} {us:List Value} (r:aX vs us):∀ p:List Nat,(∀ i∈p,i<vs.length)→aX (p.map fun i=>vs.getD i .non) (p.map fun i=>us.getD i .none)
 | [],_=>.nil
 | i::p,h=>.cons (aX.at' r i (h i (by simp))) (aX.pick r p fun j hj=>h j (qE _ hj))
theorem tG (I:Inv X pins σ H s) {p:Addr} {vs:List V} (h:SqL X.K H p vs∨SqT X.K H p vs):∃ (its:List Value) (T:String) (o:Obj) (n:Nat),(T = "list" ∨ T = "tuple")∧s.heap.get? p=some o∧o.cls=.type T∧o.data=.seq its.toArray n∧aX vs its:=by
 rcases h with h | h
 ·obtain ⟨its,rv,pl,hz⟩:=I.list h
  obtain ⟨o,ho,hc,n,hd⟩:=pl.isList
  exact ⟨its, "list", o,n,.inl rfl,ho,hc,hd,rv⟩
 ·obtain ⟨its,rv,⟨o,ho,hc,n,hd⟩,hz⟩:=I.tuple h
  exact ⟨its, "tuple", o,n,.inr rfl,ho,hc,hd,rv⟩
theorem a2F:dU X (.builtin "sorted") (fun xs H Q=>∃ (p:Addr) (vs:List V) (ds:List PyData) (k:Bool) (g:List Bool),xs=[.ref p]∧(SqL X.K H p vs∨SqT X.K H p vs)∧RepAll X.K H vs ds∧(∀ d∈ds,cO (k::g) d=true)∧ds.length<64 ∧
  ∀ (l:Addr) (ix:List Nat),H l=none→(∀ i∈ix,i<vs.length)→(ix.map fun i=>ds.getD i .none)=pA ds→Q (.ref l) (upd H l (.lst (ix.map fun i=>vs.getD i .non)))):=by
 intro pins s σ H xs us Q I r ⟨p,vs,ds,k,g,e,hq,r2,hs,h64,q⟩
 subst e
 obtain ⟨u,rfl,rx⟩:=vals1 r
 cases rx
 obtain ⟨its,T,o,n,hT,ho,hc,hd,rv⟩:=tG I hq
 have l1:=r2.len
 have l2:=rv.length
 have rd:=a5Y I r2 rv
 refine wX (R:=fun out=>∃ ix:List Nat,(∀ i∈ix,i<vs.length)∧ix.length=ds.length∧(ix.map fun i=>ds.getD i PyData.none)=pA ds∧out=(ix.map fun i=>its.getD i jf).toArray) hT ho hc hd (by omega) (fun A' E' s' a k' P ha keep hP=>xZ ha rd keep hs (by omega) fun ix hI he=>hP _ ⟨ix.toList,fun i hi=>?_,by rw [qO];exact hI.size,he,rfl⟩) (fun a h2 ep out ⟨ix,hr,hn,he,ho'⟩ kp hz g=>?_)
 ·have:=(Array.perm_iff_toList_perm.mp hI.perm).mem_iff.mp hi
  simp at this
  omega
 ·subst ho'
  have hf:H a=none:=I.hok.fresh hz
  refine ⟨.ref a,_,I.laid (t':=s.toks) kp hz ?_,rfl,q _ ix hf hr he⟩
  refine ⟨?_,ix.map fun i=>its.getD i jf,ep,aX.pick rv _ hr,?_⟩
  ·rw [qD,hn]
   exact qr (eB (by omega))
  ·rw [g]
theorem a2H:dU X (.builtin "sorted") (fun xs H Q=>∃ (p:Addr) (ns:List Int),xs=[.ref p]∧SqT X.K H p (ns.map V.int)∧ns.length<64∧∀ l,H l=none→Q (.ref l) (upd H l (.lst ((sortI ns).map V.int)))):=by
 intro pins s σ H xs us Q I r ⟨p,ns,e,hq,h64,q⟩
 subst e
 obtain ⟨u,rfl,rx⟩:=vals1 r
 cases rx
 obtain ⟨its,T,o,n,hT,ho,hc,hd,rv⟩:=tG I (.inr hq)
 have hi:=intsAre_of rv
 have hl:=hi.length
 refine wX (R:=fun out=>IntsAre out.toList (sortI ns)) hT ho hc hd (by omega) (fun A' E' s' a k' P ha keep hP=>list_sort_tree ha hi (by omega) fun out ns' h1 h2 h3=>?_) (fun a h2 ep out hR kp hz g=>?_)
 ·have e:=sortI_eq h2 h3
  subst e
  exact hP _ h1
 ·have hf:H a=none:=I.hok.fresh hz
  refine ⟨.ref a,_,I.laid (t':=s.toks) kp hz ?_,rfl,q _ hf⟩
  refine ⟨?_,out.toList,ep,lD hR,?_⟩
  ·rw [qD,(sortI_perm ns).length_eq]
   exact qr (eB (by omega))
  ·rw [g]
end
section
variable {X:Cx}
theorem b1K (ds:List PyData) (d:PyData) (h:a7o ds=some d):CallD X (.builtin "sorted") ds d:=by
 unfold a7o at h;split at h
 ·rename_i e
  cases (qA h)
  exact b4s ds _ e
 ·have key:∀ (y:PyData) (xs:List PyData),wH y=some xs→∀ d,a7q xs=some d→CallD X (.builtin "sorted") [y] d:=fun y xs hy d h=>by
   unfold a7q at h;split at h
   ·rename_i x xs
    split at h
    ·rename_i k g e
     split at h
     ·rename_i hc
      rw [qJ] at hc
      cases (qA h)
      have hs:∀ d∈x::xs,cO (k::g) d=true:=fun d hd=>jN.mp hc.1 d hd
      exact ⟨_,a2F,fun vs G H Q s r q=>by
       obtain ⟨v,rfl,r0⟩:∃ v,vs=[v]∧Rep X.K G v y:=by
        cases r with
        | cons r rr=>cases rr;exact ⟨_,rfl,r⟩
       obtain ⟨p,us,rfl,hq,r⟩:=iL s hy r0
       exact ⟨_,_,x::xs,k,g,rfl,hq,r.mono s,hs,of_decide_eq_true hc.2,fun l ix hn hi he=>q _ _ _ (.put s hn) (.list (.of aL) (by
        rw [←he]
        exact (r.pick ix hi).mono (Grow.put s hn).gg))⟩⟩
     ·cases h
    ·cases h
   ·cases h
  split at h
  ·exact key _ _ rfl d h
  ·rename_i xs
   split at h
   ·rename_i ns e
    split at h
    ·rename_i hl
     cases (qA h)
     have:=dA (g:=.int) (fun d a q=>gQ q) e
     subst this
     exact ⟨_,a2H,fun vs G H Q s r q=>by
      cases r with | cons r rr=>cases rr;cases r with | tuple hq r=>
       have e:=r.ints
       subst e
       exact ⟨_,ns,rfl,gM s hq,hl,fun l hn=>q _ _ _ (.put s hn) (.list (.of aL) (fD _))⟩⟩
    ·cases h
   ·exact key _ _ rfl d h
  ·cases h
end
theorem a7p {g:List Bool} {k:Bool} {x:PyData} {xs:List PyData} (hs:∀ d∈x::xs,cO (k::g) d=true) (h64:(x::xs).length<64):a7q (x::xs)=some (.list (pA (x::xs))):=by
 have so:∀ (g:List Bool) (a:List PyData),eT g a=true→a0N a=some g:=by
  intro g
  induction g with
  | nil=>intro a h;rw [gL h];rfl
  | cons b g ih=>
   intro a h
   cases b with
   | true=>obtain ⟨i,r,rfl,h⟩:=sig_int h;simp [a0N,ih r h]
   | false=>obtain ⟨i,r,rfl,h⟩:=sig_str h;simp [a0N,ih r h]
 obtain ⟨a,e,ha⟩:=eY (hs x (by simp))
 have e2:b4u x=some (k::g):=by subst e;exact so _ _ ha
 have e3:((x::xs).all (cO (k::g))&&decide ((x::xs).length<64))=true:=by
  rw [qJ]
  exact ⟨jN.mpr hs,decide_eq_true h64⟩
 show (match b4u x with | some (k::g)=>if (x::xs).all (cO (k::g))&&decide ((x::xs).length<64) then some (vy (pA (x::xs))) else none | _=>none)=_
 rw [e2]
 exact if_pos e3
theorem a8B {g:List Bool} {k:Bool} {x:PyData} {xs:List PyData} (hs:∀ d∈x::xs,cO (k::g) d=true):dH intD (x::xs)=none:=by
 obtain ⟨a,e,ha⟩:=eY (hs x (by simp))
 subst e;rfl
theorem a4y {g:List Bool} {k:Bool} {ds:List PyData} (hs:∀ d∈ds,cO (k::g) d=true) (h64:ds.length<64):a7o [.tuple ds]=some (.list (pA ds)):=by
 cases ds with
 | nil=>simp [a7o,b1L,dH,sortI,pA]
 | cons x xs=>
  show (match dH intD (x::xs) with | some ns=>_ | none=>a7q (x::xs))=_
  rw [a8B hs]
  exact a7p hs h64
end L2.L3
namespace L2.L3
open PySem
end L2.L3
namespace L2.L3
open PySem
def cov (G:List (Int×Int)) (m:Int):Prop:=∃ p∈G,p.1≤m∧m<p.2
abbrev a8D (G:List (Int×Int)):Prop:=G.Pairwise fun p q=>p.2<q.1
abbrev Fat (G:List (Int×Int)):Prop:=∀ p∈G,p.1<p.2
theorem a5h:∀ {G:List (Int×Int)},Gap G→Fat G→a8D G
 | [],_,_=>.nil
 | [a],_,_=>by simp [a8D]
 | a::b::t,⟨h1,h2⟩,hf=>by
  have ih:=a5h h2 fun p hp=>hf p (qE _ hp)
  refine qc.mpr ⟨fun q hq=>?_,ih⟩
  rcases qF.mp hq with rfl | hq
  ·exact h1
  ·have:=(qc.mp ih).1 q hq
   have:=hf b (by simp)
   omega
theorem a0a {p:Int×Int} {G:List (Int×Int)} {m:Int}:cov (p::G) m↔(p.1≤m∧m<p.2)∨cov G m:=by
 unfold cov
 constructor
 ·rintro ⟨q,hq,h⟩
  rcases qF.mp hq with rfl | hq
  ·exact .inl h
  ·exact .inr ⟨q,hq,h⟩
 ·rintro (h | ⟨q,hq,h⟩)
  ·exact ⟨p,by simp,h⟩
  ·exact ⟨q,qE _ hq,h⟩
theorem b5V {p:Int×Int} {G:List (Int×Int)} (h:a8D (p::G)) {m:Int} (c:cov G m):p.2<m:=by
 obtain ⟨q,hq,h1,h2⟩:=c
 have:=(qc.mp h).1 q hq
 omega
theorem a0h (s:List Mt) (m:Int):cov (bG s) m↔0<aS s m:=by
 by_cases h:s=[]
 ·subst h
  have e:bG []=[]:=by decide +kernel
  rw [e]
  constructor
  ·rintro ⟨p,hp,_⟩;cases hp
  ·intro z
   rw [tS (s:=[]) (m:=m) (fun x hx=>by cases hx)] at z
   omega
 ·obtain ⟨lo,hi,r,E⟩:=a6I h
  have a:=b2t E.busy m
  have ge:=a6p s m
  have key:cov (bG s) m↔0<((bG s).filter fun p=>decide (p.1≤m)&&decide (m<p.2)).length:=by
   constructor
   ·rintro ⟨p,hp,h1,h2⟩
    exact List.length_pos_of_mem (qv.mpr ⟨hp,by simp [h1,h2]⟩)
   ·intro z
    obtain ⟨p,hp⟩:=List.exists_mem_of_length_pos z
    obtain ⟨h1,h2⟩:=qv.mp hp
    simp only [qJ,decide_eq_true_eq] at h2
    exact ⟨p,h1,h2⟩
  rw [key,show bG s=eI (gE s) from rfl,a]
  by_cases c:lo≤m∧m<hi
  ·by_cases d:min (aS s m) 1=1
   ·rw [if_pos ⟨c,d⟩];omega
   ·rw [if_neg (fun z=>d z.2)];omega
  ·rw [if_neg (fun z=>c z.1)]
   have:=E.out c
   omega
theorem b0b (s t:List Mt) (m:Int):aS (s++t) m=aS s m+aS t m:=by
 unfold aS iP
 rw [List.filter_append,qj,jA]
 omega
theorem b0a (x:Mt) (m:Int):aS [x] m=if x.2.1≤m∧m<x.2.2 then 1 else 0:=by
 unfold aS iP bS
 by_cases h:x.2.1≤m∧m<x.2.2
 ·rw [if_pos h,qg (by simp [h.1,h.2])];rfl
 ·rw [if_neg h,qo (by simp only [qJ,decide_eq_true_eq];exact h)];rfl
end L2.L3
namespace L2.L3
open PySem PySem.Spec PyProof.Rows
theorem wV (f g:Int→Int) (lo:Int):∀ n:Nat,sumF (fun x=>f x+g x) lo n=sumF f lo n+sumF g lo n
 | 0=>rfl
 | n+1=>by rw [dJ,dJ,dJ,wV f g lo n];omega
theorem fO {f g:Int→Int} {lo:Int}:∀ {n:Nat},(∀ x,lo≤x→x<lo+n→f x=g x)→sumF f lo n=sumF g lo n
 | 0,_=>rfl
 | n+1,h=>by rw [dJ,dJ,fO (n:=n) (fun x h1 h2=>h x h1 (by omega)),h (lo+n) (by omega) (by omega)]
theorem a5P {f g:Int→Int} {lo:Int}:∀ {n:Nat},(∀ x,f x≤g x)→sumF f lo n≤sumF g lo n
 | 0,_=>jo _
 | n+1,h=>by
  rw [dJ,dJ]
  have:=a5P (lo:=lo) (n:=n) h
  have:=h (lo+n)
  omega
theorem sX (lo:Int):∀ n:Nat,sumF (fun _=>0) lo n=0
 | 0=>rfl
 | n+1=>by rw [dJ,sX lo n];rfl
def iv (p:Int×Int) (x:Int):Int:=if p.1≤x∧x<p.2 then 1 else 0
theorem a4w (a b:Int):∀ n:Nat,sumF (iv (a,b)) 0 n=max (min b n - max a 0) 0
 | 0=>by
  show (0:Int)=_
  omega
 | n+1=>by
  rw [dJ,a4w a b n]
  unfold iv
  dsimp only
  split<;>omega
theorem b2K (p q:Int×Int) (x:Int):iv p x*iv q x=iv (max p.1 q.1,min p.2 q.2) x:=by
 unfold iv
 dsimp only
 split<;>split<;>split<;>omega
theorem a9c {p q:Int×Int} {n:Nat} (h0:0≤p.1) (hn:p.2≤n):max (min p.2 q.2 - max p.1 q.1) 0=sumF (fun x=>iv p x*iv q x) 0 n:=by
 rw [fO (g:=iv (max p.1 q.1,min p.2 q.2)) (fun x _ _=>b2K p q x),a4w]
 omega
theorem wU {α:Type} (f:α→Int→Int) (n:Nat):∀ G:List α,(G.map fun p=>sumF (f p) 0 n).sum=sumF (fun x=>(G.map fun p=>f p x).sum) 0 n
 | []=>(sX 0 n).symm
 | p::G=>by
  rw [qG,zS,wU f n G,←wV]
  rfl
theorem a1M (c:Int):∀ l:List Int,(l.map fun x=>c*x).sum=c*l.sum
 | []=>by simp
 | a::l=>by rw [qG,zS,zS,a1M c l,Int.mul_add]
open Classical in
theorem a1N:∀ {G:List (Int×Int)} (x:Int),a8D G→(G.map fun p=>iv p x).sum=if cov G x then 1 else 0
 | [],x,_=>by
  rw [if_neg (by rintro ⟨p,hp,_⟩;cases hp)];rfl
 | p::G,x,h=>by
  rw [qG,zS,a1N x (qc.mp h).2]
  unfold iv
  by_cases c:p.1≤x∧x<p.2
  ·have n:¬cov G x:=fun z=>by have:=b5V h z;omega
   rw [if_pos c,if_neg n,if_pos (a0a.mpr (.inl c))];rfl
  ·rw [if_neg c]
   by_cases z:cov G x
   ·rw [if_pos z,if_pos (a0a.mpr (.inr z))];rfl
   ·rw [if_neg z,if_neg (fun w=>(a0a.mp w).elim c z)];rfl
def fJ (s o:List Mt) (x:Int):Int:=if 0<aS s x∧0<aS o x then 1 else 0
def eZ (s o:List Mt):Int:=((bG s).map fun p=>((bG o).map fun q=>max (min p.2 q.2 - max p.1 q.1) 0).sum).sum
theorem b3y {s:List Mt} {n:Nat} (h:∀ m∈s,0≤m.2.1∧m.2.2≤n):∀ p∈bG s,0≤p.1∧p.2≤n:=fun p hp=>by
 have fat:=(sL s).1 p hp
 have at':∀ x,p.1≤x→x<p.2→0≤x∧x<n:=fun x h1 h2=>by
  have l:=(a0h s x).mp ⟨p,hp,h1,h2⟩
  apply zn
  intro z
  rw [tS fun m hm w=>by have:=h m hm;omega] at l
  omega
 have a:=at' p.1 (by omega) fat
 have b:=at' (p.2 - 1) (by omega) (by omega)
 omega
open Classical in
theorem nY {s o:List Mt} {n:Nat} (h:∀ m∈s,0≤m.2.1∧m.2.2≤n):eZ s o=sumF (fJ s o) 0 n:=by
 have gs:a8D (bG s):=a5h (sL s).2 (sL s).1
 have go:a8D (bG o):=a5h (sL o).2 (sL o).1
 unfold eZ
 have e1:∀ p∈bG s,((bG o).map fun q=>max (min p.2 q.2 - max p.1 q.1) 0).sum=sumF (fun x=>iv p x*if cov (bG o) x then 1 else 0) 0 n:=fun p hp=>by
  have hb:=b3y h p hp
  rw [jQ (g:=fun q=>sumF (fun x=>iv p x*iv q x) 0 n) (fun q _=>a9c hb.1 hb.2),wU (fun q x=>iv p x*iv q x)]
  refine fO fun x _ _=>?_
  rw [←a1N x go,←a1M,qV];rfl
 rw [jQ e1,wU (fun p x=>iv p x*if cov (bG o) x then 1 else 0)]
 refine fO fun x _ _=>?_
 have e2:((bG s).map fun p=>iv p x*if cov (bG o) x then 1 else 0).sum=(if cov (bG o) x then 1 else 0)*((bG s).map fun p=>iv p x).sum:=by
  rw [←a1M,qV]
  congr 1
  exact jQ fun p _=>Int.mul_comm _ _
 rw [e2,a1N x gs]
 unfold fJ
 have b1:=a0h s x
 have b2:=a0h o x
 by_cases c1:0<aS s x<;>by_cases c2:0<aS o x<;>simp [b1,b2,c1,c2]
theorem a3g {s o:List Mt} {n:Nat} (h:∀ m∈s,0≤m.2.1∧m.2.2≤n) (h':∀ m∈o,0≤m.2.1∧m.2.2≤n):eZ o s=eZ s o:=by
 rw [nY h,nY h']
 refine fO fun x _ _=>?_
 unfold fJ
 by_cases c1:0<aS s x<;>by_cases c2:0<aS o x<;>simp [c1,c2]
def worthOf (s:List Mt):Int:=(s.map fun x=>x.2.2 - x.2.1).sum
theorem a3z {n:Nat}:∀ {s:List Mt},(∀ m∈s,0≤m.2.1∧m.2.1<m.2.2∧m.2.2≤n)→sumF (aS s) 0 n=worthOf s
 | [],_=>sX 0 n
 | m::s,h=>by
  have hm:=h m (by simp)
  have e:sumF (aS (m::s)) 0 n=sumF (fun x=>iv (m.2.1,m.2.2) x+aS s x) 0 n:=fO fun x _ _=>by
   have:=b0b [m] s x
   rw [b0a] at this
   exact this
  rw [e,wV,a4w,a3z fun k hk=>h k (by simp [hk])]
  show _=(m.2.2 - m.2.1)+worthOf s
  have hm1:=hm.1
  have hm2:=hm.2.1
  have hm3:=hm.2.2
  rw [show max (min m.2.2 (n:Int) - max m.2.1 0) 0=m.2.2 - m.2.1 by omega]
theorem a1S {s:List Mt} {n:Nat} (h:∀ m∈s,0≤m.2.1∧m.2.1<m.2.2∧m.2.2≤n):eZ s s≤worthOf s:=by
 rw [nY (n:=n) fun m hm=>⟨(h m hm).1,(h m hm).2.2⟩,←a3z h]
 refine a5P fun x=>?_
 unfold fJ
 have:=a6p s x
 split<;>omega
end L2.L3
namespace L2.L3
open PySem PySem.W PyProof.Rows
section
variable {X:Cx} {e:Expr} {fa:EF} {x:Str} {pos:Pos}
def dfE (g:PyData→PyData→Option PyData) (fa fb:EF):EF:=fun ρ=>match fa ρ,fb ρ with
 | some (.ok x),some (.ok y)=>lft (g x y)
 | _,_=>none
def b5G (i:Nat) (fa:EF):SF:=fun ρ=>match ρ[i]? with
 | some (.lst ds)=>bns (fa ρ) ρ fun d=>(match wH d with
  | some es=>if fK (ds.length+es.length) then some (.nx (ρ.set i (.lst (ds++es)))) else none
  | none=>none)
 | _=>none
def b6H (K:qB):V→List V→Hp→VK→Prop:=fun x vs H Q=>∃ l b xs zs,x=.ref l∧vs=[.ref b]∧H l=some (.lst xs)∧(SqL K H b zs∨SqT K H b zs)∧xs.length+zs.length≤sizeLine∧Q .non (upd H l (.lst (xs++zs)))
theorem b2z:MtM X "list.extend" (b6H X.K):=by
 intro pins s σ H x vs v us Q I rx rv h
 obtain ⟨l,b,xs,zs,rfl,rfl,hH,hB,hz,q⟩:=h
 cases rx
 obtain ⟨u,rfl,ru⟩:=rv.one
 cases ru
 obtain ⟨z,its,n,r,hl,e⟩:=I.lstM hH
 obtain ⟨its2,T,o,n2,hT,ho,hc,hd,r2⟩:=tG I hB
 have hl2:=r2.length
 have hl1:=r.length
 have hsz:its.toArray.size+its2.toArray.size≤sizeLine:=by rw [qL,qL];omega
 have hlong:¬(!its.toArray.isEmpty&&vO (its.toArray.size+its2.toArray.size))=true:=by
  rw [a9L hsz,Bool.and_false]
  exact qX
 refine wpAny_call_entry F.slot_list_extend ⟨_,e,rfl⟩ F.entry_list_extend ?_ (F.args_list_extend_2 _ _)
 show wpAny _ _ (jY (.ref l) (.ref b) .none) _ _ s
 unfold jY
 refine wpAny_bind (wpAny_typeOf (T:=T) ⟨o,ho,hc⟩ ?_)
 rw [if_pos (by rcases hT with rfl | rfl<;>simp)]
 refine wpAny_bind (listItems_at ho hd ?_)
 refine wpAny_bind (listItems_at e rfl ?_)
 rw [if_neg hlong]
 refine wpAny_bind (listUpdate_at e rfl ?_ (by rw [qL];omega) (by rw [Array.size_append];omega))
 refine wpAny_pure ⟨_,rfl,.non,_,I.lset (its':=its++its2) (t':=s.toks) hH e (by simp) (r.append r2) ?_,rfl,q⟩
 rw [jA]
 omega
theorem b3e (i:Nat) {p ap cp:Pos} (h:DE X e fa) (hN:X.N[i]?=some x:=by rfl)
  (hv:Vis X.env.scope x:=by first | exact jx rfl | exact jX (jx rfl) | exact jX (jX rfl)) (hd:(x==("__debug__" : Str))=false:=by decide) (hcd:(x==("__classdict__" : Str))=false:=by decide)
  (hbase:attributeBase (.Name x p) "extend" X.env (eval (.Name x p) X.env)=eval (.Name x p) X.env:=by rfl)
  (hfew:((backTo cp (starEach (e::[]) X.env)).all (fun x=>!x.1)&&(backToKw cp (keywordEach [] X.env)).all (fun x=>x.1.isSome)&&decide ((e::[]).length+([]:List Keyword).length+(if ([]:List Keyword).isEmpty then 0 else 1)<30))=true:=by rfl)
  (hline:(ap.endLine==cp.line)=true:=by rfl) (hst:starEach (e::[]) X.env=(false,eval e X.env)::starEach [] X.env:=by rfl) (hplain:(backTo cp (starEach [] X.env)).any (·.1)=false:=by rfl)
  (hsw:swapsWith (.Call (.Attribute (.Name x p) "extend" ap) [e] [] cp) none pos.line X.env=pure false:=by rfl) :
  DS X (.Expr (.Call (.Attribute (.Name x p) "extend" ap) [e] [] cp) pos) (b5G i fa):=⟨fun pins s σ H D I ⟨ρ,o,H0,G₀,G,ef,R,q⟩=>
 a1X (a9B PySem.F.plainAttrs_list PySem.F.slot_list_extend PySem.F.type_list_extend b2z (gZ hN hv hd hcd) (eE h.run iX hst) hbase hfew hline hst hplain) hsw pins s σ H D I (by
  unfold b5G at ef
  split at ef
  ·rename_i ds hi
   obtain ⟨a,xs,e1,h1,h2,h3,r⟩:=R.own hi
   refine ⟨.ref a,e1,.inl ⟨rfl,xs,.of h1⟩,sE R ef q fun d v G1 H1 g1 R1 rv e2 q1=>?_⟩
   split at e2
   ·rename_i es he
    split at e2
    ·rename_i hz
     cases (qA e2)
     obtain ⟨b,zs,rfl,hq,r'⟩:=iL g1.sub he rv
     exact ⟨a,_,xs,_,rfl,rfl,g1.hh.lst h1,hq,by rw [r.length,r'.length];exact lE hz,q1 G1 _ σ (.refl _) (R1.wrote hi e1 ((r.mono g1.gg).append r'))⟩
    ·cases e2
   ·cases e2
  ·cases ef)⟩
end
end L2.L3
namespace L2.L3
open PySem PySem.Spec PySem.Calls PyProof.Rows
section
variable {P:Program} {w:World} {K:qB} {mg:Str→Option Value} {base:Heap}
end
end L2.L3
namespace L2.L3
open PySem PySem.Spec PySem.Calls PyProof.Rows
structure BM (mg:Str→Option Value) (base:Heap):Prop where
 ex:∃ bm ob,mg "__builtins__" = some (.ref bm)∧bm≠builtinsNs∧bm≠mainGlobals∧base.get? bm=some ob∧ob.cls=.type "module" ∧ ob.dict=some builtinsNs∧ob.data=.plain
theorem wS (i j:Int) (t u:Tok) (v:Value):∀ (n:Nat) (l:List Value),l.length≤n→TriplesOk l→TriplesOk (l++[.int i t,.int j u,v]):=by
 intro n
 induction n with
 | zero=>
  intro l hl _
  cases l with
  | nil=>trivial
  | cons a l=>cases hl
 | succ n ih=>
  intro l hl h
  unfold TriplesOk at h
  split at h
  ·trivial
  ·rename_i rest
   have hr:rest.length≤n:=by simp only [qi] at hl;omega
   exact ih rest hr h
  ·cases h
theorem a1K (l:List Value) (i j:Int) (t u:Tok) (v:Value) (h:TriplesOk l):TriplesOk (l++[.int i t,.int j u,v]):=wS i j t u v l.length l (qN _) h
theorem a0m {p:Pos} {c cv:Value} (i j:Int) (t u:Tok):∀ (l:List Value),TriplesOk l→codeAmong p (l++[.int i t,.int j u,c])=some cv→codeAmong p l=some cv∨cv=c
 | [],_,h=>by
  have h:(if (i==(p.line:Int)&&j==(p.col:Int))=true then some c else none)=some cv:=h
  split at h
  ·exact .inr (qA h).symm
  ·cases h
 | .int a _::.int b _::d::r,ht,h=>by
  have h:(if (a==(p.line:Int)&&b==(p.col:Int))=true then some d else codeAmong p (r++[.int i t,.int j u,c]))=some cv:=h
  show (if (a==(p.line:Int)&&b==(p.col:Int))=true then some d else codeAmong p r)=some cv∨_
  split at h
  ·rename_i hc;rw [if_pos hc];exact .inl h
  ·rename_i hc;rw [if_neg hc];exact a0m i j t u r ht h
section
variable {X:Cx} {pins:List (Addr×Obj)} {σ:St} {H H0 G₀ G:Hp} {s:Shared} {ρ:List Ent}
theorem b0d {x:Str} {cl:List (Str×Addr)} {c P:Addr} {params:Arguments} {body:Expr} {scope:Scope} {pos:Pos} {E:Value→Shared→Prop} {Q:Value→Shared→Prop} (hx:x∈gD) (ht:jq X.K x=some (c,P)) (hc:X.env.code=.ref c)
  (hq:X.env.qual ++ "<lambda>" = lamQ x) (C:zI X.K c P=true) (M:BM X.mg X.base) (hdef:defaultsOf params X.env=([],[])) (hcl:closureFor scope X.env=pure cl) (I:Inv X pins σ H s) (R:RepS X.K H0 G₀ G H σ ρ)
  (h:∀ f c' ct pm H' s',Inv X pins σ H' s'→Grow G H G H'→s'.heap.get? f=some (PySem.W.kla_obj "<lambda>" (lamQ x) params body scope cl pm c' ct)→H' f=none→s.heap.objs.size≤f→H' c'=some (cdO c' (lamQ x))→Q (.ref f) s') :
  wpAny (model X.prog X.w) X.A (eval (.Lambda params body scope pos) X.env) Q E s:=by
 refine PySem.W.kla_eval hdef ?_
 rw [hq]
 have hTab:=R.tab.1 x hx c P ht
 generalize lamQ x=q at hTab h ⊢
 obtain ⟨ps,hP,hT,hA⟩:=hTab
 have hPo:s.heap.get? P=some (vT ps):=I.hok P _ hP
 have C0:PySem.W.CodeHd s.heap c P:=PySem.W.codeHd_of_K I.kIn C
 have hg:s.heap.Ns mainGlobals X.mg:=I.mod.glob.keeps I.bk
 have hgP:mainGlobals≠P:=fun z=>by
  obtain ⟨o,es,ep,e,hd,_⟩:=hg
  rw [z,hPo] at e;cases e;cases hd
 have hB:s.heap.BuiltinsAt X.mg P:=by
  obtain ⟨bm,ob,b1,b2,b3,b4,b5,b6,b7⟩:=M.ex
  refine ⟨bm,ob,b1,b2,b3,fun z=>?_,I.bk _ _ b4,b5,b6,b7⟩
  have e:=I.bk _ _ b4
  rw [z,hPo] at e;cases e;cases b5
 cases hm:codeAmong pos ps.toList with
 | some cv=>
  obtain ⟨c',rfl,hc'⟩:=hA pos cv hm
  refine PySem.W.kla_makeFunctionHit hcl I.ok.glob hg hc C0 hPo hT hm hB fun ct h' tk kp sz=>?_
  exact h _ c' ct _ H _ (I.kept fun b o e=>qC _ (kp b o e)) (.refl R.sub) (qI _ rfl) (I.hok.fresh sz) sz hc'
 | none=>
  refine PySem.W.kla_makeFunction hcl I.ok.glob hg hc C0 hPo hT hm hgP hB fun c' ct h' tk ex ge lt rc tb=>?_
  have hf:H c'=none:=I.hok.fresh ge
  have cP:c'≠P:=fun z=>by rw [z,hP] at hf;cases hf
  have lP:P≠X.env.locals:=fun z=>by have:=I.free;rw [←z,hP] at this;cases this
  -- the heap beside the table
  have kp:∀ b o,b≠P→s.heap.get? b=some o→(h'.push (PySem.W.kla_obj "<lambda>" q params body scope cl ((X.mg "__name__").getD .none) c' ct)).get? b=some o:=fun b o n e=>qC _ (ex b o n e)
  have hsz:s.heap.objs.size≤h'.objs.size:=ql ge (qr lt)
  have H1:∀ b,b≠P→b≠c'→upd (upd H P (.tbl (q,ps++#[rawInt pos.line,rawInt pos.col,.ref c']))) c' (cdO c' (q)) b=H b:=fun b n1 n2=>by rw [aH n2,aH n1]
  have HP:upd (upd H P (.tbl (q,ps++#[rawInt pos.line,rawInt pos.col,.ref c']))) c' (cdO c' (q)) P=some (.tbl (q,ps++#[rawInt pos.line,rawInt pos.col,.ref c'])):=by rw [aH (jh cP),aL]
  have nb:∀ b o,s.heap.get? b=some o→b≠c':=fun b o e=>qW (qR (qH e) ge)
  have nH:∀ b o,H b=some o→b≠c':=fun b o e z=>by rw [z,hf] at e;cases e
  have nP:∀ b,H b=none→b≠P:=fun b e z=>by rw [z,hP] at e;cases e
  have hsm:Sm H (upd (upd H P (.tbl (q,ps++#[rawInt pos.line,rawInt pos.col,.ref c']))) c' (cdO c' (q))):=by
   refine ⟨fun b o e n=>?_,fun b p e=>?_,fun P' q' t=>?_⟩
   ·rw [H1 b (fun z=>by rw [z,hP] at e;cases e;exact n _ rfl) (nH b o e)];exact e
   ·by_cases z:b=P
    ·rw [z];exact ⟨_,HP⟩
    ·exact ⟨p,by rw [H1 b z (nH b _ e)];exact e⟩
   ·obtain ⟨ps',g1,g2,g3⟩:=t
    have old:∀ d o,H d=some (cdO d o)→upd (upd H P (.tbl (q,ps++#[rawInt pos.line,rawInt pos.col,.ref c']))) c' (cdO c' (q)) d=some (cdO d o):=fun d o e=>by
     rw [H1 d (fun z=>by rw [z,hP] at e;unfold cdO at e;cases e) (nH d _ e)];exact e
    by_cases z:P'=P
    ·subst z
     rw [hP] at g1
     cases g1
     refine ⟨_,HP,?_,fun p cv e=>?_⟩
     ·rw [Array.toList_append];exact a1K _ _ _ _ _ _ g2
     ·rw [Array.toList_append] at e
      rcases a0m _ _ _ _ _ g2 e with e | rfl
      ·obtain ⟨d,e1,e2⟩:=g3 p cv e
       exact ⟨d,e1,old d _ e2⟩
      ·exact ⟨c',rfl,aL⟩
    ·refine ⟨ps',by rw [H1 P' z (nH P' _ g1)];exact g1,g2,fun p cv e=>?_⟩
     obtain ⟨d,e1,e2⟩:=g3 p cv e
     exact ⟨d,e1,old d _ e2⟩
  have gw:Grow G H G (upd (upd H P (.tbl (q,ps++#[rawInt pos.line,rawInt pos.col,.ref c']))) c' (cdO c' (q))):=by
   refine ⟨.refl _,hsm,fun b o e=>?_,fun _ e _=>e,id⟩
   rw [H1 b (fun z=>by have:=R.sub b o e;rw [z,hP] at this;cases this;exact R.tab.2 _ _ e) (nH b o (R.sub b o e))]
   exact R.sub b o e
  refine h h'.objs.size c' ct _ _ _ (I.step (ch:=[]) (g':=s.gens) (d':=s.drawn) (t':=tk) (h':=h'.push (PySem.W.kla_obj "<lambda>" q params body scope cl ((X.mg "__name__").getD .none) c' ct)) (fun _ z=>nomatch z) (fun b o _ _ _ e n=>kp b o (nP b n) e) (fun b o _ _ _ e n=>⟨o.slots,kp b o (nP b n) e⟩)
   (fun b o _ e n=>by rw [H1 b (nP b n) (nb b o e)];exact n) (fun b o _ e=>?_) (fun b xs e=>by rw [H1 b (eV e hP (by nofun)) (nH b _ e)];exact e) (fun b o u e=>by rw [H1 b (eV e hP (by nofun)) (nH b _ e)];exact e) (fun b p e=>?_) (fun m hn=>(hn.extBut ex (jh lP)).push _) (fun b u e=>?_) I.bare) gw (qI _ rfl) ?_ hsz aL
  ·by_cases z:b=P
   ·rw [z];exact ⟨_,qC _ tb⟩
   ·exact ⟨o,kp b o z e⟩
  ·by_cases z:b=P
   ·subst z
    rw [hP] at e;cases e
    exact ⟨#[rawInt pos.line,rawInt pos.col,.ref c'],HP⟩
   ·exact ⟨#[],by rw [H1 b z (nH b _ e),e];simp⟩
  ·by_cases z:b=c'
   ·subst z
    rw [aL] at e;cases e
    obtain ⟨c2,o2,vs,t,e1,e2,e3,e4⟩:=rc
    cases e1
    exact ⟨⟨_,o2,vs,t,rfl,qC _ e2,e3,e4⟩,⟨o2,qC _ e2⟩,fun h1 h2 ⟨c3,o3,vs3,t3,g1,g2,g3,g4⟩ k=>by cases g1;exact ⟨_,o3,vs3,t3,rfl,k _ g2,g3,g4⟩⟩
   ·by_cases z2:b=P
    ·subst z2
     rw [HP] at e;cases e
     exact qC _ tb
    ·rw [H1 b z2 z] at e
     refine (I.hok b u e).stay (fun b' u' hb' e'=>kp b' u' (fun y=>?_) e') (fun b' e'=>by rw [H1 b' (eV e' hP (by nofun)) (nH b' _ e')];exact e') fun b' xs e'=>by rw [H1 b' (eV e' hP (by nofun)) (nH b' _ e')];exact e'
     rcases hb' with y' | y'
     ·exact z2 (y'.symm.trans y)
     ·rw [y,hP] at y';cases y'
  ·have:=jK lt
   rw [H1 _ (fun z=>absurd (qH hPo) (by rw [←z];exact Nat.not_lt_of_le hsz)) this]
   exact I.hok.fresh hsz
end
end L2.L3
namespace L2.L3
open PySem PySem.W PyProof.Rows PySem.Calls
section
variable {prog:Program} {w:World} {A:Around} {E:Value→Shared→Prop} {s:Shared}
end
end L2.L3
namespace L2.L3
open PySem PySem.W PyProof.Rows PySem.Calls
section
variable {prog:Program} {w:World} {A:Around} {E:Value→Shared→Prop} {s:Shared}
end
end L2.L3
namespace L2.L3
open PySem PySem.Spec PySem.Calls PyProof.Rows
section
variable {X:Cx} {pins:List (Addr×Obj)} {σ:St} {H H0 G₀ G:Hp} {s:Shared} {ρ:List Ent}
end
end L2.L3
namespace L2.L3
open PySem PySem.Spec PySem.Calls PyProof.Rows
section
variable {P:Program} {w:World} {K:qB} {mg:Str→Option Value} {base:Heap} {x:Str} {k:Nat} {ps N:List Str}
theorem b2T {st:Stmt} {f:SF} {fa c T:Addr} {fd:FuncData} (m n:Nat) (Fu:Fun K x x st fa fd) (S:FnScope N ps (aD st)) (hm:N.length=m) (hn:ps.length=n) (kb:K.In base) (nb:base.Ns mainGlobals mg) (hmg:mg x=some (.ref fa)) (ht:jq K x=some (c,T))
  (body:∀ (A:Around) (outer:List Env) (s:Shared) (H:Hp) (E:XK),Room k (A.deeper (envOfC x (aD st) s.heap.objs.size fa (.ref c)))→DB (fcx P w K mg base N x (aD st) fa (.ref c) A outer s H E) (cA st) f) :
  FnOk P w K mg base CX0 (k+1) fa fd ps (spD K fun ds d=>eA m n f ds=some (.ok d)):=by
 obtain ⟨oc,od,kV,doc,pm,an,cdv,ct,osl,rfl,lk,hcd⟩:=Fu.ex
 have hc:cdv=.ref c:=PySem.W.law_code kb nb ht hmg (kb _ _ lk) rfl
 subst hc
 refine b0K lk hcd S (fun vs H Q E ⟨G,ds,d,s,r,hF,_⟩=>?_) (fun A outer s H vs Q E hr ⟨G,ds,d,sm,r,hF,q⟩=>?_)
 ·have hF:eA m n f ds=some (.ok d):=hF
  unfold eA at hF
  split at hF
  ·rename_i hl;rw [r.length,hl,hn]
  ·cases hF
 ·have hF:eA m n f ds=some (.ok d):=hF
  unfold eA at hF
  split at hF
  ·rw [←hm,←sZ] at hF
   split at hF
   ·rename_i d' e
    cases (qA hF)
    exact ⟨_,(body A outer s H E hr).run.nox,gF N ds,_,H,G,G,e,fP sm r,fun v G' H' _ g rv=>q v G' H' g rv⟩
   ·rename_i ρ' e
    cases (qA hF)
    exact ⟨_,(body A outer s H E hr).run.nox,gF N ds,_,H,G,G,e,fP sm r,fun G' H' σ' _ R'=>q .non G' H' R'.grow .none⟩
   ·cases hF
  ·cases hF
end
theorem xX {β:Type}:∀ {l:List (Addr×β)} {a:Addr} {b:β},l.lookup a=some b→(a,b)∈l
 | [],_,_,e=>by cases e
 | (c,y)::r,a,b,e=>by
  rw [jF] at e
  cases hb:a==c with
  | true=>rw [hb] at e;cases e;rw [eq_of_beq hb];exact .head _
  | false=>rw [hb] at e;exact .tail _ (xX e)
theorem a7R {P:Program} {w:World} {K:qB} {mg mb:Str→Option Value} {k:Nat} {fa a:Addr} {fd:FuncData} {x:Str} {F:List PyData→Mm PyData} {s₁:Shared} {vs:List Value} {ns:List Int} {ts:List (Addr×Str)}
  (KX:K.In s₁.heap) (hns:s₁.heap.Ns mainGlobals mg) (hb:s₁.heap.Ns builtinsNs mb) (hbb:∀ x:Str,x ≠ "__name__" → mb x=bootBuiltins x) (hlim:s₁.heap.NoLimit) (hg:s₁.gens=#[])
  (ha:s₁.heap.get? a=some { cls:=.type "list", data:=.seq vs.toArray }) (hi:IntsAre vs ns) (hl:ns.length≤sizeLine) (hr:Room k callerA) (hbm:BM mg s₁.heap)
  (htab:∀ T q,ts.lookup T=some q→s₁.heap.get? T=some (vT #[])∧isCodeTable s₁.heap T∧K.lookup T=none) (hts:∀ x∈gD,∀ c T,jq K x=some (c,T)→ts.lookup T=some (lamQ x))
  (Fn:∀ base:Heap,K.In base→base.Ns mainGlobals mg→BM mg base→FnOk P w K mg base CX0 k fa fd [x] (spD K fun ds d=>F ds=some (.ok d))) (hbind:∀ (s:Shared) (u:Value),BindsTo s fd ⟨[u],[]⟩ [(x,u)]) (hF:F [.list (ns.map .int)]=some (.ok (.bool true))) :
  codeAny (model P w) callerA (.call (.ref fa) ⟨[.ref a],[]⟩) (fun r s'=>r=.ok (.ret (.bool true))∧OldK s₁.heap s'.heap∧s'.os=s₁.os∧AllBare s'.gens) s₁:=by
 have rv:=lD hi
 have lenV:=hi.length
 have core:∀ S:Hp,b8I S→SqL K S a (ns.map V.int)→HOk P w S s₁.heap→(∀ b,S b≠none→b=a)→(S a≠none→K.lookup a=none) →
   codeAny (model P w) callerA (.call (.ref fa) ⟨[.ref a],[]⟩) (fun r s'=>r=.ok (.ret (.bool true))∧OldK s₁.heap s'.heap∧s'.os=s₁.os∧AllBare s'.gens) s₁:=by
  intro S hO hS hok hA hK
  generalize hH:(fun b=>match ts.lookup b with | some q=>some (HO.tbl (q,#[])) | none=>S b:Hp)=H
  have H1:∀ b q,ts.lookup b=some q→H b=some (.tbl (q,#[])):=fun b q e=>by rw [←hH];simp [e]
  have H2:∀ b,ts.lookup b=none→H b=S b:=fun b e=>by rw [←hH];simp [e]
  have ta:∀ b,S b≠none→ts.lookup b=none:=fun b e=>by
   cases q:ts.lookup b with
   | none=>rfl
   | some q'=>
    have z:=hA b e
    subst z
    have:=(htab _ _ q).1
    rw [ha] at this;cases this
  have SH:bH S H:=fun b o e=>by rw [H2 b (ta b (by rw [e];simp))];exact e
  have hokH:HOk P w H s₁.heap:=fun b u e=>by
   cases q:ts.lookup b with
   | some q'=>
    rw [H1 b q' q] at e;cases e
    exact (htab _ _ q).1
   | none=>
    rw [H2 b q] at e
    exact (hok b u e).stay (fun _ _ _ z=>z) (fun b' z=>SH b' _ z) fun b' xs z=>SH b' _ z
  have free:∀ {b:Addr} {o:Obj},s₁.heap.get? b=some o→o≠vT #[]→o≠{ cls:=.type "list", data:=.seq vs.toArray }→H b=none:=fun {b o} e n1 n2=>by
   cases q:ts.lookup b with
   | some q'=>exact absurd (qA (e.symm.trans (htab _ _ q).1)) n1
   | none=>
    rw [H2 b q]
    cases z:S b with
    | none=>rfl
    | some u=>
     have y:=hA b (by rw [z];simp)
     subst y
     exact absurd (qA (e.symm.trans ha)) n2
  have base_of:∀ {b:Addr} {o:Obj},s₁.heap.get? b=some o→H b=none→(a0x s₁.heap H).get? b=some o:=fun e n=>b0y e n
  have nsK:∀ {b:Addr} {m:Str→Option Value},s₁.heap.Ns b m→(a0x s₁.heap H).Ns b m:=fun {b m} ⟨o,es,ep,e,d,r⟩=>⟨o,es,ep,base_of e (free e (fun z=>by rw [z] at d;cases d) fun z=>by rw [z] at d;cases d),d,r⟩
  have hKb:K.In (a0x s₁.heap H):=fun b o e=>base_of (KX b o e) (by
   cases q:ts.lookup b with
   | some q'=>rw [(htab _ _ q).2.2] at e;cases e
   | none=>
    rw [H2 b q]
    cases z:S b with
    | none=>rfl
    | some u=>
     have y:=hA b (by rw [z];simp)
     subst y
     rw [hK (by rw [z];simp)] at e;cases e)
  have hM:Mod K mg (a0x s₁.heap H):=⟨hKb,nsK hns,⟨mb,nsK hb,hbb⟩,let ⟨mc,h1,h2⟩:=hlim;⟨mc,nsK h1,h2⟩⟩
  have hB:BM mg (a0x s₁.heap H):=by
   obtain ⟨bm,ob,b1,b2,b3,b4,b5,b6,b7⟩:=hbm.ex
   exact ⟨bm,ob,b1,b2,b3,base_of b4 (free b4 (fun z=>by rw [z] at b5;cases b5) fun z=>by rw [z] at b5;injection b5 with b5;exact absurd b5 (by decide)),b5,b6,b7⟩
  have e0:Env0 P w K mg (a0x s₁.heap H) callerA [] s₁ H:=⟨rfl,hM,fun b o e=>b2w e,Nat.le_of_eq (a7X _ _),trivial,fun b hb=>absurd (show b∈([]:List Addr) from hb) (by simp),hokH,.of_eq hg⟩
  have tabs:lN K S H:=⟨fun x hx c T e=>⟨#[],H1 _ _ (hts x hx c T e),trivial,fun pos cv e=>by cases e⟩,fun b ps e=>by
   rcases hO b with z | ⟨o,xs,z⟩<;>rw [z] at e<;>cases e⟩
  refine codeAny_mono ((Fn _ hKb (nsK hns) hB).run callerA [] s₁ H ⟨[.ref a],[]⟩ [.ref a] [.ref a] (fun v _=>v=.bl true) E0 hr e0 (hbind s₁ (.ref a)) (.cons rfl .nil) ⟨S,[.list (ns.map .int)],.bool true,⟨SH,tabs⟩,.cons (.list hS (fD ns)) .nil,hF,fun v G' H' _ r=>by cases r;rfl⟩) fun r s' h=>?_
  cases r with
  | error e=>exact jD h
  | ok fl=>
   cases fl with
   | next=>exact jD h
   | brk=>exact jD h
   | cont=>exact jD h
   | ret u=>
    obtain ⟨v,H',os,bare,un,hok',r',q⟩:=h
    have q':v=.bl true:=q
    subst q'
    obtain rfl:u=jR true:=r'
    refine ⟨rfl,⟨fun b o e=>?_,fun b o e=>un.there b o e (by simp)⟩,os,bare⟩
    cases y:ts.lookup b with
    | some q2=>
     obtain ⟨t1,t2,t3⟩:=htab _ _ y
     rw [e] at t1;cases t1
     obtain ⟨more,em⟩:=un.tbls b _ (H1 b q2 y)
     exact .inr (.inl ⟨t2,rfl,#[],more,rfl,hok' b _ em⟩)
    | none=>
     cases q:S b with
     | none=>exact .inl (un.keep b o e (by rw [H2 b y];exact q) (by intro z;exact absurd (show b∈([]:List Addr) from z) (by simp)) (by simp))
     | some u=>
      rcases hO b with z | ⟨ob,xs,z⟩
      ·rw [q] at z;cases z
      ·have z2:=un.frzs b ob _ (SH b _ z)
       obtain ⟨e1,_⟩:=hok b _ z
       obtain ⟨e2,_⟩:=hok' b _ z2
       rw [e] at e1;cases e1
       exact .inl e2
 cases hk:K.lookup a with
 | some o=>
  have e:=KX a o hk
  rw [ha] at e
  cases e
  refine core (fun _=>none) (fun _=>.inl rfl) (.inr ⟨_,vs.toArray,_,hk,rfl,rfl,rfl,by rw [qL,lenV];exact hl,by simpa using rv⟩) (fun b u z=>by have z':(none:Option HO)=some u:=z;cases z') (fun b z=>absurd rfl z) fun z=>absurd rfl z
 | none=>
  refine core (fun b=>if b=a then some (.frz { cls:=.type "list", data:=.seq vs.toArray } (.lst (ns.map V.int))) else none) (fun b=>?_) (.inl (.inr ⟨{ cls:=.type "list", data:=.seq vs.toArray },if_pos rfl⟩)) (fun b u z=>?_) (fun b z=>?_) fun _=>hk
  ·by_cases hb:b=a
   ·exact .inr ⟨_,_,if_pos hb⟩
   ·exact .inl (if_neg hb)
  ·by_cases hb:b=a
   ·have z':=(if_pos hb).symm.trans z
    cases z'
    subst hb
    exact ⟨ha,by rw [qD];exact hl,vs,_,rv,ha⟩
   ·have z':=(if_neg hb).symm.trans z
    cases z'
  ·by_cases hb:b=a
   ·exact hb
   ·exact absurd (if_neg hb) z
theorem walkL {l:PySem.W.OpenLaw} {k:Nat} {q:Program} {loose:List Str} {XP:(Str→Option Value)→Heap→Prop} {YP:World→Heap→Prop} {d:DefRec} {K:Params→qB} {F:List PyData→Mm PyData} {x:Str} (ts:List (Addr×Str)) (hn:l.most=some 63) (hdf:d.params.defaults=[]) (hr:Room k callerA)
  (hY:∀ (w:World) (h:Heap),YP w h→(K w.params).In h) (hT:∀ (w:World) (h:Heap),YP w h→∀ p∈ts.map (·.1),h.get? p=some (vT #[])) (hcd:∀ w:World,∀ p∈ts,(∃ c,zI (K w.params) c p.1=true)∧(K w.params).lookup p.1=none)
  (hts:∀ w:World,∀ x∈gD,∀ c T,jq (K w.params) x=some (c,T)→ts.lookup T=some (lamQ x))
  (Fn:∀ (w:World) (mg:Str→Option Value) (fa:Addr) (h:Heap),(K w.params).In h→h.Ns mainGlobals mg→mg d.name=some (.ref fa) →
   ∃ fd:FuncData,(∀ (s:Shared) (u:Value),BindsTo s fd ⟨[u],[]⟩ [(x,u)])∧∀ base:Heap,(K w.params).In base→base.Ns mainGlobals mg→BM mg base→FnOk l.prog w (K w.params) mg base CX0 k fa fd [x] (spD (K w.params) fun ds d=>F ds=some (.ok d)))
  (hF:∀ ns:List Int,ns.length≤63→F [.list (ns.map .int)]=some (.ok (.bool true))) :
  PySem.W.WalkO q loose XP YP l.row.toRowW d [] (fun f vs=>PySem.call f vs):=by
 refine Att.attach_call hn hdf fun w s₀ s₁ mg mb fa o pm cd doc a vs ns G Y ho hd hcd' hmg hobj hints hlen hg=>?_
 have KX:=hY w _ Y
 obtain ⟨fd,hb,hFn⟩:=Fn w mg fa _ KX G.T.g hmg
 have hbm:BM mg s₁.heap:=by
  obtain ⟨bm,ob,b1,b2,b3,b4,b5,b6⟩:=G.T.bmain
  refine ⟨bm,ob,b1,b2,fun z=>?_,b3,b4,b5,b6⟩
  obtain ⟨o,es,ep,e,hd,_⟩:=G.T.g
  rw [z,e] at b3;cases b3;rw [hd] at b6;cases b6
 refine a7R (ts:=ts) KX G.T.g G.T.b G.T.builtins G.T.nolimit hg hobj hints (ql hlen (by decide)) hr hbm (fun T q e=>?_) (hts w) hFn hb (hF ns hlen)
 have m:=xX e
 have e1:=hT w _ Y T (jP (f:=(·.1)) m)
 obtain ⟨⟨c,hc⟩,hn'⟩:=hcd w _ m
 exact ⟨e1,((PySem.W.codeHd_of_K KX hc).tab e1).isCodeTable,hn'⟩
def b3Q (K:qB) (ts:List (Addr×Str)) (x:Str):Bool:=match jq K x with
 | none=>true
 | some (_,T)=>ts.lookup T==some (lamQ x)
theorem lam_all {K:qB} {ts:List (Addr×Str)} (h:gD.all (b3Q K ts)=true):∀ x∈gD,∀ c T,jq K x=some (c,T)→ts.lookup T=some (lamQ x):=fun x hx c T e=>by
 have:=jN.mp h x hx
 unfold b3Q at this
 rw [e] at this
 exact eq_of_beq this
theorem all_cons {α:Type} {p:α→Prop} {a:α} {l:List α} (h:p a) (t:∀ x∈l,p x):∀ x∈a::l,p x:=List.forall_mem_cons.mpr ⟨h,t⟩
end L2.L3
namespace L2.L3
open PySem
def gr:List Mt→Option Int→List Mt
 | [],_=>[]
 | m::r,none=>m::gr r (some m.2.2)
 | m::r,some e=>if e≤m.2.1 then m::gr r (some m.2.2) else gr r (some e)
end L2.L3
namespace L2.L3
open PySem PySem.Spec PyProof.Rows
def b7h (kf:Mt→PyData) (x:Mt):List Mt→List Mt
 | []=>[x]
 | y::l=>if ltT (kf y) (kf x) then y::b7h kf x l else x::y::l
def b8c (kf:Mt→PyData) (s:List Mt):List Mt:=s.foldr (b7h kf) []
section
variable {kf:Mt→PyData}
end
end L2.L3
namespace L2.L3
open PySem PySem.Spec PyProof.Rows
theorem a7N {t:Tg} {fb:SF} {d:PyData} {ds:List PyData} {ρ ρ1 ρ2:List Ent} (h1:tgD t ρ d=some ρ1) (h2:fb ρ1=some (.nx ρ2)):hZ t fb (d::ds) ρ=hZ t fb ds ρ2:=by
 rw [hZ,h1];dsimp only;rw [h2]
end L2.L3
namespace L2.L3
open PySem
section
variable {nm:Str} {b z v:Int} {n:Nat} {o:List Int}
end
section
variable {nm nm':Str} {b z v b' z' v':Int} {n n':Nat} {o o':List Int}
end
abbrev ov (x y:Mt):Prop:=max x.2.1 y.2.1<min x.2.2 y.2.2
end L2.L3
namespace L2.L3
open PySem PySem.Spec PyProof.Rows
section
variable {P:Program} {w:World} {K:qB} {mg:Str→Option Value} {base:Heap} {x:Str} {k:Nat} {ps N:List Str}
end
section
variable {X:Cx} {e:Expr} {fa:EF} {pos p pos2 p2:Pos}
end
section
variable {X:Cx} {a b:Expr} {pos p p2 pos2:Pos} {fa:EF}
end
end L2.L3
namespace L2.SX
open PySem PyProof.Rows
section
variable {prog:Program} {w:World} {K:Type} [DecidableEq K] {knd:KeyKind prog w K} {A:Around} {E:Value→Shared→Prop} {s:Shared} {a:Addr}
theorem wE:entryFor table "dict.update.loop" = some Builtin.«dict.update.loop»:=entryFor_of_tree (by kernel_rfl)
theorem iN:plainId "dict.update.loop" = true:=by decide +kernel
theorem a2m:typeLookup (.type "list") "keys" = pure none:=am_miss_of_fast (by kernel_rfl)
theorem a7S {xs:Array Value} {n:Nat} {sl:Array (Option Value)} {Q:Option Value→Shared→Prop} (hx:s.heap.get? a=some { cls:=.type "list", dict:=none,data:=.seq xs n,slots:=sl }) (hA:A.handled=none)
  (h:∀ h' tk,(∀ b ob,s.heap.get? b=some ob→h'.get? b=some ob)→Q none { s with heap:=h',toks:=tk }):wpAny (model prog w) A (getAttr? (.ref a) "keys") Q E s:=by
 obtain ⟨hp,g,d,tk,os⟩:=s
 have hT:∀ tk',(⟨hp,g,d,tk',os⟩:Shared).TypeIs (.ref a) "list" := fun _=>⟨_,hx,rfl⟩
 have f1:=sub_AttributeError
 have f3:=vL.lookup
 have f4:=vL.bind (.ref a)
 have f5:=am_list_getattr_none
 have hmiss:=a2m
 have hname:(["__module__", "__name__", "__qualname__", "__doc__", "__annotations__"]:List Str).contains "keys" = false:=by decide +kernel
 have hsz:("keys" : Str).length+100≤sizeLine:=by size_fits
 generalize ("keys" : Str)=name at hmiss hname hsz ⊢
 unfold getAttr? getAttrBy? getAttrBy
 repeat (any_goals (first | assumption | exact hT _ | ((with_reducible show wpAny _ _ (call (vQ "list.__getattribute__") _ _) _ _ _);refine call_meets vL (hT _) am_entry_list_getattribute (F.args_list_getattribute_2 _ _) (meets_getattribute_miss_list a xs n sl name _ hmiss hname hsz) ⟨hx,hA,fun h' tk' e hx'=>?_⟩) | wp_step))
 obtain ⟨t',u',he⟩:=hx'.there
 show wpAny _ _ (getattributeRaised _ _ _ _ _ _ _) _ _ _
 unfold getattributeRaised
 repeat (any_goals (first | assumption | wp_step))
 exact h _ _ hx'.keeps
end
section
variable {prog:Program} {w:World} {K:Type} [DecidableEq K] {knd:KeyKind prog w K} {A:Around} {R:Result→Shared→Prop} {I:Addr} {fp wr:List Addr} {G:Array GenState→Array GenState→Prop} {n:Nat} {P:Nat→Value→Prop} {St:Nat→Shared→Prop}
theorem b0X (W:WalksS prog w A.in1 I fp wr G n P St) (D:Addr) (hDf:D∉fp) {h₀:Heap} (hwr:∀ b∈wr,h₀.get? b=none) (hD:h₀.get? D=none) (prs:List (K×Value)) (hn:prs.length=n)
  (hval:∀ i v,P i v→∃ t o x kv,v=.ref t∧h₀.get? t=some o∧o.cls=.type "tuple" ∧ (∃ m,o.data=.seq #[x,kv.2] m)∧knd.is kv.1 x=true∧prs[i]?=some kv) (hsz:n≤sizeLine) :
  ∀ (m i:Nat) (s:Shared),n - i=m→i≤n→St i s→(∀ b o,h₀.get? b=some o→s.heap.get? b=some o)→s.heap.DictOf knd D (merged [] (prs.take i)) →
   (∀ s',Moved (D::wr) G s s'→(∀ b o,h₀.get? b=some o→s'.heap.get? b=some o)→s'.heap.DictOf knd D (merged [] prs)→R (.ok (.ret .none)) s') →
   codeAny (model prog w) A (.builtin "dict.update.loop" ⟨[.ref D,.ref I,rawInt (i:Int),.none],[]⟩) R s:=by
 have nw:D∉wr:=fun z=>hDf (W.sub _ z)
 have up:∀ b∈wr,b∈D::wr:=fun b hb=>qE _ hb
 have keep:∀ {s s':Shared},Moved wr G s s'→(∀ b o,h₀.get? b=some o→s.heap.get? b=some o)→∀ b o,h₀.get? b=some o→s'.heap.get? b=some o:=fun mv k b o e=>mv.heap b o (fun z=>by rw [hwr b z] at e;cases e) (k b o e)
 intro m
 induction m with
 | zero=>
  intro i s hm hi st kp g hR
  obtain rfl:i=n:=by omega
  refine codeAny_builtin wE ?_
  rw [jO iN _]
  show wpAny _ A.in1 (pyNext (.ref I)>>=_) _ _ s
  refine wpAny_bind (W.done s _ _ st fun s' mv=>?_)
  show wpAny _ _ (Builtin.Dict.addKeywords D []>>=_) _ _ _
  refine wpAny_bind (wpAny_pure (wpAny_pure (hR s' (mv.mono up) (keep mv kp) ?_)))
  rw [←hn,wB] at g
  obtain ⟨o',es,ep,h1,h2⟩:=g
  exact ⟨o',es,ep,mv.heap D o' nw h1,h2⟩
 | succ m ih=>
  intro i s hm hi st kp g hR
  have lt:i<n:=by omega
  refine codeAny_builtin wE ?_
  rw [jO iN _]
  show wpAny _ A.in1 (pyNext (.ref I)>>=_) _ _ s
  refine wpAny_bind (W.item i s _ _ lt st fun v s' pv st' mv=>?_)
  obtain ⟨t,o,x,kv,rfl,ho,hc,⟨mm,hd⟩,hk,hp⟩:=hval i v pv
  have kp':=keep mv kp
  have g':s'.heap.DictOf knd D (merged [] (prs.take i)):=by
   obtain ⟨o',es,ep,h1,h2⟩:=g
   exact ⟨o',es,ep,mv.heap D o' nw h1,h2⟩
  have hT:s'.TypeIs (.ref t) "tuple" := ⟨o,kp' t o ho,hc⟩
  refine wpAny_bind (wpAny_holding (wpAny_bind (wpAny_tryCatch ?_)))
  unfold Builtin.Dict.pairItems
  refine wpAny_bind (wpAny_typeOf hT ?_)
  rw [if_pos (by decide)]
  refine wpAny_bind (wpAny_seqItems (kp' t o ho) hd (wpAny_pure ?_))
  show wpAny _ _ (holding [x,kv.2] (dictSet D x kv.2)) _ _ _
  have hlen:(merged [] (prs.take i)).length≤sizeLine:=by
   have:=merged_length_le ([]:List (K×Value)) (prs.take i)
   rw [ji] at this
   simp at this
   omega
  refine wpAny_holding (wpAny_dictSet_pairs hk g' (fun h' g2 sb=>?_) hlen)
  rw [←merged_take_succ _ _ _ _ hp] at g2
  refine wpAny_pure ⟨plainId_quiet iN _,ih (i+1) _ (by omega) lt (W.frame _ s' _ _ st' (kB _) fun c hc' o' e=>?_) (fun b o' e=>?_) g2 fun s'' mv'' kp'' g''=>?_⟩
  ·show h'.get? c=_
   rw [sb.2 c (fun z:c=D=>hDf (z▸hc'))]
   exact e
  ·show h'.get? b=_
   rw [sb.2 b (fun z:b=D=>by rw [z,hD] at e;cases e)]
   exact kp' b o' e
  ·refine hR s'' (Moved.trans W.gtrans ((mv.mono up).then_heap (kB _) fun c o' hc' e=>?_) mv'') kp'' g''
   show h'.get? c=_
   rw [sb.2 c (fun z:c=D=>hc' (by rw [z];exact qT))]
   exact e
end
section
variable {prog:Program} {w:World} {K:Type} [DecidableEq K] {knd:KeyKind prog w K} {A:Around} {E:Value→Shared→Prop} {s:Shared}
theorem dict_of {l:Addr} {items:Array Value} {n:Nat} {sl:Array (Option Value)} {prs:List (K×Value)} {Q:Value→Shared→Prop} (hh:A.handled=none) (hl:s.heap.get? l=some { cls:=.type "list", dict:=none,data:=.seq items n,slots:=sl })
  (hn:prs.length=items.size) (hval:∀ (i:Nat) (v:Value),items[i]?=some v→∃ (t:Addr) (o:Obj) (x:Value) (kv:K×Value),v=.ref t∧s.heap.get? t=some o∧o.cls=.type "tuple" ∧ (∃ m,o.data=.seq #[x,kv.2] m)∧knd.is kv.1 x=true∧prs[i]?=some kv) (hsz:prs.length≤sizeLine)
  (h:∀ (h':Heap) (tk:Nat),h'.DictOf knd s.heap.objs.size (merged [] prs)→(∀ b o,s.heap.get? b=some o→h'.get? b=some o)→Q (.ref s.heap.objs.size) { s with heap:=h',toks:=tk }) :
  wpAny (model prog w) A (call (.type "dict") [.ref l]) Q E s:=by
 refine callType_codes (Q₁:=fun obj s₁=>obj=.ref s.heap.objs.size∧s₁={ s with heap:=s.heap.push { cls:=.type "dict", data:=.dict #[] } }) F.kt_called_dict (F.kt_typeCall_dict_1 _) F.entry_dict_init (kt_code_dict_new _ ⟨rfl,rfl⟩) ?_
 rintro obj s₁ ⟨rfl,rfl⟩
 have hnew:(s.heap.push { cls:=.type "dict", data:=.dict #[] }).DictOf knd s.heap.objs.size []:=Heap.DictOf.new s.heap
 have hl1:(s.heap.push { cls:=.type "dict", data:=.dict #[] }).get? l=some { cls:=.type "list", dict:=none,data:=.seq items n,slots:=sl }:=qC _ hl
 have hT:vR { s with heap:=s.heap.push { cls:=.type "dict", data:=.dict #[] } } (.ref l) "list" := ⟨_,hl1,rfl⟩
 have lt:l<s.heap.objs.size:=qH hl
 refine ⟨hnew.typeIs,F.args_dict_init_2 _ _,?_⟩
 unfold Builtin.«dict.__init__»
 refine wpAny_bind ?_
 unfold Builtin.Dict.selfAndRest
 refine wpAny_bind (wpAny_notOrdered_dict hnew.typeIs ?_)
 show wpAny _ _ (pure (s.heap.objs.size,[qy l])) _ _ _
 refine wpAny_pure ?_
 show wpAny _ _ (Builtin.Dict.updateFrom "dict.__init__" s.heap.objs.size (.ref l) [] .none) _ _ _
 unfold Builtin.Dict.updateFrom
 refine wpAny_bind (wpAny_typeOf hT ?_)
 rw [if_pos (by decide)]
 refine wpAny_bind (a7S (A:=A.in1.in1) hl1 hh fun h1 tk1 k1=>?_)
 rw [if_pos (by rfl)]
 refine wpAny_bind (wpAny_rule ?_)
 have L1:h1.IsList l items:=⟨_,k1 _ _ hl1,rfl,n,rfl⟩
 refine wpAny_bind (wpAny_pyIter_list L1 ?_)
 have ltD:s.heap.objs.size<h1.objs.size:=qH (k1 _ _ (qI _ rfl))
 have nI:l≠h1.objs.size:=qW (vt lt ltD)
 have kp0:∀ b o,s.heap.get? b=some o→(h1.push { cls:=.type "list_iterator", data:=.fields #[.ref l,.int 0 0] }).get? b=some o:=fun b o e=>qC _ (k1 b o (qC _ e))
 refine wpAny_pure ⟨plainId_quiet iN _,?_⟩
 refine b0X (knd:=knd) (A:=A.in1) ((Walks.list (A:=A.in1.in1) hh h1.objs.size l nI items).toS) s.heap.objs.size ?_ (h₀:=s.heap) ?_ (zc (qN _)) prs hn hval (by omega) (items.size - 0) 0 _ (by omega) (jn _) ⟨⟨_,qI _ rfl,rfl,rfl⟩,L1.push _⟩ kp0 ?_ ?_
 ·intro z
  rcases qF.mp z with z | z
  ·exact absurd z (qW ltD)
  ·rw [qf] at z
   exact absurd z (jK lt)
 ·intro b hb
  rw [qf] at hb
  subst hb
  exact zc (qr ltD)
 ·obtain ⟨o',es,ep,h2,h3⟩:=hnew
  exact ⟨o',es,ep,qC _ (k1 _ _ h2),h3⟩
 ·intro s' mv kp g'
  obtain ⟨h',gs',dr',tk',os'⟩:=s'
  obtain rfl:gs'=s.gens:=mv.gens
  obtain rfl:dr'=s.drawn:=mv.drawn
  obtain rfl:os'=s.os:=mv.os
  exact ⟨rfl,h h' tk' g' kp⟩
end
end L2.SX
namespace L2.L3
open PySem PySem.Spec PyProof.Rows
def a2C:PyData→Option Key
 | .int i=>some (.inl i)
 | .str x=>some (.inr x)
 | _=>none
theorem a1y (k:Key):a2C (dB k)=some k:=by cases k<;>rfl
theorem oI {d:PyData} {k:Key} (h:a2C d=some k):d=dB k:=by
 unfold a2C at h;split at h
 ·cases h;rfl
 ·cases h;rfl
 ·cases h
def nD:PyData→Option (Key×PyData)
 | .tuple [k,v]=>(a2C k).map (·,v)
 | _=>none
theorem a9E {d:PyData} {p:Key×PyData} (h:nD d=some p):d=.tuple [dB p.1,p.2]:=by
 unfold nD at h;split at h
 ·obtain ⟨k,hk,rfl⟩:=qK.mp h
  rw [oI hk]
 ·cases h
def pG (kvs:List (Key×PyData)):PyData:=.dict (kvs.map fun p=>(dB p.1,p.2))
def yV (ds:List PyData):Option PyData:=match ds with
 | [.list xs]=>match dH nD xs with
  | some kvs=>if decide (kvs.map (·.1)).Nodup&&decide (kvs.length≤1000) then some (pG kvs) else none
  | none=>none
 | _=>none
def gC (k:Key):List (PyData×PyData)→Option PyData
 | []=>none
 | p::r=>if a2C p.1=some k then some p.2 else gC k r
def yI (x k:PyData):Option PyData:=match x,a2C k with
 | .dict D,some k=>gC k D
 | _,_=>none
def oP (k:Key):List (Key×V)→Option V
 | []=>none
 | p::r=>if p.1=k then some p.2 else oP k r
section
variable {K:qB} {G:Hp}
theorem tR {k:Key} {d:PyData}:∀ {kvs:List (Key×V)} {D:List (PyData×PyData)},D.map (·.1)=kvs.map (fun p=>dB p.1)→RepAll K G (kvs.map (·.2)) (D.map (·.2))→gC k D=some d→∃ v,oP k kvs=some v∧Rep K G v d
 | [],[],_,_,h=>by cases h
 | [],_::_,e,_,_=>by simp at e
 | _::_,[],e,_,_=>by simp at e
 | q::kvs,p::D,e,.cons r t,h=>by
  rw [qG,qG,zW] at e
  unfold gC at h
  unfold oP
  rw [e.1,a1y] at h
  by_cases c:q.1=k
  ·rw [if_pos (by rw [c])] at h
   rw [if_pos c]
   cases (qA h)
   exact ⟨_,rfl,r⟩
  ·rw [if_neg (fun z=>c (qA z))] at h
   rw [if_neg c]
   exact tR e.2 t h
theorem a1i {k:Key} {v:V}:∀ {kvs:List (Key×V)} {vs:List (Key×Value)},KV kvs vs→oP k kvs=some v→∃ u,valueAt vs k=some u∧RelV v u
 | _,_,.nil,h=>by cases h
 | q::kvs,p::vs,.cons r t,h=>by
  unfold oP at h
  have e:valueAt (p::vs) k=if p.1=k then some p.2 else valueAt vs k:=by
   unfold valueAt
   rw [kK]
   by_cases c:p.1=k
   ·rw [if_pos c];simp [c]
   ·rw [if_neg c];simp [c]
  rw [e]
  by_cases c:q.1=k
  ·rw [if_pos c] at h
   rw [if_pos (r.1▸c)]
   cases (qA h)
   exact ⟨_,rfl,r.2⟩
  ·rw [if_neg c] at h
   rw [if_neg (fun z=>c (r.1.trans z))]
   exact a1i t h
theorem oE {k:Key} {v:V} (r:Rep K G v (dB k)):v=kV k:=by
 cases k<;>(cases r;rfl)
end
section
variable {X:Cx} {e a b:Expr} {fa fb:EF} {pos p:Pos}
theorem a6w {pins:List (Addr×Obj)} {σ:St} {H:Hp} {s:Shared} (I:Inv X pins σ H s):sysModules<s.heap.objs.size:=by
 have h:mainGlobals<s.heap.objs.size:=(I.mod.glob.keeps I.bk).lt
 exact vt (by decide) h
theorem a6s {P:Program} {w:World} {k:Key} {u:Value} (r:RelV (kV k) u):(bF P w).is k u=true:=by
 cases k with
 | inl i=>obtain ⟨t,rfl⟩:=r;exact uU P w i t
 | inr x=>obtain ⟨t,rfl⟩:=r;exact uT P w x t
def b8g:R2:=fun x y H Q=>∃ p kvs k v,x=.ref p∧y=kV k∧H p=some (.dK kvs)∧oP k kvs=some v∧Q v H
theorem b2I:IxR X b8g:=by
 intro value slice pins s σ H x y v u Q I rx ry h hs
 obtain ⟨p,kvs,k,z,rfl,rfl,hq,he,q⟩:=h
 cases rx
 obtain ⟨hz,hS,vs,kv,dd⟩:=(show bY X.prog X.w H s.heap p (.dK kvs) from I.hok p _ hq)
 obtain ⟨w,ew,rw'⟩:=a1i kv he
 exact subscriptTail_builtinR (x:=w) dd.typeIs slot_dict_getitem.lookup
  (wpAny_getItem_of (Q:=fun r s'=>r=w∧EP X pins σ Q r s') (a6s ry) dd.mapOf ew ⟨rfl,z,H,I.tok _,rw',q⟩) hs
theorem a2A (ha:DE X a fa) (hb:DE X b fb) (hs:a2Q b:=by exact fun _ _=>rfl):DE X (.Subscript a b pos) (op2 yI fa fb):=
 ⟨fun pins s σ H Q I ⟨ρ,r,H0,G₀,G,e,R,q⟩=>b3O b2I ha.run hb.run hs pins s σ H Q I (bE R e q.x fun x v G1 H1 g1 R1 rv e1=>bE R1 e1 (q.more g1).x fun y u G2 H2 g2 R2 ru e2=>by
  obtain ⟨d,ed,rfl⟩:=aY e2
  unfold yI at ed
  split at ed
  ·rename_i D k hk
   rw [oI hk] at ru
   cases oE ru
   cases (rv.mono g2.gg) with
   | dict h e0 rr=>
    obtain ⟨w,ew,rw'⟩:=tR e0 rr ed
    exact ⟨_,_,k,w,rfl,rfl,g2.sub _ _ h,ew,q w _ _ (g1.trans g2) rw'⟩
  ·cases ed)⟩
theorem a4F {pins:List (Addr×Obj)} {σ:St} {H:Hp} {s:Shared} (I:Inv X pins σ H s):∀ {ts:List V} {kvs:List (Key×V)} {its:List Value},Paired (fun t (kv:Key×V)=>∃ a,t=V.ref a∧SqT X.K H a [kV kv.1,kv.2]) ts kvs→aX ts its →
  ∃ prs:List (Key×Value),KV kvs prs∧∀ (i:Nat) (v:Value),its[i]?=some v→∃ (t:Addr) (o:Obj) (x:Value) (kv:Key×Value),v=.ref t∧s.heap.get? t=some o∧o.cls=.type "tuple" ∧ (∃ m,o.data=.seq #[x,kv.2] m)∧(bF X.prog X.w).is kv.1 x=true∧prs[i]?=some kv
 | _,_,_,.nil,.nil=>⟨[],.nil,fun i v e=>by simp at e⟩
 | _,_,_,.cons ⟨a,e,hq⟩ t,.cons r rs=>by
  obtain ⟨prs,h1,h2⟩:=a4F I t rs
  subst e
  cases r
  obtain ⟨its,rv,⟨o,ho,hc,n,hd⟩,hz⟩:=I.tuple hq
  obtain ⟨u,w,rfl,r1,r2⟩:=vals2 rv
  rename_i kv _ _ _
  refine ⟨(kv.1,w)::prs,.cons ⟨rfl,r2⟩ h1,fun i v e=>?_⟩
  cases i with
  | zero=>
   simp at e
   exact ⟨a,o,u,(kv.1,w),e.symm,ho,hc,⟨n,hd⟩,a6s r1,rfl⟩
  | succ i=>exact h2 i v (by simpa using e)
theorem b0e {kvs:List (Key×V)} {vs:List (Key×Value)} (h:KV kvs vs):kvs.length=vs.length:=by
 have:=congrArg zV (rV h).1
 simpa using this
theorem pE {α β:Type} {F:α→β→Prop}:∀ {l:List α} {m:List β},Paired F l m→l.length=m.length
 | _,_,.nil=>rfl
 | _,_,.cons _ t=>by simp [pE t]
theorem a1B (hc:X.calm=true):dU X (.type "dict") (fun xs H Q=>∃ (p:Addr) (ts:List V) (kvs:List (Key×V)),xs=[.ref p]∧SqL X.K H p ts∧Paired (fun t (kv:Key×V)=>∃ a,t=V.ref a∧SqT X.K H a [kV kv.1,kv.2]) ts kvs∧(kvs.map (·.1)).Nodup∧kvs.length≤1000 ∧
  ∀ l,H l=none→Q (.ref l) (upd H l (.dK kvs))):=by
 intro pins s σ H xs us Q I r ⟨p,ts,kvs,e,hq,hp,nd,hz,q⟩
 subst e
 obtain ⟨u,rfl,rx⟩:=vals1 r
 cases rx
 obtain ⟨its,rv,⟨o,n,ho,hcl,hdc,hda⟩,_⟩:=I.list hq
 obtain ⟨prs,kv,hv⟩:=a4F I hp rv
 obtain ⟨oc,od,odt,osl⟩:=o
 dsimp only at hcl hdc hda
 subst hcl hdc hda
 have hd:=I.ok.hd hc
 have l1:=b0e kv
 have l2:=pE hp
 have l3:=rv.length
 have hline:kvs.length≤sizeLine:=qr (eB (by omega))
 refine SX.dict_of (knd:=bF X.prog X.w) (prs:=prs) hd ho (by rw [qL];omega) (fun i v e=>hv i v (by simpa using e)) (by omega) fun h' tk dd kp=>?_
 have nd':(prs.map (·.1)).Nodup:=by rw [←(rV kv).1];exact nd
 rw [merged_nil_of_nodup prs nd'] at dd
 have big:=a6w I
 have ne:(s.heap.objs.size==sysModules)=false:=beq_eq_false_iff_ne.mpr (jK big)
 exact ⟨.ref s.heap.objs.size,_,I.laid (t':=tk) (a:=s.heap.objs.size) (o:=.dK kvs) kp (qN _) ⟨hline,ne,prs,kv,dd⟩,rfl,q _ I.fresh⟩
theorem oF {K:qB} {G:Hp}:∀ {ts:List V} {xs:List PyData} {ks:List (Key×PyData)},RepAll K G ts xs→dH nD xs=some ks→∃ kvs:List (Key×V),Paired (fun t (kv:Key×V)=>∃ a,t=V.ref a∧SqT K G a [kV kv.1,kv.2]) ts kvs∧kvs.map (·.1)=ks.map (·.1)∧RepAll K G (kvs.map (·.2)) (ks.map (·.2))
 | _,_,_,.nil,h=>by cases (qA h);exact ⟨[],.nil,rfl,.nil⟩
 | _,d::ds,ks,.cons r t,h=>by
  unfold dH at h
  split at h
  ·cases h
  ·rename_i q hq
   obtain ⟨ks',h1,rfl⟩:=qK.mp h
   obtain ⟨kvs,p1,p2,p3⟩:=oF t h1
   rw [a9E hq] at r
   cases r with
   | tuple hs rr=>
    cases rr with | cons ra rr=>
    cases rr with | cons rb rr=>
    cases rr
    cases oE ra
    exact ⟨(q.1,_)::kvs,.cons ⟨_,rfl,hs⟩ p1,by rw [qG,qG,p2],.cons rb p3⟩
theorem a6P (hc:X.calm=true) (ds:List PyData) (d:PyData) (h:yV ds=some d):CallD X (.type "dict") ds d:=by
 unfold yV at h
 split at h
 ·split at h
  ·rename_i xs ks e
   split at h
   ·rename_i hh
    rw [qJ,decide_eq_true_eq,decide_eq_true_eq] at hh
    cases (qA h)
    exact ⟨_,a1B hc,fun vs G H Q s r q=>by
     cases r with | cons r rr=>cases rr;cases r with | list hq r=>
      obtain ⟨kvs,p1,p2,p3⟩:=oF r e
      have hl:kvs.length=ks.length:=by have:=congrArg zV p2;simpa using this
      refine ⟨_,_,kvs,rfl,s.seq hq,Paired.mapP p1 (fun a b ⟨t,e1,e2⟩=>⟨t,e1,gM s e2⟩),by rw [p2];exact hh.1,by omega,fun l hl=>?_⟩
      refine q _ _ _ (.put s hl) (.dict aL ?_ ?_)
      ·rw [qV]
       have:ks.map ((fun x=>x.1)∘fun p:Key×PyData=>(dB p.1,p.2))=(ks.map (·.1)).map dB:=by rw [qV];rfl
       rw [this,←p2,qV];rfl
      ·rw [qV]
       exact p3.mono (bJ (s.free hl))⟩
   ·cases h
  ·cases h
 ·cases h
theorem boot_dict:bootBuiltins "dict" = some (.type "dict"):=by kernel_rfl
end
theorem RepAll.plain {K:qB} {G G':Hp}:∀ {vs:List V} {ds:List PyData},ds.all xO=true→RepAll K G vs ds→RepAll K G' vs ds
 | _,_,_,.nil=>.nil
 | _,_,h,.cons r t=>by
  rw [zz,qJ] at h
  exact .cons (r.plain h.1) (RepAll.plain h.2 t)
section
variable {X:Cx} {elt iter tg:Expr} {ifs:List Expr} {scope:Scope} {pos spos p:Pos} {N':List Str} {cap:List (Option Nat)} {t:Tg} {fi:AF} {ft:TF} {fe:EF}
end
abbrev kL (m:Mt):PyData:=.tuple [.int m.2.1,.int (-m.2.2),.str m.1]
def b8m (s:List Mt):List Mt:=b8c kL s
abbrev Ly:=Mt×Nat
def taken (P:List Ly) (m:Mt):List Int:=(P.filter fun p=>decide (ov m p.1)).map fun p=>(p.2:Int)
theorem b1b {xs:List PyData} {kvs:List (Key×PyData)} (h:dH nD xs=some kvs) (nd:(kvs.map (·.1)).Nodup) (hz:kvs.length≤1000):yV [.list xs]=some (pG kvs):=by
 unfold yV
 dsimp only
 rw [h]
 dsimp only
 rw [if_pos (by rw [qJ,decide_eq_true_eq,decide_eq_true_eq];exact ⟨nd,hz⟩)]
def b3Y:List Ly→Str→Nat
 | [],_=>0
 | p::P,x=>if p.1.1=x then p.2 else b3Y P x
theorem tN {α:Type} [DecidableEq α]:∀ {l m:List α},l.Nodup→(∀ x∈l,x∈m)→l.length≤m.length
 | [],m,_,_=>jn _
 | a::r,m,nd,h=>by
  rw [jV] at nd
  have ha:=h a (by simp)
  have:=tN (l:=r) (m:=m.erase a) nd.2 fun x hx=>(List.mem_erase_of_ne (fun z:x=a=>nd.1 (by rw [←z];exact hx))).mpr (h x (qE _ hx))
  rw [List.length_erase_of_mem ha] at this
  have hp:0<m.length:=List.length_pos_of_mem ha
  rw [qi];omega
section
variable {L:List Mt} {P:List Ly}
end
def b5g (L:List Mt):Int:=if L=[] then 0 else b5j (L.map fun x=>aS L x.2.1)
end L2.L3
namespace L2.L3
open PySem
def b0C:List Mt→List Mt→Int→List (List Mt)
 | [],cur,_=>[cur]
 | m::l,cur,reach=>if m.2.1<reach then b0C l (cur++[m]) (max reach m.2.2) else cur::b0C l [m] m.2.2
def b7m:List Mt→List (List Mt)
 | []=>[]
 | m::l=>b0C l [m] m.2.2
end L2.L3
namespace L2.L3
open PySem PySem.Spec PyProof.Rows
section
variable {K:qB} {H0 G₀ G H:Hp} {σ:St} {ρ:List Ent}
end
end L2.L3
namespace L2.L3
open PySem PySem.Spec PyProof.Rows
section
variable {X:Cx} {rest:List Stmt} {f:SF} {fa:EF} {e:Expr} {es:List Expr} {pos:Pos}
end
end L2.L3
namespace L2.L3
open PySem PySem.Spec PyProof.Rows
section
variable {X:Cx}
end
end L2.L3
namespace L2.L3
open PySem PySem.Spec PyProof.Rows
theorem a6y (x:Str) (ns:List Str):inX (.str x) (.list (ns.map .str))=some (decide (x∈ns)):=by
 show (Option.map _ (dH a7k (ns.map .str)))=_
 rw [nX (g:=.str) (fun _=>rfl) ns];rfl
theorem eQ:∀ {s:List Mt},(s.map (·.1)).Nodup→∀ {a b:Mt},a∈s→b∈s→a.1=b.1→a=b
 | [],_,_,_,h,_,_=>by cases h
 | x::s,nd,a,b,ha,hb,e=>by
  rw [qG,jV] at nd
  rcases qF.mp ha with ea | ha'
  ·rcases qF.mp hb with eb | hb'
   ·rw [ea,eb]
   ·exact absurd (qU.mpr ⟨b,hb',by rw [←e,ea]⟩) nd.1
  ·rcases qF.mp hb with eb | hb'
   ·exact absurd (qU.mpr ⟨a,ha',by rw [e,eb]⟩) nd.1
   ·exact eQ nd.2 ha' hb' e
end L2.L3
namespace L2.L3
open PySem PySem.Spec PyProof.Rows
structure NR (s:List Mt):Prop where
 nd:(s.map (·.1)).Nodup
 pw:(s.map (·.1)).Pairwise (fun a b=>bR a b=true)
theorem NR.nodup {s:List Mt} (h:NR s):s.Nodup:=by
 have:=h.nd
 rw [List.Nodup,jl] at this
 exact this.imp fun {a b} n z=>n (by rw [z])
theorem NR.filter {s:List Mt} (h:NR s) (p:Mt→Bool):NR (s.filter p):=⟨(vX.map _).nodup h.nd,h.pw.sublist (vX.map _)⟩
theorem oD {a b:List Mt} (ha:NR a) (hb:NR b) (h:∀ m,m∈a↔m∈b):a=b:=by
 have pm:a.Perm b:=(zX ha.nodup hb.nodup).mpr h
 have en:a.map (·.1)=b.map (·.1):=fQ (pm.map _) ha.pw hb.pw
 refine wC pm.length_eq fun i h1 h2=>?_
 have e:(a[i]).1=(b[i]).1:=by
  have:=congrArg (fun l=>l[i]?) en
  simp only [qP,qM h1,qM h2,Option.map_some] at this
  exact qA this
 exact eQ hb.nd ((h _).mp (jM h1)) (jM h2) e
theorem a4M {a b:List Str} (na:a.Nodup) (nb:b.Nodup) (pa:a.Pairwise (fun x y=>bR x y=true)) (pb:b.Pairwise (fun x y=>bR x y=true)) (h:∀ x,x∈a↔x∈b):a=b:=
 fQ ((zX na nb).mpr h) pa pb
def cD (s o:List Mt):List Str:=(s.map (·.1)).filter fun x=>!decide (x∈o.map (·.1))
def aF (s o:List Mt):List Str:=(s.filter fun r=>!decide (r∈o)&&decide (r.1∈o.map (·.1))).map (·.1)
theorem mI {s o:List Mt} {x:Str}:x∈aF s o↔∃ r∈s,r.1=x∧r∉o∧x∈o.map (·.1):=by
 unfold aF
 rw [qU]
 constructor
 ·rintro ⟨r,hr,rfl⟩
  obtain ⟨h1,h2⟩:=qv.mp hr
  simp only [qJ,jz,decide_eq_false_iff_not,decide_eq_true_eq] at h2
  exact ⟨r,h1,rfl,h2.1,h2.2⟩
 ·rintro ⟨r,h1,rfl,h2,h3⟩
  refine ⟨r,qv.mpr ⟨h1,?_⟩,rfl⟩
  simp only [qJ,jz,decide_eq_false_iff_not,decide_eq_true_eq]
  exact ⟨h2,h3⟩
theorem uO {s o:List Mt} (hs:NR s) (ho:NR o):aF o s=aF s o:=by
 have go:∀ {s o:List Mt},NR s→NR o→∀ x,x∈aF s o→x∈aF o s:=fun {s o} hs ho x h=>by
  obtain ⟨r,h1,h2,h3,h4⟩:=mI.mp h
  obtain ⟨q,hq,e⟩:=qU.mp h4
  refine mI.mpr ⟨q,hq,e,fun z=>h3 ?_,qU.mpr ⟨r,h1,h2⟩⟩
  rw [eQ hs.nd h1 z (h2.trans e.symm)];exact hq
 exact a4M (ho.filter _).nd (hs.filter _).nd (ho.filter _).pw (hs.filter _).pw fun x=>⟨go ho hs x,go hs ho x⟩
theorem a8x {s o:List Mt} (hs:NR s) (ho:NR o):(o.filter fun r=>decide (r∈s))=s.filter fun r=>decide (r∈o):=
 oD (ho.filter _) (hs.filter _) fun m=>by
  rw [qv,qv]
  simp only [decide_eq_true_eq]
  exact And.comm
def aZ (s o:List Mt):List Mt:=s++o.filter fun r=>!decide (r∈s)
theorem rP {s o:List Mt} {m:Mt}:m∈aZ s o↔m∈s∨m∈o:=by
 unfold aZ
 rw [jE,qv]
 constructor
 ·rintro (h | h)
  ·exact .inl h
  ·exact .inr h.1
 ·rintro (h | h)
  ·exact .inl h
  ·by_cases z:m∈s
   ·exact .inl z
   ·exact .inr ⟨h,by simpa using z⟩
theorem a6q {s o:List Mt} (ho:NR o) (h:aF s o=[]) {q:Mt} (hq:q∈o) (hn:q.1∈s.map (·.1)):q∈s:=by
 obtain ⟨r,hr,e⟩:=qU.mp hn
 by_cases z:r∈o
 ·rw [←eQ ho.nd z hq e];exact hr
 ·have:r.1∈aF s o:=mI.mpr ⟨r,hr,rfl,z,e▸jP (f:=(·.1)) hq⟩
  rw [h] at this;cases this
theorem sW {s o:List Mt} (hs:NR s) (ho:NR o) (h:aF s o=[]):((aZ s o).map (·.1)).Nodup:=by
 unfold aZ
 rw [qj,kt]
 refine ⟨hs.nd,(ho.filter _).nd,fun a ha b hb e=>?_⟩
 subst e
 obtain ⟨q,hq,rfl⟩:=qU.mp hb
 obtain ⟨h1,h2⟩:=qv.mp hq
 simp only [jz,decide_eq_false_iff_not] at h2
 exact h2 (a6q ho h h1 ha)
def rowAt (u:List Mt) (x:Str):Mt:=(u.find? fun r=>decide (r.1=x)).getD ("", 0,0)
def cZ (u:List Mt):List Mt:=(eG (u.map (·.1))).map (rowAt u)
theorem pC {u:List Mt} (nd:(u.map (·.1)).Nodup) {m:Mt} (hm:m∈u):rowAt u m.1=m:=by
 unfold rowAt
 cases h:u.find? fun r=>decide (r.1=m.1) with
 | none=>
  have:=List.find?_eq_none.mp h m hm
  simp at this
 | some r=>
  have h1:=List.find?_some h
  simp only [decide_eq_true_eq] at h1
  exact eQ nd (List.mem_of_find?_eq_some h) hm h1
theorem a0X {u:List Mt} (nd:(u.map (·.1)).Nodup):(cZ u).map (·.1)=eG (u.map (·.1)):=by
 unfold cZ
 rw [qV]
 refine (jQ fun x hx=>?_).trans (List.map_id' _)
 obtain ⟨m,hm,rfl⟩:=qU.mp ((bP _).mem_iff.mp hx)
 show (rowAt u m.1).1=m.1
 rw [pC nd hm]
theorem nE {u:List Mt} (nd:(u.map (·.1)).Nodup):NR (cZ u):=⟨by rw [a0X nd];exact (bP _).nodup_iff.mpr nd,by rw [a0X nd];exact gK _⟩
theorem iQ {u:List Mt} (nd:(u.map (·.1)).Nodup) (m:Mt):m∈cZ u↔m∈u:=by
 unfold cZ
 rw [qU]
 constructor
 ·rintro ⟨x,hx,rfl⟩
  obtain ⟨k,hk,rfl⟩:=qU.mp ((bP _).mem_iff.mp hx)
  rw [pC nd hk];exact hk
 ·intro h
  exact ⟨m.1,(bP _).mem_iff.mpr (jP (f:=(·.1)) h),pC nd h⟩
theorem rM {u:List Mt} (nd:(u.map (·.1)).Nodup):(cZ u).Perm u:=(zX (nE nd).nodup (by
 rw [List.Nodup,jl] at nd
 exact nd.imp fun {a b} n z=>n (by rw [z]))).mpr (iQ nd)
theorem a9F {s:List Mt} (h:NR s):cZ s=s:=oD (nE h.nd) h (iQ h.nd)
theorem b2m {s o:List Mt} (hs:NR s) (ho:NR o) (h:aF s o=[]):cZ (aZ o s)=cZ (aZ s o):=by
 have h':aF o s=[]:=by rw [uO hs ho];exact h
 have n1:=sW hs ho h
 have n2:=sW ho hs h'
 exact oD (nE n2) (nE n1) fun m=>by rw [iQ n2,iQ n1,rP,rP,Or.comm]
theorem a4J {s o:List Mt} (hs:NR s) (ho:NR o) (h:aF s o=[]):((cZ (aZ s o)).filter fun r=>decide (r∈s))=s:=by
 have n1:=sW hs ho h
 refine oD ((nE n1).filter _) hs fun m=>?_
 rw [qv,iQ n1,rP]
 simp only [decide_eq_true_eq]
 exact ⟨fun z=>z.2,fun z=>⟨.inl z,z⟩⟩
theorem uN (s:List Mt):aF s s=[]:=by
 cases h:aF s s with
 | nil=>rfl
 | cons x r=>
  obtain ⟨m,h1,_,h3,_⟩:=mI.mp (show x∈aF s s by rw [h];simp)
  exact absurd h1 h3
theorem a5H (s:List Mt):cD s s=[]:=by
 unfold cD
 rw [vE]
 intro x hx
 simpa using hx
theorem a2Y (s:List Mt):aZ s s=s:=by
 unfold aZ
 rw [vE.mpr (fun r hr=>by simpa using hr),kM]
theorem a9g {u:List Mt} (nd:(u.map (·.1)).Nodup):pA (u.map dM)=(cZ u).map dM:=by
 symm
 refine a5S (g:=[false,true,true]) ((rM nd).map _) (fun d hd=>by obtain ⟨m,_,rfl⟩:=qU.mp hd;rfl) ?_
 unfold a0E
 rw [jl]
 have h:=nE nd
 have p1:=h.pw
 have p2:=h.nd
 rw [jl] at p1
 rw [List.Nodup,jl] at p2
 refine (p1.and p2).imp fun {a b} z=>?_
 show (if eqC (.str b.1) (.str a.1) then ltR [.int b.2.1,.int b.2.2] [.int a.2.1,.int a.2.2] else ltC (.str b.1) (.str a.1))=false
 have ne:eqC (.str b.1) (.str a.1)=false:=by
  show (b.1==a.1)=false
  simp
  exact fun w=>z.2 w.symm
 rw [ne]
 show (!bR a.1 b.1)=false
 rw [z.1];rfl
end L2.L3
namespace L2.ZT
open PySem PyProof.Rows
section
variable {prog:Program} {w:World} {A:Around} {E:Value→Shared→Prop} {s:Shared}
variable {z TI TO c d t u:Addr} {i j:Nat} {xs ys:Array Value} {a b:Value}
end
section
variable {prog:Program} {w:World} {A:Around} {E:Value→Shared→Prop} {s:Shared}
end
end L2.ZT
namespace L2.L3
open PySem PySem.Spec PyProof.Rows
def Itl (K:qB) (l1 l2:Addr):It:=
 ⟨fun i H=>∃ xs ys x y,SqT K H l1 xs∧SqL K H l2 ys∧xs[i]?=some x∧ys[i]?=some y,
 fun i H v H'=>∃ T x y,H T=none∧v=.ref T∧H'=upd H T (.tup [x,y])∧(∀ xs,SqT K H l1 xs→xs[i]?=some x)∧∀ ys,SqL K H l2 ys→ys[i]?=some y,
 fun i H=>∃ xs ys,SqT K H l1 xs∧SqL K H l2 ys∧(xs.length≤i∨ys.length≤i)⟩
section
variable {X:Cx} {a b:Expr} {elts:List Expr} {k0:Nat} {p0 pos p:Pos} {fa fb:EF}
end
theorem mG {g:PyData→PyData→Option PyData} {fa fb:EF} {ρ:List Ent} {x y d:PyData} (ha:fa ρ=some (.ok x)) (hb:fb ρ=some (.ok y)) (h:g x y=some d):op2 g fa fb ρ=some (.ok d):=by
 rw [a6h,ha,bV,hb,bV,h];rfl
theorem fI {g:PyData→PyData→Option Bool} {fa fb:EF} {ρ:List Ent} {x y:PyData} {r:Bool} (ha:fa ρ=some (.ok x)) (hb:fb ρ=some (.ok y)) (h:g x y=some r):cH g fa fb ρ=some (.ok r):=by
 rw [b1j,ha,bV,hb,bV,h];rfl
theorem bD {fa:EF} {aa:AF} {ρ:List Ent} {x:PyData} {xs:List PyData} (ha:fa ρ=some (.ok x)) (hb:aa ρ=some (.ok xs)):aC fa aa ρ=some (.ok (x::xs)):=by
 rw [gA,ha,bV,hb,bV]
def prt (s:List Mt) (m:Mt):List Mt:=s.filter fun o=>!decide (o.1=m.1)&&decide (ov m o)
def gof (s:List Mt) (m:Mt):List Mt:=((b7m (b8m s)).find? fun A=>decide (m∈A)).getD []
def grp (s:List Mt) (m:Mt):List Mt:=s.filter fun a=>decide (a∈gof s m)
def wid (s:List Mt) (m:Mt):Int:=b5g (grp s m)
section
variable {s:List Mt}
variable (hp:∀ m∈s,m.2.1<m.2.2)
include hp
omit hp
abbrev cl (P:List Ly) (m:Mt):Int:=(b3Y P m.1:Nat)
variable {P:List Ly}
def lst (s:List Mt) (P:List Ly) (m:Mt):Int:=b5i ((wid s m::(prt s m).map (cl P)).filter fun c=>decide (cl P m<c))
end
end L2.L3
namespace L2.L3
open PySem
def dn (m:Mt):Nat:=((m.2.2 - 1) / 48+1 - m.2.1 / 48).toNat
variable {m:Mt}
theorem a3h {m:Mt} (h:qh m.1=true):qQ (dM m)=true:=xA (n:=1) (fun d hd=>by
 have:d=.str m.1∨d=.int m.2.1∨d=.int m.2.2:=by simpa using hd
 rcases this with rfl | rfl | rfl<;>simp [kA,h]) (fun d hd=>by
 have:d=.str m.1∨d=.int m.2.1∨d=.int m.2.2:=by simpa using hd
 rcases this with rfl | rfl | rfl<;>simp [jb]) (by decide)
theorem a5V {s:List Mt} (h:∀ m∈s,qh m.1=true):qQ (dS s)=true:=xA (n:=2) (fun d hd=>by
 obtain ⟨m,hm,rfl⟩:=qU.mp hd
 exact jc (a3h (h m hm))) (fun d hd=>by
 obtain ⟨m,hm,rfl⟩:=qU.mp hd
 rw [jb]
 have:zp [jg m.1,.int m.2.1,.int m.2.2]≤1:=iS fun d hd=>by
  have:d=.str m.1∨d=.int m.2.1∨d=.int m.2.2:=by simpa using hd
  rcases this with rfl | rfl | rfl<;>simp [jb]
 omega) (by decide)
theorem a3v {a b:List Mt} (h1:∀ m∈a,qh m.1=true) (h2:∀ m∈b,qh m.1=true):neD (dS a) (dS b)=some (!decide (a=b)):=by
 rw [tO (a5V h1) (a5V h2),uE]
end L2.L3
namespace L2.L3
open PySem PySem.Spec PyProof.Rows PySem.W PySem.Builtin PySem.Builtin.ObjectAttr PySem.Builtin.Getset_descriptor
abbrev b6d:List Value:=[.type "ValueError", .type "Exception", .type "BaseException", .type "object"]
structure XCls (K:Frag) (C:Addr):Prop where
 ex:excIn K C b6d "ValueError.__new__" = true
 ga:findIn K (.ref C) "__getattribute__" = some (some (.builtin "BaseException.__getattribute__"))
 nga:findIn K (.ref C) "__getattr__" = some none
 cl:findIn K (.ref C) "__class__" = some (some (.builtin "object.__class__"))
 ob:mroIn K C (.type "object")=some true
theorem XCls.obj {K:Frag} {C:Addr} {h:Heap} (x:XCls K C) (X:K.In h):∃ bm N nm q bs hdct sn sub ab col dd k0 k1 k2 k3 k5 mN,h.get? C=some (excClassObj nm q C N bs bm hdct sn sub ab col dd k0 k1 k2 k3 k5 "ValueError.__new__")∧h.Ns N mN∧mN "__init__" = none∧OwnTail h b6d bm:=by
 have q:=x.ex
 unfold excIn at q
 split at q
 ·rename_i dd cd sl ho
  split at q
  ·rename_i C' bm k0 k1 k2 k3 n k5 hm hs
   simp only [qJ,beq_iff_eq,jz] at q
   obtain ⟨⟨⟨⟨⟨rfl,rfl⟩,hdel⟩,ht⟩,hok⟩,hni⟩:=q
   obtain ⟨nm,bs,mro,ns,qn,hd,sn,sub,ab,col,del⟩:=cd
   dsimp only at hm hdel hok hni
   subst hm hdel
   have hsl:sl=#[k0,k1,k2,k3,some (.builtin "ValueError.__new__"),k5]:=by
    obtain ⟨l⟩:=sl
    simp only at hs
    rw [hs]
   subst hsl
   exact ⟨bm,ns,nm,qn,bs,hd,sn,sub,ab,col,dd,k0,k1,k2,k3,k5,_,X _ _ ho,.of_isNs (isNs_of_in X hok),nsMap_none_of_in X hok hni,tail_of_in X ht⟩
  ·cases q
 ·cases q
section
variable {prog:Program} {w:World} {A:Around} {E:Value→Shared→Prop} {s:Shared} {K:Frag} {C D a:Addr} {ox:Obj}
theorem b4e {R:Result→Shared→Prop} {tp:Value} (x:XCls K C) (X:K.In s.heap) (I:ExO s.heap a C ox) (h:R (.ok (.ret (.ref C))) s) :
  codeAny (model prog w) A (.call (.builtin "getset_descriptor.__get__") ⟨[.builtin "object.__class__", .ref a,tp],[]⟩) R s:=by
 obtain ⟨hh,g,dr,t,os⟩:=s
 have L0:=I.type (M:=model prog w)
 have L1:=looks_mroIn (M:=model prog w) X x.ob
 refine codeAny_call_builtin KF.slot_gs.plain KF.entry_gs (KF.slot_gs.check _ _ _ _ _ _ _ _ KF.type_class (KF.args_gs _ _ _) ?_)
 unfold Builtin.«getset_descriptor.__get__» descrGet
 rw [dga_obj]
 refine wpAny_bind (wpAny_pure ?_)
 unfold descrGetter descrCheckInstance descrNameAndClass isInstance
 simp only [KF.owner_class]
 repeat lk
 refine ⟨Code.quiet_builtin _ (by decide +kernel),codeAny_builtin KF.entry_class ?_⟩
 unfold Builtin.«object.__class__» shownTypeOf
 repeat lk
 exact h
theorem a8K {tk:Tok} {Q:Fin→Shared→Prop} (x:XCls K C) (X:K.In s.heap) (I:ExO s.heap a C ox) (hq:Q (.done (.ret (.ref C))) s) :
  wpAny (model prog w) A (Builtin.«object.__getattribute__» ⟨[.ref a,.str "__class__" tk],[]⟩) Q E s:=by
 obtain ⟨hh,g,d,t,os⟩:=s
 have L0:=I.type (M:=model prog w)
 have L3:=looks_findIn (M:=model prog w) X x.cl
 have hT5:(⟨hh,g,d,t,os⟩:Shared).TypeIs (.builtin "object.__class__") "getset_descriptor" := PySem.F.typeOf_object_class
 have f5:=PySem.F.typeOf_object_class
 have f6:=PySem.F.slot_gs_get.lookup
 have f7:=PySem.F.slot_gs_set.lookup
 repeat (any_goals (first | assumption | with_reducible refine L0.at ?_ | with_reducible refine L3.at ?_ | wp_step))
 refine b4e x X I ?_
 repeat (any_goals (first | assumption | wp_step))
theorem a8M {M:Model} {nameV:Value} {Q:Unit→Shared→Prop} (x:XCls K C) (X:K.In s.heap) (I:ExO s.heap a C ox) (hq:Q () s) :
  wpAny M A (checkBuiltinCall "BaseException.__getattribute__" ⟨[.ref a,nameV],[]⟩) Q E s:=by
 obtain ⟨bm,N,nm,q,bs,hdct,sn,sub,ab,col,dd,k0,k1,k2,k3,k5,mN,hC,hN,hni,T⟩:=x.obj X
 obtain ⟨hh,g,d,t,os⟩:=s
 have hk:builtinKind "BaseException.__getattribute__" = some .slot:=by decide +kernel
 have hsplit:splitId "BaseException.__getattribute__" = some ("BaseException", "__getattribute__"):=by decide +kernel
 have hcB:(qy C::bm).contains (.type "BaseException")=true:=by rw [List.contains_cons,T.hasType (X := "BaseException") (b:=true) rfl];rfl
 have ha:=PySem.F.args_bexc_ga (.ref a) nameV
 simp only [checkBuiltinCall,hk,hsplit]
 refine wpAny_bind ?_
 ·unfold isInstance
  repeat (first | (with_reducible refine wpAny_loadPart_at I.at_ ?_;rw [I.cls]) | (with_reducible refine wpAny_isSubtype_exc hC ?_;rw [hcB]) | wp_step)
  exact hq
theorem b1B {tk:Tok} {R:Result→Shared→Prop} (x:XCls K C) (X:K.In s.heap) (I:ExO s.heap a C ox) (hq:R (.ok (.ret (.ref C))) s) :
  codeAny (model prog w) A (.call (.builtin "BaseException.__getattribute__") ⟨[.ref a,.str "__class__" tk],[]⟩) R s:=
 codeAny_call_builtin PySem.F.attrBase_ValueError.ga.plain PySem.F.entry_bexc_ga (a8M x X I (a8K x X I hq))
theorem b6m {tk:Tok} {Q:Value→Shared→Prop} (x:XCls K C) (X:K.In s.heap) (I:ExO s.heap a C ox) (hq:Q (.ref C) s) :
  wpAny (model prog w) A (getAttrBy (.ref a) (.str "__class__" tk) false) Q E s:=by
 obtain ⟨hh,g,d,t,os⟩:=s
 have L0:=I.type (M:=model prog w)
 have L1:=looks_findIn (M:=model prog w) X x.ga
 have L2:=looks_findIn (M:=model prog w) X x.nga
 have f3:=PySem.F.attrBase_ValueError.ga.bind (.ref a)
 have hx2:(vQ "BaseException.__getattribute__" == vQ "object.__getattribute__")=false:=by decide +kernel
 have hx1:(onTheHeap (qy C)&&vQ "BaseException.__getattribute__" == vQ "object.__getattribute__")=false:=by rw [hx2];rfl
 repeat (any_goals (first | assumption | with_reducible refine L0.at ?_ | with_reducible refine L1.at ?_ | with_reducible refine L2.at ?_ | wp_step))
 refine b1B x X I ?_
 repeat (any_goals (first | assumption | wp_step))
theorem a8L {Q:Option Value→Shared→Prop} (x:XCls K C) (X:K.In s.heap) (I:ExO s.heap a C ox) (hq:Q (some (.ref C)) { s with toks:=s.toks+1 }) :
  wpAny (model prog w) A (getAttr? (.ref a) "__class__") Q E s:=by
 obtain ⟨hh,g,d,t,os⟩:=s
 unfold getAttr? getAttrBy?
 exact wpAny_bind (wpAny_mkText (wpAny_bind (wpAny_attempt (b6m (s:=⟨hh,g,d,t+1,os⟩) x X I (wpAny_pure hq)))))
theorem a1I {c:Value} {dep:Int} {tk:Tok} {Q:Fin→Shared→Prop} (x:XCls K C) (X:K.In s.heap) (I:ExO s.heap a C ox) (hty:Looks (model prog w) s.heap (typeOf c) (.type "type")) (his:Looks (model prog w) s.heap (isType c) true)
  (hne:(qy C==c)=false) (hsub:Looks (model prog w) s.heap (isSubtype (.ref C) c) false) (h:Q (.done (.ret (.bool false))) { s with toks:=s.toks+1 }) :
  wpAny (model prog w) A (Builtin.«isinstance.nested» ⟨[.ref a,c,.int dep tk],[]⟩) Q E s:=by
 obtain ⟨bm,N,nm,q,bs,hdct,sn,sub,ab,col,dd,k0,k1,k2,k3,k5,mN,hC,hN,hni,T⟩:=x.obj X
 have hisD:Looks (model prog w) s.heap (isType (.ref C)) true:=by
  intro A' Q' E' s' k q
  unfold isType loadHead
  exact wpAny_bind (wpAny_loadPart (k _ _ hC) (wpAny_pure q))
 obtain ⟨h0,g,d,tt,os⟩:=s
 have L0:=I.type (M:=model prog w)
 have LI:Looks (model prog w) h0 (isInstance (.ref a) c) false:=L0.andThen hsub
 unfold Builtin.«isinstance.nested»
 refine wpAny_bind (L0.at ?_)
 rw [if_neg (fun q=>by rw [hne] at q;exact zK q)]
 refine wpAny_bind (hty.at ?_)
 rw [if_pos (by decide)]
 k_delta "plainIsInstance"
 refine wpAny_bind (wpAny_bind (his.at ?_))
 simp only [Bool.not_true,kG,if_false]
 refine wpAny_bind (LI.at ?_)
 simp only [kG,if_false]
 refine wpAny_bind (a8L x X I ?_)
 refine wpAny_bind (hisD.at ?_)
 simp only [Bool.not_true,kG,if_false]
 refine wpAny_bind (wpAny_rule ?_)
 refine hsub.at ?_
 first
  | exact wpAny_pure h
  | exact wpAny_pure (wpAny_pure h)
  | exact wpAny_bind (wpAny_pure (wpAny_pure h))
theorem a8J {Q:Value→Shared→Prop} (x:XCls K C) (y:XCls K D) (X:K.In s.heap) (I:ExO s.heap a C ox) (hne:C≠D) (hty:typeIn K (.ref D)=some (.type "type")) (hs:subIn K (.ref C) (.ref D)=some false) (h:Q (.bool false) { s with toks:=s.toks+1 }) :
  wpAny (model prog w) A (call (.builtin "isinstance") [.ref a,.ref D]) Q E s:=
 call_isinstance (S:=fun _ R s=>(K.In s.heap∧ExO s.heap a C ox)∧R (.ok (.ret (.bool false))) { s with toks:=s.toks+1 })
  (fun _ _ _ _ _ hs'=>isinstance_outer (a1I x hs'.1.1 hs'.1.2 (looks_typeIn hs'.1.1 hty) (by
   obtain ⟨bm,N,nm,q,bs,hdct,sn,sub,ab,col,dd,k0,k1,k2,k3,k5,mN,hC,_⟩:=y.obj hs'.1.1
   intro A' Q' E' s' k q
   unfold isType loadHead
   exact wpAny_bind (wpAny_loadPart (k _ _ hC) (wpAny_pure q))) (Bool.eq_false_iff.mpr fun q=>hne (Value.ref.inj (beq_iff_eq.mp q))) (looks_subIn hs'.1.1 hs) hs'.2) (by intro q;cases q)) ⟨⟨X,I⟩,h⟩
theorem b6l {Q:Value→Shared→Prop} (X:K.In s.heap) (I:ExO s.heap a C ox) (e:isIn K (.ref C) D=true) (h:Q (.bool true) s) :
  wpAny (model prog w) A (call (.builtin "isinstance") [.ref a,.ref D]) Q E s:=isi_call X (fun _=>I.type) e (by intro q;cases q) h
theorem b4d {T:String} {Q:Value→Shared→Prop} (X:K.In s.heap) (I:ExO s.heap a C ox) (hty:typeOf (.type T)=pure (.type "type")) (e:subIn K (.ref C) (.type T)=some true) (h:Q (.bool true) s) :
  wpAny (model prog w) A (call (.builtin "isinstance") [.ref a,.type T]) Q E s:=by
 refine PyProof.Rows.call_isinstance_of ?_ (by intro q;cases q)
 obtain ⟨hh,g,d,t,os⟩:=s
 have L0:=I.type (M:=model prog w)
 have L1:=looks_subIn (M:=model prog w) X e
 unfold Builtin.«isinstance.nested»
 refine wpAny_bind (L0.at ?_)
 rw [if_neg (fun q=>by cases beq_iff_eq.mp q)]
 refine wpAny_bind (m:=typeOf (.type T)) (wpAny_of_eq hty ?_)
 rw [if_pos (by decide)]
 refine wpAny_bind (wpAny_bind (m:=isType (.type T)) (wpAny_pure (a:=true) ?_))
 refine wpAny_bind (m:=isInstance (.ref a) (.type T)) ((L0.andThen L1).at ?_)
 exact wpAny_pure (a:=true) (wpAny_pure h)
theorem a8I {M:Model} {Q:Bool→Shared→Prop} (x:XCls K C) (y:XCls K D) (X:K.In s.heap) (I:ExO s.heap a C ox) (hs:subIn K (.ref C) (.ref D)=some true) (hq:Q true s):wpAny M A (excMatches (.ref a) (.ref D)) Q E s:=by
 obtain ⟨bm,N,nm,q,bs,hdct,sn,sub,ab,col,dd,k0,k1,k2,k3,k5,mN,hC,hN,hni,T⟩:=y.obj X
 obtain ⟨hh,g,d,t,os⟩:=s
 have L1:=looks_subIn (M:=M) X hs
 have hcB:(qy D::bm).contains (.type "BaseException")=true:=by rw [List.contains_cons,T.hasType (X := "BaseException") (b:=true) rfl];rfl
 have f:=tc_notTuple
 unfold excMatches
 repeat (first | (with_reducible refine wpAny_loadPart_at I.at_ ?_;rw [I.cls]) | with_reducible refine wpAny_loadPart_at hC ?_ | with_reducible refine L1.at ?_ | (with_reducible refine wpAny_isSubtype_exc hC ?_;rw [hcB]) | wp_step)
 exact hq
end
end L2.L3
namespace L2.L3
open PySem PySem.Spec PyProof.Rows
section
variable {X:Cx} {pins:List (Addr×Obj)} {σ:St} {H:Hp} {s:Shared}
theorem wN (I:Inv X pins σ H s) {b:Addr} (h:s.heap.get? b=none):a0n X b:=by
 refine ⟨?_,fun p hp z=>?_⟩
 ·cases q:X.s₀.heap.get? b with
  | none=>exact .inr rfl
  | some o=>
   refine .inl (zn fun n=>?_)
   obtain ⟨o',e⟩:=I.base.there b o q n
   rw [h] at e;cases e
 ·obtain ⟨e,_⟩:=I.pin p (jw _ hp)
  rw [z,h] at e;cases e
end
section
variable {X:Cx} {st:Stmt} {f:SF}
def xK (c:Str):SF:=fun ρ=>some (.xc c ρ)
theorem b0S {x m:Str} {C:Addr} {np sp cpos pos:Pos} {j} (hc:X.calm=true) (hE:fR X.K x=some C) (hX:XCls X.K C) (hg:Gl X x:=by rfl) (hdb:(x==("__debug__" : Str))=false:=by decide)
  (he:starEach [.Constant (.str m) j sp] X.env=(false,eval (.Constant (.str m) j sp) X.env)::starEach [] X.env:=by rfl) (hpl:(backTo cpos (starEach [] X.env)).any (·.1)=false:=by rfl) :
  DS X (.Raise (some (.Call (.Name x np) [.Constant (.str m) j sp] [] cpos)) none pos) (xK x):=⟨fun pins s σ H D I ⟨ρ,o,H0,G₀,G,e,R,q⟩=>by
 cases (qA e)
 obtain ⟨bm,N,nm,qn,bs,hdct,sn,sub,ab,col,dd,k0,k1,k2,k3,k5,mN,hC,hN,hni,T⟩:=hX.obj I.mod.kin
 have hm:X.mg x=some (.ref C):=kP I.mod.kin I.mod.glob (a2w hE)
 refine wpAny_Raise_call_subT (C:=C) (nm:=nm) (q:=qn) (N:=N) (bs:=bs) (bm:=bm) (hdct:=hdct) (sn:=sn) (sub:=sub) (ab:=ab) (col:=col) (dd:=dd) (k0:=k0) (k1:=k1) (k2:=k2) (k3:=k3) (k5:=k5)
  PySem.F.excBase_ValueError (mN:=mN) (T.hasType PySem.F.excBase_ValueError.hasBase) (I.ok.hd hc) (by rw [he];show (false || (backTo cpos (starEach [] X.env)).any (·.1))=false;rw [hpl];rfl) hni (mK I hg hm ⟨rfl,?_⟩ hdb)
 have h:=eE (X:=X) (a9w:PE X (.Constant (.str m) j sp) (tC (.str m))) iX he cpos pins s σ H (fun vs H'=>vs=[.str m]∧H'=H) I ⟨rfl,rfl⟩
 rw [he] at h ⊢
 refine vq (thn h fun us s2 ⟨vs,H',I2,rv,e1,e2⟩=>?_)
 subst e1 e2
 refine ⟨rfl,by rw [←rv.length];show 1≤sizeLine;decide,I2.bk _ _ hC,hN.keeps I2.bk,T.keeps I2.bk,fun h' a hm'=>?_⟩
 obtain ⟨t,ht,_,_⟩:=hm'.there
 exact q pins { s2 with heap:=h' } σ H' G _ (I2.kept (t':=s2.toks) hm'.keeps) R (.refl _) ⟨a,C,rfl,hE,.inl (.inl ⟨wN I2 hm'.new,b0x I2.hok hm'.new,_,_,.ref t,ht,rfl,rfl,rfl,rfl⟩)⟩⟩
end
end L2.L3
namespace L2.L3
open PySem PySem.Spec PyProof.Rows
def a1V (m n:Nat) (f:SF) (ds:List PyData):Mm PyData:=if ds.length=n then (match f (sY m ds) with
 | some (.rt d)=>some (.ok d)
 | some (.nx _)=>some (.ok .none)
 | some (.xc c _)=>some (.ex c)
 | _=>none) else none
def CX1 (P:Program) (w:World):CXT:=fun outer H s E e s'=>∃ a C H',e=.ref a∧E (.ref C) none H'∧s'.os=s.os∧AllBare s'.gens∧Un (frs outer) [] H H' s.heap s'.heap∧HOk P w H' s'.heap∧ExcAt (fun b=>s.heap.get? b=none) H' a C s'.heap
def b8K (K:qB) (G H:Hp) (Q:VK) (E:XK):Re PyData→Prop
 | .ok d=>∀ v G' H',Grow G H G' H'→Rep K G' v d→Q v H'
 | .ex c=>∀ C G' H',fR K c=some C→Grow G H G' H'→E (.ref C) none H'
def spX (K:qB) (F:List PyData→Mm PyData):Sp:=fun vs H Q E=>∃ G ds r,(bH G H∧lN K G H)∧RepAll K G vs ds∧F ds=some r∧b8K K G H Q E r
structure CalleeX (P:Program) (w:World) (K:qB) (mg:Str→Option Value) (base:Heap) (x:Str) (k:Nat) (ps:List Str) (F:List PyData→Mm PyData):Prop where
 ex:∃ f fd,mg x=some (.ref f)∧ju K (.ref f)=true∧Binds K fd ps []∧FnOk P w K mg base (CX1 P w) k f fd ps (spX K F)
section
variable {X:Cx} {pins:List (Addr×Obj)} {σ:St} {H:Hp} {s:Shared}
theorem a2V {ch:List Addr} {h':Heap} (I:Inv X pins σ H s) (hex:X.ex=[]) (un:Un (frs X.stack) ch H H s.heap h') (hch:∀ b∈ch,X.s₀.heap.get? b=none):Un X.fs [] X.H₀ H X.s₀.heap h':=by
 have nx:∀ b:Addr,b∉X.ex:=fun b z=>by rw [hex] at z;cases z
 have neL:∀ b o,X.s₀.heap.get? b=some o→b≠X.env.locals:=fun b o e=>qW (qR (qH e) I.ok.above)
 have nc:∀ b o,X.s₀.heap.get? b=some o→b∉ch:=fun b o e z=>by rw [hch b z] at e;cases e
 refine ⟨fun b o e n hb _=>?_,fun b o e n hb _=>?_,fun b o e n _=>I.base.free b o e n (nx b),fun b o e _=>?_,I.base.tups,I.base.frzs,I.base.tbls⟩
 ·exact un.keep b o (I.base.keep b o e n hb (nx b)) (I.base.free b o e n (nx b)) (fun z=>(qF.mp (I.stkSub b z)).elim (neL b o e) hb) (nc b o e)
 ·obtain ⟨sl,e1⟩:=I.base.slot b o e n hb (nx b)
  obtain ⟨sl',e2⟩:=un.any e1 (I.base.free b o e n (nx b)) (nc b o e)
  exact ⟨sl',e2⟩
 ·obtain ⟨o',e1⟩:=I.base.there b o e (nx b)
  exact un.there b o' e1 (nc b o e)
end
section
variable {P:Program} {w:World} {K:qB} {mg:Str→Option Value} {base:Heap} {X:Cx} {e:Expr} {es:List Expr} {pos p:Pos} {x:Str} {k:Nat} {ps N:List Str} {F:List PyData→Mm PyData}
abbrev fcX (P:Program) (w:World) (K:qB) (mg:Str→Option Value) (base:Heap) (N:List Str) (qual:Str) (scope:Scope) (f:Addr) (cd:Value) (A:Around) (outer:List Env) (s:Shared) (H:Hp) (E:XK):Cx:=wK (CX1 P w) P w K mg base N qual scope f cd A outer s H E
theorem b2U {st:Stmt} {f:SF} {fa:Addr} {fd:FuncData} (m n:Nat) (Fu:Fun K x x st fa fd) (S:FnScope N ps (aD st)) (hm:N.length=m) (hn:ps.length=n)
  (body:∀ (cdv:Value) (A:Around) (outer:List Env) (s:Shared) (H:Hp) (E:XK),Room k (A.deeper (envOfC x (aD st) s.heap.objs.size fa cdv))→DB (fcX P w K mg base N x (aD st) fa cdv A outer s H E) (cA st) f) :
  FnOk P w K mg base (CX1 P w) (k+1) fa fd ps (spX K (a1V m n f)):=by
 obtain ⟨oc,od,kV,doc,pm,an,cdv,ct,osl,rfl,lk,hcd⟩:=Fu.ex
 refine b0K lk hcd S (fun vs H Q E ⟨G,ds,r,s,rv,hF,_⟩=>?_) fun A outer s H vs Q E hr ⟨G,ds,r,sm,rv,hF,q⟩=>?_
 ·unfold a1V at hF
  split at hF
  ·rename_i hl;rw [rv.length,hl,hn]
  ·cases hF
 ·unfold a1V at hF
  split at hF
  ·rw [←hm,←sZ] at hF
   split at hF
   ·rename_i d e
    cases (qA hF)
    exact ⟨_,(body cdv A outer s H E hr).run,gF N ds,_,H,G,G,e,fP sm rv,fun v G' H' _ g rv=>q v G' H' g rv⟩
   ·rename_i ρ' e
    cases (qA hF)
    exact ⟨_,(body cdv A outer s H E hr).run,gF N ds,_,H,G,G,e,fP sm rv,fun G' H' σ' _ R'=>q .non G' H' R'.grow .none⟩
   ·rename_i c ρ' e
    cases (qA hF)
    refine ⟨_,(body cdv A outer s H E hr).run,gF N ds,_,H,G,G,e,fP sm rv,fun pins s' σ H' G' e' I R _ ⟨a,C,e1,hE,xa⟩=>?_⟩
    subst e1
    refine a3A (X:=fcX P w K mg base N x (aD st) fa cdv A outer s H E) (fr:=fun b=>s.heap.get? b=none) I.ok.frames rfl rfl I (xa.mono fun b hb=>?_) (fun b hb=>?_) fun h' ch un hch hok x'=>?_
    ·rcases hb.1 with z | z
     ·cases z
     ·exact z
    ·cases z:s.heap.get? b with
     | none=>rfl
     | some o=>
      obtain ⟨o',z'⟩:=I.base.there b o z (by intro w;cases w)
      rw [hb] at z';cases z'
    ·exact ⟨a,C,H',rfl,q C G' H' hE R.grow,I.os,I.bare,a2V I rfl un hch,hok,x'⟩
   ·cases hF
  ·cases hF
theorem a4d {st:Stmt} {f:SF} (m n:Nat) (D:Def K mg x st) (S:FnScope N ps (aD st)) (hm:N.length=m) (hn:ps.length=n)
  (hb:∀ (kV doc pm:Value) (an:Option Addr) (cdv ct:Value) (us:List Value),us.length=ps.length→bindArgs (jd x x (fH st) (cA st) (aD st) .none kV doc pm an cdv ct) ⟨us,[]⟩=pure (ps.zip us))
  (body:∀ (fa:Addr) (cdv:Value) (A:Around) (outer:List Env) (s:Shared) (H:Hp) (E:XK),Room k (A.deeper (envOfC x (aD st) s.heap.objs.size fa cdv))→DB (fcX P w K mg base N x (aD st) fa cdv A outer s H E) (cA st) f) :
  CalleeX P w K mg base x (k+1) ps (a1V m n f):=by
 obtain ⟨fa,fd,Fu,hmg⟩:=D.ex
 exact ⟨fa,fd,hmg,Fu.kp,Fu.binds hb,b2U m n Fu S hm hn fun cdv A outer s H E hr=>body fa cdv A outer s H E hr⟩
def a0f (F:List PyData→Mm PyData) (fa:AF):EF:=fun ρ=>bnd (fa ρ) F
theorem yZ {fa:AF} (C:CalleeX X.prog X.w X.K X.mg X.base x k ps F) (hr:Room k X.A) (ha:DA X (e::es) fa) (hg:Gl X x:=by rfl) (hdb:(x==("__debug__" : Str))=false:=by decide)
  (he:starEach (e::es) X.env=(false,eval e X.env)::starEach es X.env:=by rfl) (hpl:(backTo pos (starEach es X.env)).any (·.1)=false:=by rfl):DE X (.Call (.Name x p) (e::es) [] pos) (a0f F fa):=⟨fun pins s σ H Q I ⟨ρ,r,H0,G₀,G,e',R,q⟩=>by
 obtain ⟨f,fd,a,b,c,Fk⟩:=C.ex
 refine wpAny_Call_Name_kw (mK I hg a ?_ hdb)
 refine zY (h₀:=X.base) I.ok.mod.kin b (thn (ha.run pos pins s σ H (fun vs H1=>∃ G1 ds,Grow G H G1 H1∧RepS X.K H0 G₀ G1 H1 σ ρ∧RepAll X.K G1 vs ds∧F ds=some r) I (bA R e' q.x fun ds vs G1 H1 g1 R1 rv e1=>⟨G1,ds,g1,R1,rv,e1⟩))
  fun us s1 ⟨vs,H1,I1,rv,G1,ds,g1,R1,rd,hF⟩=>⟨I1.kIn,?_⟩) he hpl
 have sp:spX X.K F vs H1 Q (fun cv _ H'=>∃ G' C c,cv=.ref C∧r=.ex c∧fR X.K c=some C∧Grow G1 H1 G' H'):=by
  refine ⟨G1,ds,r,⟨g1.sub,R1.tab⟩,rd,hF,?_⟩
  cases r with
  | ok d=>exact fun v G' H' g rv=>q v G' H' (g1.trans g) rv
  | ex c=>exact fun C G' H' hC g=>⟨G',C,c,rfl,rfl,hC,g⟩
 have hl:us.length=ps.length:=by rw [←rv.length];exact Fk.len _ _ _ _ sp
 refine wpAny_call (codeAny_mono (Fk.run X.A X.stack s1 H1 ⟨us,[]⟩ us vs Q _ hr I1.env0 (by simpa using c s1 us I1.kIn (by simpa using hl)) rv sp) fun res s' hq=>?_)
 cases res with
 | error e2=>
  obtain ⟨a2,C2,H2,rfl,⟨G2,C3,c3,e3,rfl,hC,g2⟩,os,bare,un,hok,xa⟩:=hq
  cases e3
  exact q pins s' σ H2 G2 _ (I1.call' (ch:=[]) os un hok bare (fun b z=>nomatch z)) (R1.more g2) (g1.gg.trans g2.gg) ⟨a2,C2,rfl,hC,.inl (xa.mono fun b hb=>wN I1 hb)⟩
 | ok fl=>
  cases fl with
  | ret u=>exact I1.after hq
  | next=>exact jD hq
  | brk=>exact jD hq
  | cont=>exact jD hq⟩
end
end L2.L3
namespace L2.L3
open PySem PySem.Spec PyProof.Rows
section
variable {K:qB} {H0 G₀ G H:Hp} {σ:St} {ρ:List Ent}
end
section
variable {X:Cx} {pins:List (Addr×Obj)} {σ:St} {H:Hp} {s:Shared}
theorem name_goes {M:Model} {A:Around} {E:Value→Shared→Prop} {Q:Unit→Shared→Prop} {j:Nat} {n:Str} {pos:Pos} (I:Inv X pins σ H s) (hN:X.N.Nodup) (hj:X.N[j]?=some n) (hk:X.env.scope.names.lookup n=some .local)
  (h:∀ s',Inv X pins (σ.set j none) H s'→Q () s'):wpAny M A (do bindName X.env n .none;unbindBehindTheSuite X.env n pos) Q E s:=by
 obtain ⟨m,hn,hl⟩:=id I.loc
 obtain ⟨oL,_,_,hoL,_⟩:=id hn
 have hcls:(X.env.scope.kind==.class || (X.env.scope.kind==.module&&X.env.locals != X.env.globals))=false:=by rw [I.ok.kind];rfl
 have hjσ:j<σ.length:=by rw [I.len];exact (qS.mp hj).1
 refine wpAny_nameGoes_keeps hk hn hcls fun h' v hn' hs=>?_
 have ne0:∀ b o,X.s₀.heap.get? b=some o→b≠X.env.locals:=fun b o e=>qW (qR (qH e) I.ok.above)
 refine h _ ⟨I.ok,I.os,I.bare,⟨fun b o e n hb hx=>?_,fun b o e n hb hx=>?_,I.base.free,fun b o e hx=>?_,I.base.tups,I.base.frzs,I.base.tbls⟩,⟨_,hn',fun i y v' e1 e2 e3=>?_⟩,fun y c e=>?_,I.free,I.freeC,fun p hp=>?_,fun b ob e=>?_,by simpa using I.len⟩
 ·exact (hs.2 b (ne0 b o e)).trans (I.base.keep b o e n hb hx)
 ·obtain ⟨sl,e1⟩:=I.base.slot b o e n hb hx
  exact ⟨sl,(hs.2 b (ne0 b o e)).trans e1⟩
 ·obtain ⟨o',e1⟩:=I.base.there b o e hx
  exact ⟨o',(hs.2 b (ne0 b o e)).trans e1⟩
 ·by_cases hi:i=j
  ·subst hi
   rw [kD hjσ] at e2
   cases e2
  ·rw [qk (jh hi)] at e2
   obtain ⟨u',r',q⟩:=hl i y v' e1 e2 e3
   refine ⟨u',r',?_⟩
   rcases q with ⟨k,e⟩ | ⟨k,c,e,z⟩
   ·refine .inl ⟨k,?_⟩
    have:y≠n:=fun e=>hi (xS hN e1 (e▸hj))
    simp [this,e]
   ·exact .inr ⟨k,c,e,z.sameBut hs (I.cne y c e)⟩
 ·obtain ⟨w',z⟩:=I.cell y c e
  exact ⟨w',z.sameBut hs (I.cne y c e)⟩
 ·obtain ⟨e,n,ne,nf,d⟩:=I.pin p hp
  exact ⟨(hs.2 p.1 ne).trans e,n,ne,nf,d⟩
 ·refine (I.hok b ob e).stay (fun c w' hc q=>(hs.2 c ?_).trans q) (fun _ q=>q) fun _ _ q=>q
  rintro rfl
  rcases hc with rfl | hc
  ·rw [I.free] at e;cases e
  ·rw [I.free] at hc;cases hc
abbrev Cx.suite (X:Cx) (a:Addr):Cx:={ X with A:=X.A.mark (some (.ref a)),calm:=false,xe:=fun _ _=>False }
theorem a1n (I:Inv X pins σ H s) (a:Addr):Inv (Cx.suite X a) pins σ H s:=
 ⟨⟨I.ok.mod,I.ok.kind,I.ok.glob,I.ok.blt,I.ok.above,I.ok.inj,I.ok.has,I.ok.cab,(fun z=>nomatch z),I.ok.frames,I.ok.stk,I.ok.exf,I.ok.bs,I.ok.bsz,I.ok.noex,I.ok.exfs,I.ok.funs,I.ok.frf⟩,I.os,I.bare,I.base,I.loc,I.cell,I.free,I.freeC,I.pin,I.hok,I.len⟩
theorem a3D {a:Addr} (I:Inv (Cx.suite X a) pins σ H s) (ok:X.Ok):Inv X pins σ H s:=⟨ok,I.os,I.bare,I.base,I.loc,I.cell,I.free,I.freeC,I.pin,I.hok,I.len⟩
end
section
variable {X:Cx} {body:List Stmt} {f:SF}
end
end L2.L3
namespace L2.L3
open PySem PySem.Spec PyProof.Rows
def a2S (K:qB) (C:Addr):Bool:=PySem.W.excIn K C b6d "ValueError.__new__" && (zi K (.ref C) "__getattribute__" == some (some (.builtin "BaseException.__getattribute__")))&&(zi K (.ref C) "__getattr__" == some none)
 && (zi K (.ref C) "__class__" == some (some (.builtin "object.__class__")))&&(PySem.W.mroIn K C (.type "object")==some true)
def a6G (K:qB) (S:Addr) (c:Str):Bool:=match fR K c with
 | some C=>a2S K C&&(PySem.W.typeIn K (.ref C)==some (.type "type"))&&(kO K (.ref C) (.type "ValueError")==some true)&&(kO K (.ref C) (.ref S)==some true)
 | none=>false
def b3V (K:qB) (c d:Str):Bool:=c==d || match fR K c,fR K d with
 | some C,some D=>(C != D)&&(kO K (.ref C) (.ref D)==some false)
 | _,_=>false
theorem a1H {K:qB} {C:Addr} (h:a2S K C=true):XCls K C:=by
 simp only [a2S,qJ,beq_iff_eq] at h
 exact ⟨h.1.1.1.1,h.1.1.1.2,h.1.1.2,h.1.2,h.2⟩
section
variable {X:Cx} {pos p p2:Pos} {x:Str}
theorem b6o:typeOf (.type "ValueError")=pure (.type "type"):=by kernel_rfl
end
def b4y (m:Nat) (f:SF) (c:Str):Mm PyData:=match f (.exc c::zH (m - 1) .no) with
 | some (.rt d)=>some (.ok d)
 | some (.nx _)=>some (.ok .none)
 | _=>none
theorem a7l {K:qB} {G H:Hp} {N:List Str} {a C:Addr} {c:Str} (s:bH G H∧lN K G H) (hC:fR K c=some C) (hH:H a=some (xcO a C)):RepS K H G G H (start N [.ref a]) (.exc c::zH (N.length - 1) .no):=by
 refine ⟨.refl s.1,by simp [start,Nat.add_comm],fun i o e h1 h2=>?_,Inj.free (fun i e h2=>?_),s.2⟩
 ·cases i with
  | zero=>
   have h1:some (some (V.ref a))=some o:=by simpa [start] using h1
   cases h1
   cases (qA h2)
   exact ⟨a,C,rfl,hC,hH⟩
  | succ i=>
   rw [List.getElem?_cons_succ,kC] at h2
   split at h2
   ·cases h2;trivial
   ·cases h2
 ·cases i with
  | zero=>cases (qA h2);rfl
  | succ i=>
   rw [List.getElem?_cons_succ,kC] at h2
   split at h2
   ·cases h2;rfl
   ·cases h2
section
variable {P:Program} {w:World} {K:qB} {mg:Str→Option Value} {base:Heap} {X:Cx} {pos p p2:Pos} {x y:Str} {k:Nat} {ps N:List Str} {F:Str→Mm PyData}
end
end L2.L3
namespace L2.L3
open PySem PySem.Spec PyProof.Rows
section
variable {X:Cx} {body:List Stmt} {f:SF}
end
end L2.L3
namespace L2.L3
open PySem PySem.Spec PyProof.Rows
section
variable {X:Cx} {body:List Stmt} {f:SF}
def b0O (L:List Str) (K:qB):Bool:=match fR K "SheetError" with
 | some S=>a2S K S&&L.all (a6G K S)
 | none=>false
structure ExL (L:List Str) (K:qB):Prop where
 ok:b0O L K=true
theorem ExL.she {L:List Str} {K:qB} (F:ExL L K):∃ S,fR K "SheetError" = some S∧XCls K S∧∀ c∈L,∃ C,fR K c=some C∧XCls K C∧kO K (.ref C) (.ref S)=some true:=by
 have h:=F.ok
 unfold b0O at h
 split at h
 ·rename_i S hS
  rw [qJ] at h
  refine ⟨S,hS,a1H h.1,fun c hc=>?_⟩
  have h2:=jN.mp h.2 c hc
  unfold a6G at h2
  split at h2
  ·rename_i C hC
   simp only [qJ,beq_iff_eq] at h2
   exact ⟨C,hC,a1H h2.1.1.1,h2.2⟩
  ·cases h2
 ·cases h
theorem a1u {L:List Str} {x m:Str} {np sp cpos pos:Pos} {j} (F:ExL L X.K) (hc:X.calm=true) (hx:x∈L:=by decide) (hg:Gl X x:=by rfl) (hdb:(x==("__debug__" : Str))=false:=by decide)
  (he:starEach [.Constant (.str m) j sp] X.env=(false,eval (.Constant (.str m) j sp) X.env)::starEach [] X.env:=by rfl) (hpl:(backTo cpos (starEach [] X.env)).any (·.1)=false:=by rfl) :
  DS X (.Raise (some (.Call (.Name x np) [.Constant (.str m) j sp] [] cpos)) none pos) (xK x):=by
 obtain ⟨S,_,_,h3⟩:=F.she
 obtain ⟨C,h1,h2,_⟩:=h3 x hx
 exact b0S hc h1 h2 hg hdb he hpl
end
end L2.L3
namespace L2.L3
open PySem PySem.Spec PyProof.Rows
theorem b1Q {m n:Nat} {f:SF} {ds:List PyData} {d:PyData} (hl:ds.length=n) (h:f (sY m ds)=some (.rt d)):a1V m n f ds=some (.ok d):=by
 unfold a1V;rw [if_pos hl,h]
theorem b1R {m n:Nat} {f:SF} {ds:List PyData} {c:Str} {ρ:List Ent} (hl:ds.length=n) (h:f (sY m ds)=some (.xc c ρ)):a1V m n f ds=some (.ex c):=by
 unfold a1V;rw [if_pos hl,h]
theorem b3w (F:List PyData→Mm PyData) (fa:AF) (ρ:List Ent):a0f F fa ρ=bnd (fa ρ) F:=rfl
theorem a0e {F:List PyData→Mm PyData} {fa:AF} {ρ:List Ent} {ds:List PyData} {r:Re PyData} (ha:fa ρ=some (.ok ds)) (h:F ds=some r):a0f F fa ρ=some r:=by rw [b3w,ha,bV,h]
def repl (x:Str) (b e:Int) (m:Mt):Mt:=if m.1=x then (m.1,b,e) else m
end L2.L3
namespace L2.L3
open PySem PySem.Spec PyProof.Rows
section
variable {M:Model} {A:Around} {E:Value→Shared→Prop} {s:Shared} {env:Env}
end
section
variable {X:Cx} {pins:List (Addr×Obj)} {σ:List (Option V)} {H H':Hp} {s:Shared} {h':Heap} {a C:Addr} {fr:Addr→Prop}
end
section
variable {X:Cx} {elt iter tg:Expr} {ifs:List Expr} {scope:Scope} {pos spos p:Pos} {N':List Str} {cap:List (Option Nat)} {t:Tg} {fi:AF} {ft:TF} {fe:EF}
end
end L2.L3
namespace L2.L3
open PySem PySem.Spec PySem.Calls PyProof.Rows
abbrev a4V (qual:Str) (scope:Scope) (L f:Addr) (cd:Value) (cl:List (Str×Addr)):Env:=newEnv scope L mainGlobals cl (qual ++ ".<locals>.") (some f) cd none builtinsNs
section
variable {P:Program} {w:World} {K:qB} {mg:Str→Option Value} {base:Heap}
def cxL (P:Program) (w:World) (K:qB) (mg:Str→Option Value) (base:Heap) (N:List Str) (env:Env) (A:Around) (outer:List Env) (s:Shared) (H:Hp) (E:XK):Cx where
 prog:=P
 w:=w
 K:=K
 mg:=mg
 base:=base
 A:=A.deeper env
 N:=N
 s₀:=s
 H₀:=H
 env:=env
 outer:=outer
 stack:=env::outer
 ex:=[]
 calm:=true
 fn:=fun _=>false
 pn:=[]
 xe:=fun e s'=>wpAny (model P w) (A.deeper env) (leaving env e) (fun _ s''=>CX1 P w outer H s E e s'') (fun e' s''=>CX1 P w outer H s E e' s'') s'
structure Caps (cl:List (Str×Addr)) (scope:Scope) (N:List Str) (σ:St) (H:Hp) (h:Heap):Prop where
 inj:∀ x y c,cl.lookup x=some c→cl.lookup y=some c→x=y
 has:∀ x,scope.names.lookup x=some .free→∃ c,cl.lookup x=some c
 cell:∀ x c,cl.lookup x=some c→H c=none∧∃ v,h.IsCell c v
 val:∀ (i:Nat) (x:Str) (v:V),N[i]?=some x→σ[i]?=some (some v)→scope.names.lookup x=some .free∧∃ u c,RelV v u∧cl.lookup x=some c∧h.IsCell c (some u)
 len:σ.length=N.length
theorem Caps.more {cl:List (Str×Addr)} {scope:Scope} {N:List Str} {σ:St} {H H':Hp} {h h':Heap} {fs:List Addr} (C:Caps cl scope N σ H h) (un:Un fs [] H H' h h'):Caps cl scope N σ H' h':=by
 have go:∀ x c v,cl.lookup x=some c→h.IsCell c v→h'.IsCell c v:=fun x c v e ⟨o,ho,hd⟩=>by
  obtain ⟨sl,q⟩:=un.any ho (C.cell x c e).1 (by simp)
  exact ⟨_,q,hd⟩
 refine ⟨C.inj,C.has,fun x c e=>?_,fun i x v e1 e2=>?_,C.len⟩
 ·obtain ⟨n,v,o,ho,hd⟩:=C.cell x c e
  exact ⟨un.free c o ho n (by simp),v,go x c v e ⟨o,ho,hd⟩⟩
 ·obtain ⟨h1,u,c,h2,h3,h4⟩:=C.val i x v e1 e2
  exact ⟨h1,u,c,h2,h3,go x c _ h3 h4⟩
theorem b2Q {N:List Str} {qual:Str} {scope:Scope} {f:Addr} {cd:Value} {cl:List (Str×Addr)} {A:Around} {outer:List Env} {s:Shared} {H:Hp} {E:XK} {σ:St} {h1:Heap} {tk:Nat}
  (hk:scope.kind=.function) (hnc:∀ x∈scope.names,x.2≠.cell) (hd:A.handled=none) (e0:Env0 P w K mg base A outer s H) (C:Caps cl scope N σ H s.heap) (hns:∃ m,h1.Ns s.heap.objs.size m) (kp:∀ b o,s.heap.get? b=some o→h1.get? b=some o) :
  Inv (cxL P w K mg base N (a4V qual scope s.heap.objs.size f cd cl) A outer s H E) [] σ H { s with heap:=h1,toks:=tk }:=by
 have noA:∀ b:Addr,b∉(cxL P w K mg base N (a4V qual scope s.heap.objs.size f cd cl) A outer s H E).ex:=fun b z=>absurd (show b∈([]:List Addr) from z) (by simp)
 obtain ⟨m,hns⟩:=hns
 have cellK:∀ c v,s.heap.IsCell c v→h1.IsCell c v:=fun c v ⟨o,ho,hd⟩=>⟨o,kp _ _ ho,hd⟩
 refine ⟨⟨e0.mod,hk,rfl,rfl,qN _,C.inj,fun y hy=>?_,(fun y c z _=>nomatch z),fun _=>hd,Around.frames_deeper e0.frames,.inr ⟨rfl,rfl⟩,fun b z=>absurd z (noA b),e0.bs,e0.bsz,fun b _ _=>noA b,fun b z=>absurd z (noA b),e0.funs,e0.frf⟩,
  rfl,e0.bare,Un.kept kp,⟨m,hns,fun i y v h1 h2 h3=>?_⟩,fun y c h=>?_,e0.hok.fresh (qN _),fun y c h=>(C.cell y c h).1,fun p hp=>absurd (show p∈([]:List (Addr×Obj)) from hp) (by simp),e0.hok.kept kp,C.len⟩
 ·have hy:scope.names.lookup y=some .cell∨scope.names.lookup y=some .free:=hy
  rcases hy with hy | hy
  ·exact absurd rfl (hnc _ (qa hy))
  ·exact C.has y hy
 ·obtain ⟨q1,u,c,q2,q3,q4⟩:=C.val i y v h1 h2
  exact ⟨u,q2,.inr ⟨.inr q1,c,q3,cellK c _ q4⟩⟩
 ·obtain ⟨_,v,q⟩:=C.cell y c h
  exact ⟨v,cellK c v q⟩
def b3E (K:qB) (G H:Hp) (r:Re PyData):VK:=fun v H'=>∃ G' d,r=.ok d∧Grow G H G' H'∧Rep K G' v d
def a8C (K:qB) (G H:Hp) (r:Re PyData):XK:=fun cv _ H'=>∃ G' C c,cv=.ref C∧r=.ex c∧fR K c=some C∧Grow G H G' H'
theorem b1e {k:Nat} {f c:Addr} {qual:Str} {params:Arguments} {body:Expr} {scope:Scope} {cl:List (Str×Addr)} {pm ct:Value} {fe:EF} {A:Around} {outer:List Env} {s:Shared} {H G:Hp} {o:Obj} {N:List Str} {σ:St} {ρ:List Ent} {r:Re PyData}
  (hr:Room (k+1) A) (e0:Env0 P w K mg base A outer s H) (ho:s.heap.get? f=some o) (hod:o.data=.func (PySem.W.kla_fn "<lambda>" qual params body scope cl pm (.ref c) ct)) (hcd:s.heap.CodeRec (.ref c) qual)
  (hk:scope.kind=.function) (hco:scope.isCoroutine=false) (hge:scope.isGenerator=false) (hnc:∀ x∈scope.names,x.2≠.cell)
  (hb:bindArgs (PySem.W.kla_fn "<lambda>" qual params body scope cl pm (.ref c) ct) ⟨[],[]⟩=pure [])
  (hbody:DE (cxL P w K mg base N (a4V qual scope s.heap.objs.size f (.ref c) cl) A outer s H (a8C K G H r)) body fe)
  (C:Caps cl scope N σ H s.heap) (R:RepS K H G G H σ ρ) (hf:fe ρ=some r) :
  codeAny (model P w) A (.call (.ref f) ⟨[],[]⟩) (CR (CX1 P w) outer P w H s (b3E K G H r) (a8C K G H r)) s:=by
 have lim:s.heap.NoLimit:=e0.mod.nolimit.keeps fun b o e=>(e0.bs b o e).1
 refine PySem.W.kla_callFunE hr.depth ho hod hco hge rfl hcd ?_
 rw [hb]
 refine wpAny_pure (wpAny_newFunctionEnv hnc (by simp) (fun h1 hns hsb=>?_) hk)
 have kp:∀ b o,s.heap.get? b=some o→h1.get? b=some o:=fun b o e=>hsb.extBut b o (qW (qH e)) (qC _ e)
 refine ⟨lim.keeps kp,PySem.W.kla_codeExpr ?_⟩
 have I:Inv (cxL P w K mg base N (a4V qual scope s.heap.objs.size f (.ref c) cl) A outer s H (a8C K G H r)) [] σ H { s with heap:=h1,toks:=s.toks+([]:List (Str×Value)).length }:=b2Q hk hnc hr.hd e0 C ⟨_,hns⟩ kp
 refine wpAny_mono (hbody.run [] _ σ H (b3E K G H r) I ⟨ρ,r,H,G,G,hf,R,?_⟩) (fun u' s' hs=>?_) fun e s' hs=>hs
 ·cases r with
  | ok d=>exact fun v G' H' g rv=>⟨G',d,rfl,g,rv⟩
  | ex c'=>
   intro pins s' σ' H' G' e' I' R' _ ⟨a,C',e1,hE,xa⟩
   subst e1
   refine a3A (X:=cxL P w K mg base N (a4V qual scope s.heap.objs.size f (.ref c) cl) A outer s H (a8C K G H (.ex c'))) (fr:=fun b=>s.heap.get? b=none) I'.ok.frames rfl rfl I' (xa.mono fun b hb=>?_) (fun b hb=>?_) fun h' ch un hch hok x'=>?_
   ·rcases hb.1 with z | z
    ·cases z
    ·exact z
   ·cases z:s.heap.get? b with
    | none=>rfl
    | some o=>
     obtain ⟨o',z'⟩:=I'.base.there b o z (by intro w;cases w)
     rw [hb] at z';cases z'
   ·exact ⟨a,C',H',rfl,⟨G',C',c',rfl,rfl,hE,R'.grow⟩,I'.os,I'.bare,a2V I' rfl un hch,hok,x'⟩
 ·obtain ⟨v',H',J,rv,q⟩:=hs
  exact ⟨v',H',J.os,J.bare,J.base,J.hok,rv,q⟩
end
end L2.L3
namespace L2.L3
open PySem PySem.Spec PySem.Calls PyProof.Rows
structure RoomN (k:Nat) (A:Around):Prop where
 dp:A.depth+3*k+5<recursionLimit
 un:A.units+16*k+200<cLine
theorem RoomN.units {k:Nat} {A:Around} (r:RoomN k A):A.units+64<cLine:=by have:=r.un;omega
theorem Room.n {k:Nat} {A:Around} (r:Room k A) (e:Option Value):RoomN k (A.mark e):=⟨r.dp,r.un⟩
section
variable {P:Program} {w:World} {K:qB} {mg:Str→Option Value} {base:Heap} {x:Str} {k:Nat} {ps N:List Str} {F:Str→Mm PyData}
abbrev fcN (P:Program) (w:World) (K:qB) (mg:Str→Option Value) (base:Heap) (N:List Str) (qual:Str) (scope:Scope) (f:Addr) (cd:Value) (A:Around) (outer:List Env) (s:Shared) (H:Hp):Cx:=
 { wK CX0 P w K mg base N qual scope f cd A outer s H E0 with calm:=false,xe:=fun _ _=>False }
structure ClsOk (P:Program) (w:World) (K:qB) (mg:Str→Option Value) (base:Heap) (x:Str) (k:Nat) (F:Str→Mm PyData):Prop where
 ex:∃ f,mg x=some (.ref f)∧ju K (.ref f)=true∧∀ (A:Around) (outer:List Env) (s:Shared) (H G:Hp) (a C:Addr) (c:Str) (d:PyData),RoomN k A→Env0 P w K mg base A outer s H→(bH G H∧lN K G H)→fR K c=some C→H a=some (xcO a C)→F c=some (.ok d) →
  codeAny (model P w) A (.call (.ref f) ⟨[.ref a],[]⟩) (CR CX0 outer P w H s (fun v H'=>∃ G',Grow G H G' H'∧Rep K G' v d) E0) s
theorem b3u {st:Stmt} {y:Str} {f:SF} (m:Nat) (D:Def K mg x st) (S:FnScope N [y] (aD st)) (hm:N.length=m)
  (hb:∀ (kV doc pm:Value) (an:Option Addr) (cdv ct:Value) (us:List Value),us.length=[y].length→bindArgs (jd x x (fH st) (cA st) (aD st) .none kV doc pm an cdv ct) ⟨us,[]⟩=pure ([y].zip us))
  (body:∀ (fa:Addr) (cdv:Value) (A:Around) (outer:List Env) (s:Shared) (H:Hp),RoomN 0 (A.deeper (envOfC x (aD st) s.heap.objs.size fa cdv))→DB (fcN P w K mg base N x (aD st) fa cdv A outer s H) (cA st) f) :
  ClsOk P w K mg base x 1 (b4y m f):=by
 obtain ⟨fa,fd,Fu,hmg⟩:=D.ex
 refine ⟨fa,hmg,Fu.kp,fun A outer s H G a C c d hr e0 sm hC hH hF=>?_⟩
 have bd:=Fu.binds hb
 obtain ⟨oc,od,kV,doc,pm,an,cdv,ct,osl,rfl,lk,hcd⟩:=Fu.ex
 have KX:K.In s.heap:=e0.mod.kin.keeps fun b o e=>(e0.bs b o e).1
 have lim:s.heap.NoLimit:=e0.mod.nolimit.keeps fun b o e=>(e0.bs b o e).1
 have hkind:∀ z∈[y].zip [qy a],(aD st).names.lookup z.1=some .local∨((aD st).names.lookup z.1=some .cell∧((cellsFrom (s.heap.objs.size+1) (aD st).names []).lookup z.1).isSome=true):=fun ⟨n,v⟩ hy=>by
  rcases S.par n (zT hy).1 with q | q
  ·exact .inl q
  ·exact .inr ⟨q,kj _ _ _ (.inl q)⟩
 have dep:A.depth<recursionLimit:=by have:=hr.dp;omega
 refine codeAny_call_function dep (KX _ _ lk) rfl S.co S.gen rfl (vd KX hcd) (bd s [.ref a] KX rfl _ _ _ _ ?_)
 refine wpAny_newFunctionEnv_cells S.kind hkind fun env he s1 xx=>?_
 subst he
 refine ⟨lim.keeps xx.toInCall.keep,codeAny_func ?_⟩
 have e1:Env0 P w K mg base { A with handled:=none } outer s H:=⟨e0.frames,e0.mod,e0.bs,e0.bsz,e0.funs,e0.frf,e0.hok,e0.bare⟩
 have J:Inv (wK CX0 P w K mg base N x (aD st) fa cdv { A with handled:=none } outer s H E0) [] (start N [.ref a]) H s1:=tY S rfl e1 rfl (.cons rfl .nil) xx
 have I:Inv (fcN P w K mg base N x (aD st) fa cdv A outer s H) [] (start N [.ref a]) H s1:=
  ⟨⟨J.ok.mod,J.ok.kind,J.ok.glob,J.ok.blt,J.ok.above,J.ok.inj,J.ok.has,J.ok.cab,(fun z=>nomatch z),J.ok.frames,J.ok.stk,J.ok.exf,J.ok.bs,J.ok.bsz,J.ok.noex,J.ok.exfs,J.ok.funs,J.ok.frf⟩,J.os,J.bare,J.base,J.loc,J.cell,J.free,J.freeC,J.pin,J.hok,J.len⟩
 unfold b4y at hF
 rw [←hm] at hF
 have fin:∀ (fl:Flow) (s':Shared),SP (fcN P w K mg base N x (aD st) fa cdv A outer s H) [] { nx:=fun _ H'=>∃ G',Grow G H G' H'∧Rep K G' .non d,rt:=fun v H'=>∃ G',Grow G H G' H'∧Rep K G' v d } fl s' →
   (match fl with | .ret u=>CR CX0 outer P w H s (fun v H'=>∃ G',Grow G H G' H'∧Rep K G' v d) E0 (.ok (.ret u)) s' | .next=>CR CX0 outer P w H s (fun v H'=>∃ G',Grow G H G' H'∧Rep K G' v d) E0 (.ok (.ret .none)) s' | _=>False):=fun fl s' hs=>by
  cases fl with
  | ret u=>
   obtain ⟨v,σ',H',J,rv,q⟩:=hs
   exact ⟨v,H',J.os,J.bare,J.base,J.hok,rv,q⟩
  | next=>
   obtain ⟨σ',H',J,q⟩:=hs
   exact ⟨.non,H',J.os,J.bare,J.base,J.hok,rfl,q⟩
  | brk=>obtain ⟨_,_,_,q⟩:=hs;exact q.elim
  | cont=>obtain ⟨_,_,_,q⟩:=hs;exact q.elim
 have run:∀ o,f (.exc c::zH (N.length - 1) .no)=some o→wL (fcN P w K mg base N x (aD st) fa cdv A outer s H) H G G { nx:=fun _ H'=>∃ G',Grow G H G' H'∧Rep K G' .non d,rt:=fun v H'=>∃ G',Grow G H G' H'∧Rep K G' v d } o →
   wpAny (model P w) (A.deeper (envOfC x (aD st) s.heap.objs.size fa cdv)) (execs (cA st) (envOfC x (aD st) s.heap.objs.size fa cdv)) (SP (fcN P w K mg base N x (aD st) fa cdv A outer s H) [] { nx:=fun _ H'=>∃ G',Grow G H G' H'∧Rep K G' .non d,rt:=fun v H'=>∃ G',Grow G H G' H'∧Rep K G' v d }) (fun _ _=>False) s1:=
  fun o e q=>(body fa cdv A outer s H ⟨by have:=hr.dp;show A.depth+1+3*0+5<_;omega,by have:=hr.un;show A.units+3+16*0+200<_;omega⟩).run [] s1 _ H _ I ⟨_,o,H,G,G,e,a7l sm hC hH,q⟩
 split at hF
 ·rename_i d' e
  cases (qA hF)
  refine wpAny_mono (run _ e fun v G' H' _ g rv=>⟨G',g,rv⟩) (fun fl s' hs=>?_) fun _ _ z=>z.elim
  have:=fin fl s' hs
  cases fl<;>first | exact this | exact this.elim
 ·rename_i ρ' e
  cases (qA hF)
  refine wpAny_mono (run _ e fun G' H' σ' _ R'=>⟨G',R'.grow,.none⟩) (fun fl s' hs=>?_) fun _ _ z=>z.elim
  have:=fin fl s' hs
  cases fl<;>first | exact this | exact this.elim
 ·cases hF
end
section
variable {X:Cx}
theorem a8e {pins:List (Addr×Obj)} {s:Shared} {σ:St} {H:Hp} {fl:Addr} {dn:Str} {i:Nat} {p pos:Pos} {Qv:VK} {Ev:XK} (I:Inv X pins σ H s) (hN:X.N[i]?=some dn) (hσ:σ[i]?=some (some (.ref fl))) (hv:Vis X.env.scope dn)
  (hd:(dn==("__debug__" : Str))=false) (hcd:(dn==("__classdict__" : Str))=false) (hf:∀ s',Inv X pins σ H s'→PySem.W.FnAt fl s'.heap)
  (run:∀ s',Inv X pins σ H s'→codeAny (model X.prog X.w) X.A (.call (.ref fl) ⟨[],[]⟩) (CR (CX1 X.prog X.w) X.stack X.prog X.w H s' Qv Ev) s') :
  wpAny (model X.prog X.w) X.A (eval (.Call (.Name dn p) [] [] pos) X.env) (EP X pins σ Qv) (fun e s'=>∃ a C H',e=.ref a∧Ev (.ref C) none H'∧Inv X pins σ H' s'∧ExcAt (a0n X) H' a C s'.heap) s:=by
 have nm:=gZ (X:=X.wish fun _ _=>False) (pos:=p) hN hv hd hcd pins s σ H (fun v H'=>v=.ref fl∧H'=H) (I.wish _) ⟨.ref fl,hσ,rfl,rfl⟩
 refine wpAny_Call_Name_kw (wpAny_mono nm (fun u s1 ⟨v,H1,I1',rv,e1,e2⟩=>?_) fun _ _ z=>z.elim)
 subst e1 e2
 cases rv
 have I1:=I1'.unwish
 refine PySem.W.callWith_F0 (hf s1 I1) (wpAny_call (codeAny_mono (run s1 I1) fun res s' hq=>?_))
 cases res with
 | error e2=>
  obtain ⟨a2,C2,H2,rfl,hE,os,bare,un,hok,xa⟩:=hq
  exact ⟨a2,C2,H2,rfl,hE,I1.call' (ch:=[]) os un hok bare (fun b z=>nomatch z),xa.mono fun b hb=>wN I1 hb⟩
 | ok fl=>
  cases fl with
  | ret u=>exact I1.after hq
  | next=>exact jD hq
  | brk=>exact jD hq
  | cont=>exact jD hq
theorem b1k {pins:List (Addr×Obj)} {s:Shared} {σ:St} {H G:Hp} {x n c:Str} {k j:Nat} {a C:Addr} {d:PyData} {F:Str→Mm PyData} {p p2 pos:Pos} {e:Option Value} (K0:ClsOk X.prog X.w X.K X.mg X.base x k F) (hr:RoomN k X.A) (I:Inv X pins σ H s) (hN:X.N[j]?=some n) (hσ:σ[j]?=some (some (.ref a))) (hv:Vis X.env.scope n)
  (hd:(n==("__debug__" : Str))=false) (hcd:(n==("__classdict__" : Str))=false) (sm:bH G H∧lN X.K G H) (hC:fR X.K c=some C) (hH:H a=some (xcO a C)) (hF:F c=some (.ok d)) (hg:Gl X x) (hdb:(x==("__debug__" : Str))=false)
  (he:starEach [.Name n p2] X.env=(false,eval (.Name n p2) X.env)::starEach [] X.env) (hpl:(backTo pos (starEach [] X.env)).any (·.1)=false) :
  wpAny (model X.prog X.w) X.A (eval (.Call (.Name x p) [.Name n p2] [] pos) X.env) (EP X pins σ fun v H'=>∃ G',Grow G H G' H'∧Rep X.K G' v d) X.xe s:=by
 obtain ⟨f,hm,kp,run⟩:=K0.ex
 refine wpAny_Call_Name_kw (mK I hg hm ?_ hdb)
 refine zY (h₀:=X.base) I.ok.mod.kin kp (thn (eE (gZ hN hv hd hcd) iX he pos pins s σ H (fun vs H'=>vs=[.ref a]∧H'=H) I ⟨.ref a,hσ,rfl,rfl⟩) fun us s1 ⟨vs,H1,I1,rv,e1,e2⟩=>⟨I1.kIn,?_⟩) he hpl
 subst e1 e2
 obtain ⟨u,rfl,ru⟩:=vals1 rv
 cases ru
 refine wpAny_call (codeAny_mono (run X.A X.stack s1 H1 G a C c d hr I1.env0 sm hC hH hF) fun res s' hq=>?_)
 cases res with
 | error e2=>exact hq.elim
 | ok fl=>
  cases fl with
  | ret u=>exact I1.after hq
  | next=>exact jD hq
  | brk=>exact jD hq
  | cont=>exact jD hq
end
end L2.L3
namespace L2.L3
open PySem PySem.Spec PySem.Calls PyProof.Rows
def a5O (L:List Str) (F:Str→Mm PyData) (r:Re PyData):Option PyData:=match r with
 | .ok d=>some d
 | .ex c=>if L.contains c then (match F c with | some (.ok d)=>some d | _=>none) else none
section
variable {X:Cx} {L:List Str}
theorem a7e {s:Shared} {σ:St} {H G:Hp} {fl D:Addr} {dn n d0 y:Str} {k:Nat} {r:Re PyData} {d:PyData} {F:Str→Mm PyData} {p1 p2 p3 np p5 p6 p7 p8 hpos pos:Pos} (I:Inv X [] σ H s) (hN:X.N.Nodup) (hst:X.stack=X.env::X.outer) (hf:X.env.frame=some X.env.locals)
  (hD:fR X.K d0=some D) (hXD:XCls X.K D) (hcs:∀ c∈L,∃ C,fR X.K c=some C∧XCls X.K C∧kO X.K (.ref C) (.ref D)=some true)
  (K0:ClsOk X.prog X.w X.K X.mg X.base y k F) (hr:∀ e,RoomN k (X.A.mark e)) (sm:bH G H∧lN X.K G H) (ht:a5O L F r=some d)
  (hi:X.N[0]?=some dn) (hj:X.N[1]?=some n) (hσ:σ[0]?=some (some (.ref fl)))
  (hfn:∀ s',Inv X [] σ H s'→PySem.W.FnAt fl s'.heap)
  (run:∀ s',Inv X [] σ H s'→codeAny (model X.prog X.w) X.A (.call (.ref fl) ⟨[],[]⟩) (CR (CX1 X.prog X.w) X.stack X.prog X.w H s' (b3E X.K G H r) (a8C X.K G H r)) s')
  (hk0:X.env.scope.names.lookup dn=some .local) (hk:X.env.scope.names.lookup n=some .local) (hg:Gl X d0) (hgy:Gl X y)
  (hdb0:(dn==("__debug__" : Str))=false) (hcd0:(dn==("__classdict__" : Str))=false) (hdb:(d0==("__debug__" : Str))=false) (hnd:(n==("__debug__" : Str))=false) (hncd:(n==("__classdict__" : Str))=false) (hdy:(y==("__debug__" : Str))=false)
  (he:starEach [.Name n p6] X.env=(false,eval (.Name n p6) X.env)::starEach [] X.env) (hpl:(backTo p7 (starEach [] X.env)).any (·.1)=false) :
  wpAny (model X.prog X.w) X.A (exec (.Try [.Return (some (.Call (.Name dn p1) [] [] p2)) p3] [.ExceptHandler (some (.Name d0 np)) (some n) [.Return (some (.Call (.Name y p5) [.Name n p6] [] p7)) p8] hpos] [] [] pos) X.env)
   (SP X [] { nx:=fun _ _=>False,rt:=fun v H'=>∃ G',Grow G H G' H'∧Rep X.K G' v d }) X.xe s:=by
 refine wpAny_Try_except ?_
 refine wpAny_execs_cons (wpAny_Return_some (wpAny_mono (a8e (X:=X) I hi hσ (.inl hk0) hdb0 hcd0 hfn run) (fun u s2 ⟨v,H',I',rv,q⟩=>?_) fun e s2 ⟨a,C,H',e1,⟨G',C',c,e2,e3,hC,g⟩,I',xa⟩=>?_))
 ·obtain ⟨G',d',rfl,g,rp⟩:=q
  cases ht
  exact ⟨v,σ,H',I',rv,G',g,rp⟩
 ·subst e1;cases e2;subst e3
  unfold a5O at ht
  dsimp only at ht
  split at ht
  ·rename_i hc
   split at ht
   ·rename_i dd hF
    cases ht
    obtain ⟨C'',hE',hXC,hsub⟩:=hcs c (by simpa using hc)
    rw [hC] at hE';cases hE'
    have xa1:mQ X (fun b=>a0n X b∧∀ p∈([]:List (Addr×Obj)),p.1≠b) H' a C s2.heap:=.inl (xa.mono fun b hb=>⟨hb,fun p hp=>nomatch hp⟩)
    have nw:∀ b,s2.heap.get? b=none→a0n X b∧∀ p∈([]:List (Addr×Obj)),p.1≠b:=fun b hb=>⟨wN I' hb,fun p hp=>nomatch hp⟩
    refine a3s (X:=X) I'.ok.frames hst hf I' xa1 nw fun h1 ch1 c1 x1=>?_
    have I2:=Inv.chg I' c1
    refine a5j (X:=X) (s:={ s2 with heap:=h1 }) c1.hok x1 fun h2 ch2 c2 x2=>?_
    have I3:Inv X [] σ H' { s2 with heap:=h2 }:=Inv.chg (s:={ s2 with heap:=h1 }) I2 c2
    obtain ⟨_,_,oe,vs,xo,_⟩:=(show ExcAt _ H' a C h2 from .inr x2).ob
    have hm:X.mg d0=some (.ref D):=kP I.mod.kin I.mod.glob (a2w hD)
    refine wpAny_handleBy_cons (codeAny_handlers_test (mK (X:=Cx.suite X a) (a1n I3 a) hg hm (a8I hXC hXD I3.kIn xo hsub ?_) hdb)) (by intro z;cases z)
    refine codeAny_handlers_suite_as ?_
    refine a5j (X:=X) (s:={ s2 with heap:=h2 }) c2.hok x2 fun h3 ch3 c3 x3=>?_
    have I4:Inv X [] σ H' { s2 with heap:=h3 }:=Inv.chg (s:={ s2 with heap:=h2 }) I3 c3
    obtain ⟨fa,na,oe3,vs3,xo3,hv3⟩:=(show ExcAt _ H' a C h3 from .inr x3).ob
    have I5:Inv X [] σ (upd H' a (xcO a C)) { s2 with heap:=h3 }:=Inv.track I4 fa na ⟨oe3,vs3,xo3.at_,hv3⟩ ⟨⟨oe3,xo3⟩,⟨oe3,xo3.at_⟩,fun g1 g2 ⟨o1,y⟩ k=>⟨o1,k _ y.at_,y.cls⟩⟩
    have hjσ:1<σ.length:=by rw [I5.len];exact (qS.mp hj).1
    refine rC (i:=1) (v:=.ref a) I5 hN hj (.inl hk) rfl (fun s4 I6=>?_) (.inr hk)
    have g6:Grow G H G' (upd H' a (xcO a C)):=g.trans (Grow.side g.sub na)
    have sm6:bH G' (upd H' a (xcO a C))∧lN X.K G' (upd H' a (xcO a C)):=⟨g6.sub,sm.2.more g6⟩
    have run:=b1k (X:=Cx.suite X a) (p:=p5) (p2:=p6) (pos:=p7) (e:=none) (G:=G') K0 (hr _) (a1n I6 a) hj (by rw [kD hjσ]) (.inl hk) hnd hncd sm6 hC aL hF hgy hdy he hpl
    refine wpAny_execs_cons (wpAny_Return_some (wpAny_mono run (fun u s5 ⟨v,H5,I7,rv,G5,g5,rp⟩=>?_) fun _ _ z=>jD z))
    have I8:=a3D I7 I.ok
    exact name_goes I8 hN hj hk fun s6 I9=>⟨v,_,H5,I9,rv,G5,g6.trans g5,rp⟩
   ·cases ht
  ·cases ht
end
section
variable {P:Program} {w:World} {K:qB} {mg:Str→Option Value} {base:Heap} {x:Str} {k:Nat} {F:Str→Mm PyData} {L:List Str}
structure DeedOk (P:Program) (w:World) (K:qB) (mg:Str→Option Value) (base:Heap) (k:Nat) (s:Shared) (H G:Hp) (r:Re PyData) (fl:Addr):Prop where
 fn:∀ (s':Shared) (fs:List Addr),Un fs [] H H s.heap s'.heap→PySem.W.FnAt fl s'.heap
 run:∀ (A:Around) (outer:List Env) (s':Shared) (fs:List Addr),Room k A→Env0 P w K mg base A outer s' H→Un fs [] H H s.heap s'.heap→codeAny (model P w) A (.call (.ref fl) ⟨[],[]⟩) (CR (CX1 P w) outer P w H s' (b3E K G H r) (a8C K G H r)) s'
structure ToldOk (P:Program) (w:World) (K:qB) (mg:Str→Option Value) (base:Heap) (x:Str) (L:List Str) (F:Str→Mm PyData):Prop where
 ex:∃ f,mg x=some (.ref f)∧ju K (.ref f)=true∧∀ (k:Nat) (A:Around) (outer:List Env) (s:Shared) (H G:Hp) (r:Re PyData) (d:PyData) (fl:Addr),Room (k+2) A→Env0 P w K mg base A outer s H→(bH G H∧lN K G H)→DeedOk P w K mg base k s H G r fl→a5O L F r=some d →
  codeAny (model P w) A (.call (.ref f) ⟨[.ref fl],[]⟩) (CR CX0 outer P w H s (fun v H'=>∃ G',Grow G H G' H'∧Rep K G' v d) E0) s
theorem a8T {st:Stmt} {dn n y:Str} {p1 p2 p3 np p5 p6 p7 p8 hpos pos:Pos} {Dc:Addr} (D:Def K mg x st) (S:FnScope [dn,n] [dn] (aD st))
  (hD:fR K "SheetError" = some Dc) (hXD:XCls K Dc) (hcs:∀ c∈L,∃ C,fR K c=some C∧XCls K C∧kO K (.ref C) (.ref Dc)=some true) (K0:ClsOk P w K mg base y 1 F)
  (hB:cA st=[.Try [.Return (some (.Call (.Name dn p1) [] [] p2)) p3] [.ExceptHandler (some (.Name "SheetError" np)) (some n) [.Return (some (.Call (.Name y p5) [.Name n p6] [] p7)) p8] hpos] [] [] pos])
  (hb:∀ (kV doc pm:Value) (an:Option Addr) (cdv ct:Value) (us:List Value),us.length=[dn].length→bindArgs (jd x x (fH st) (cA st) (aD st) .none kV doc pm an cdv ct) ⟨us,[]⟩=pure ([dn].zip us))
  (hk0:(aD st).names.lookup dn=some .local) (hk:(aD st).names.lookup n=some .local)
  (hg:(aD st).names.lookup ("SheetError" : Str)=some .globalImplicit) (hgy:(aD st).names.lookup y=some .globalImplicit)
  (hdb0:(dn==("__debug__" : Str))=false) (hcd0:(dn==("__classdict__" : Str))=false) (hnd:(n==("__debug__" : Str))=false) (hncd:(n==("__classdict__" : Str))=false) (hdy:(y==("__debug__" : Str))=false) :
  ToldOk P w K mg base x L F:=by
 obtain ⟨fa,fd,Fu,hmg⟩:=D.ex
 refine ⟨fa,hmg,Fu.kp,fun k A outer s H G r d fl hr e0 sm Dd ht=>?_⟩
 have bd:=Fu.binds hb
 obtain ⟨oc,od,kV,doc,pm,an,cdv,ct,osl,rfl,lk,hcd⟩:=Fu.ex
 have KX:K.In s.heap:=e0.mod.kin.keeps fun b o e=>(e0.bs b o e).1
 have lim:s.heap.NoLimit:=e0.mod.nolimit.keeps fun b o e=>(e0.bs b o e).1
 have hkind:∀ z∈[dn].zip [qy fl],(aD st).names.lookup z.1=some .local∨((aD st).names.lookup z.1=some .cell∧((cellsFrom (s.heap.objs.size+1) (aD st).names []).lookup z.1).isSome=true):=fun ⟨n,v⟩ hy=>by
  rcases S.par n (zT hy).1 with q | q
  ·exact .inl q
  ·exact .inr ⟨q,kj _ _ _ (.inl q)⟩
 refine codeAny_call_function hr.depth (KX _ _ lk) rfl S.co S.gen rfl (vd KX hcd) (bd s [.ref fl] KX rfl _ _ _ _ ?_)
 refine wpAny_newFunctionEnv_cells S.kind hkind fun env he s1 xx=>?_
 subst he
 refine ⟨lim.keeps xx.toInCall.keep,codeAny_func ?_⟩
 have I:Inv (wK CX0 P w K mg base [dn,n] x (aD st) fa cdv A outer s H E0) [] (start [dn,n] [.ref fl]) H s1:=tY S hr.hd e0 rfl (.cons rfl .nil) xx
 rw [hB]
 have hr1:Room (k+1) (A.deeper (envOfC x (aD st) s.heap.objs.size fa cdv)):=hr.deeper _
 have main:=a7e (X:=wK CX0 P w K mg base [dn,n] x (aD st) fa cdv A outer s H E0) (p1:=p1) (p2:=p2) (p3:=p3) (np:=np) (p5:=p5) (p6:=p6) (p7:=p7) (p8:=p8) (hpos:=hpos) (pos:=pos) I S.nd rfl rfl hD hXD hcs K0 (fun e=>Room.n (hr1.mono (by omega):Room 1 _) e) sm ht rfl rfl rfl (fun s' I'=>Dd.fn s' _ I'.base)
  (fun s' I'=>Dd.run _ _ s' _ (hr1.mono (by omega)) I'.env0 I'.base) hk0 hk hg hgy hdb0 hcd0 (by decide) hnd hncd hdy rfl rfl
 refine wpAny_execs_cons (wpAny_mono main (fun f s' q=>?_) fun _ _ z=>z)
 cases f with
 | next=>obtain ⟨_,_,_,z⟩:=q;exact z.elim
 | brk=>obtain ⟨_,_,_,z⟩:=q;exact z.elim
 | cont=>obtain ⟨_,_,_,z⟩:=q;exact z.elim
 | ret u=>
  obtain ⟨v,σ',H',J,rv,q⟩:=q
  exact ⟨v,H',J.os,J.bare,J.base,J.hok,rv,q⟩
end
end L2.L3
namespace L2.L3
open PySem PySem.Spec PySem.Calls PyProof.Rows
def a2X (L:List Str) (F:Str→Mm PyData) (cap:List (Option Nat)) (fe:EF):EF:=fun ρ=>match fe (dX cap ρ) with
 | some r=>lft (a5O L F r)
 | none=>none
section
variable {X:Cx}
theorem b3v {scope:Scope} {N':List Str} {cap:List (Option Nat)} {pins:List (Addr×Obj)} {σ:St} {H:Hp} {s:Shared} (B:Blk X scope N' cap) (I:Inv X pins σ H s):Caps (uK scope X.env) scope N' (fM cap σ) H s.heap:=by
 have cl:∀ x c,(uK scope X.env).lookup x=some c→X.env.cells.lookup x=some c:=fun x c h=>a2D h
 refine ⟨fun x y c h1 h2=>I.ok.inj x y c (cl x c h1) (cl y c h2),fun x h=>?_,fun x c h=>⟨I.freeC x c (cl x c h),I.cell x c (cl x c h)⟩,fun i x v e1 e2=>?_,by unfold fM;rw [qD];exact B.len⟩
 ·have hm:=qa h
  obtain ⟨c,e⟩:=I.ok.has x (.inl (B.free _ hm rfl))
  exact ⟨c,sG hm e⟩
 ·unfold fM at e2
  rw [qP] at e2
  cases hc:cap[i]? with
  | none=>rw [hc] at e2;cases e2
  | some o=>
   rw [hc] at e2
   cases o with
   | none=>cases e2
   | some j=>
    have e3:(σ[j]?).getD none=some v:=qA e2
    have e4:σ[j]?=some (some v):=by
     cases q:σ[j]? with
     | none=>rw [q] at e3;cases e3
     | some w'=>rw [q] at e3;have:w'=some v:=e3;rw [this]
    obtain ⟨y,h1,h2,h3⟩:=B.caps i j hc
    rw [e1] at h1
    cases h1
    have hcell:X.env.kindOf x=some .cell:=B.free _ (qa h3) rfl
    obtain ⟨m,_,hl⟩:=I.loc
    obtain ⟨u,r,l⟩:=hl j x v h2 e4 (.inr (.inl hcell))
    rcases l with ⟨k,_⟩ | ⟨_,c,e,z⟩
    ·rw [hcell] at k;cases k
    ·exact ⟨h3,u,c,r,sG (qa h3) e,z⟩
theorem b3h {x q:Str} {L:List Str} {F:Str→Mm PyData} {k:Nat} {c T:Addr} {params:Arguments} {body:Expr} {scope:Scope} {lp p pos:Pos} {N':List Str} {cap:List (Option Nat)} {fe:EF} (T0:ToldOk X.prog X.w X.K X.mg X.base x L F) (hx:q∈gD) (ht:jq X.K q=some (c,T)) (hcode:X.env.code=.ref c)
  (hq:X.env.qual ++ "<lambda>" = lamQ q) (C:zI X.K c T=true) (M:BM X.mg X.base) (hr:Room (k+3) X.A) (B:Blk X scope N' cap) (hnc:∀ y∈scope.names,y.2≠.cell)
  (hbody:∀ (f c:Addr) (cl:List (Str×Addr)) (A:Around) (outer:List Env) (s:Shared) (H:Hp) (E:XK),Room k (A.deeper (a4V (lamQ q) scope s.heap.objs.size f (.ref c) cl))→DE (cxL X.prog X.w X.K X.mg X.base N' (a4V (lamQ q) scope s.heap.objs.size f (.ref c) cl) A outer s H E) body fe)
  (hbind:∀ (pm ct:Value) (c:Addr) (cl:List (Str×Addr)),bindArgs (PySem.W.kla_fn "<lambda>" (lamQ q) params body scope cl pm (.ref c) ct) ⟨[],[]⟩=pure []:=by intros;rfl)
  (hco:scope.isCoroutine=false:=by rfl) (hge:scope.isGenerator=false:=by rfl) (hdef:defaultsOf params X.env=([],[]):=by rfl)
  (he:starEach [.Lambda params body scope lp] X.env=(false,eval (.Lambda params body scope lp) X.env)::starEach [] X.env:=by rfl) (hpl:(backTo pos (starEach [] X.env)).any (·.1)=false:=by rfl) (hg:Gl X x:=by rfl) (hdb:(x==("__debug__" : Str))=false:=by decide) :
  DE X (.Call (.Name x p) [.Lambda params body scope lp] [] pos) (a2X L F cap fe):=⟨fun pins s σ H Q I ⟨ρ,r0,H0,G₀,G,e,R,qq⟩=>by
 unfold a2X at e
 split at e
 ·rename_i r er
  obtain ⟨d,ed,rfl⟩:=aY e
  obtain ⟨f,hm,kp,run⟩:=T0.ex
  refine wpAny_Call_Name_kw (mK I hg hm ?_ hdb)
  refine zY (h₀:=X.base) I.ok.mod.kin kp ?_ he hpl
  rw [he]
  show wpAny _ _ (spliced ((false,eval (.Lambda params body scope lp) X.env)::backTo pos (starEach [] X.env))) _ _ s
  refine kQ (b0d hx ht hcode hq C M hdef (mO fun p hp hk=>I.ok.has p.1 (.inl (B.free p hp hk))) I R fun fl c' ct pm H2 s2 I2 g2 fo Hf sf hc'=>?_)
  show wpAny _ _ (spliced []) _ _ s2
  refine kU ⟨I2.kIn,?_⟩
  have R2:=R.more g2
  have dd:DeedOk X.prog X.w X.K X.mg X.base (k+1) s2 H2 G r fl:=by
   refine ⟨fun s' fs un=>?_,fun A outer s' fs hrA e0 un=>?_⟩
   ·obtain ⟨sl,z⟩:=un.any fo Hf (by simp)
    exact ⟨_,_,_,_,z⟩
   ·obtain ⟨sl,z⟩:=un.any fo Hf (by simp)
    exact b1e hrA e0 z rfl (e0.hok c' _ hc').1 B.kind hco hge hnc (hbind pm ct c' _) (hbody _ _ _ _ _ _ _ _ (hrA.deeper _)) ((b3v B I2).more un) (R2.cap cap) er
  refine wpAny_call (codeAny_mono (run (k+1) X.A X.stack s2 H2 G r d fl hr I2.env0 ⟨R2.sub,R2.tab⟩ dd ed) fun res s' hq=>?_)
  cases res with
  | error e2=>exact hq.elim
  | ok fl=>
   cases fl with
   | ret u=>
    obtain ⟨v,H',I',rv,G',g',rp⟩:=I2.after hq
    exact ⟨v,H',I',rv,qq v G' H' (g2.trans g') rp⟩
   | next=>exact jD hq
   | brk=>exact jD hq
   | cont=>exact jD hq
 ·cases e⟩
end
def a6F (L:List Str) (K:qB):Bool:=match fR K "SheetError" with
 | some S=>a2S K S&&L.all (a6G K S)&&(L.all fun c=>L.all fun d=>b3V K c d)
 | none=>false
structure ExG (L:List Str) (K:qB):Prop where
 ok:a6F L K=true
section
variable {L:List Str} {K:qB}
theorem ExG.l (F:ExG L K):ExL L K:=⟨by
 have h:=F.ok
 unfold a6F at h
 unfold b0O
 split at h
 ·rename_i S hS
  rw [qJ] at h;first | exact h.1 | (rw [hS];exact h.1)
 ·cases h⟩
theorem ExG.one (F:ExG L K) {c:Str} (hc:c∈L):∃ C,fR K c=some C∧XCls K C∧PySem.W.typeIn K (.ref C)=some (.type "type")∧kO K (.ref C) (.type "ValueError")=some true:=by
 have h:=F.ok
 unfold a6F at h
 split at h
 ·rename_i S hS
  rw [qJ,qJ] at h
  have h2:=jN.mp h.1.2 c hc
  unfold a6G at h2
  split at h2
  ·rename_i C hC
   simp only [qJ,beq_iff_eq] at h2
   exact ⟨C,hC,a1H h2.1.1.1,h2.1.1.2,h2.1.2⟩
  ·cases h2
 ·cases h
theorem ExG.two (F:ExG L K) {c d:Str} (hc:c∈L) (hd:d∈L) (n:c≠d) {C D:Addr} (eC:fR K c=some C) (eD:fR K d=some D):C≠D∧kO K (.ref C) (.ref D)=some false:=by
 have h:=F.ok
 unfold a6F at h
 split at h
 ·rw [qJ,qJ] at h
  have h2:=jN.mp (jN.mp h.2 c hc) d hd
  unfold b3V at h2
  rw [eC,eD] at h2
  rcases Bool.or_eq_true_iff.mp h2 with z | z
  ·exact absurd (beq_iff_eq.mp z) n
  ·simp only [qJ,beq_iff_eq,bne_iff_ne] at z
   exact z
 ·cases h
end
section
variable {X:Cx} {pos p p2:Pos} {x:Str} {L:List Str}
def a0w (L:List Str) (i:Nat) (d:Str):EF:=fun ρ=>match ρ[i]? with
 | some (.exc c)=>if L.contains c then some (.ok (.bool (c==d))) else none
 | _=>none
theorem iT (i:Nat) {d:Str} (F:ExG L X.K) (hm:X.mg "isinstance" = none) (hd':d∈L:=by decide) (hN:X.N[i]?=some x:=by rfl) (hv:Vis X.env.scope x:=by first | exact jx rfl | exact jX (jx rfl) | exact jX (jX rfl)) (hd:(x==("__debug__" : Str))=false:=by decide)
  (hcd:(x==("__classdict__" : Str))=false:=by decide) (hdd:(d==("__debug__" : Str))=false:=by decide)
  (he:starEach [.Name x p,.Name d p2] X.env=(false,eval (.Name x p) X.env)::starEach [.Name d p2] X.env:=by rfl) (he2:starEach [.Name d p2] X.env=(false,eval (.Name d p2) X.env)::starEach [] X.env:=by rfl)
  (hpl:(backTo pos (starEach [.Name d p2] X.env)).any (·.1)=false:=by rfl) (hg:Gl X "isinstance":=by rfl) (hgd:Gl X d:=by rfl) {pi:Pos}:DE X (.Call (.Name "isinstance" pi) [.Name x p,.Name d p2] [] pos) (a0w L i d):=⟨fun pins s σ H Q I ⟨ρ,r,H0,G₀,G,e,R,q⟩=>by
 obtain ⟨D,hD,xD,tD',_⟩:=F.one hd'
 have hmd:X.mg d=some (.ref D):=kP I.mod.kin I.mod.glob (a2w hD)
 have hc:dU X (.builtin "isinstance") (fun xs H Q=>∃ a C c,xs=[.ref a,.ref D]∧c∈L∧fR X.K c=some C∧H a=some (xcO a C)∧Q (.bl (c==d)) H):=by
  intro pins s σ H xs us Q I r ⟨a,C,c,e1,hcn,hC,hH,q⟩
  subst e1
  obtain ⟨u,w',rfl,r1,r2⟩:=vals2 r
  cases r1;cases r2
  obtain ⟨⟨ox,xo⟩,_⟩:=I.hok a _ hH
  obtain ⟨C',hC',xC,_⟩:=F.one hcn
  rw [hC] at hC';cases hC'
  by_cases h:c=d
  ·subst h
   rw [hC] at hD;cases hD
   refine b6l I.kIn xo (by unfold PySem.W.isIn;simp) ⟨.bl (c==c),H,I,by show jR true=jR (c==c);simp,q⟩
  ·obtain ⟨n1,n2⟩:=F.two hcn hd' h hC hD
   exact a8J xC xD I.kIn xo n1 tD' n2 ⟨.bl (c==d),H,I.tok _,by show jR false=jR (c==d);simp [h],q⟩
 refine rH hc hg hm boot_isinstance (eE (gZ hN hv hd hcd) (eE (a6c (v:=.ref D) hgd hmd rfl hdd) iX he2) he) (by decide) (by decide) he hpl pins s σ H Q I ?_
 unfold a0w at e
 split at e
 ·rename_i c hi
  split at e
  ·rename_i hcn
   cases (qA e)
   obtain ⟨o,eo,a,C,rfl,hC,hH⟩:=R.at hi
   exact ⟨_,eo,a,C,c,rfl,by simpa using hcn,hC,hH,q _ G H (.refl R.sub) (.bool _)⟩
  ·cases e
 ·cases e⟩
def b5y (L:List Str) (i:Nat):EF:=fun ρ=>match ρ[i]? with
 | some (.exc c)=>if L.contains c then some (.ok (.bool true)) else none
 | _=>none
theorem b3i (i:Nat) (F:ExG L X.K) (hm:X.mg "isinstance" = none) (hmV:X.mg "ValueError" = none) (hN:X.N[i]?=some x:=by rfl) (hv:Vis X.env.scope x:=by first | exact jx rfl | exact jX (jx rfl) | exact jX (jX rfl)) (hd:(x==("__debug__" : Str))=false:=by decide)
  (hcd:(x==("__classdict__" : Str))=false:=by decide)
  (he:starEach [.Name x p,.Name "ValueError" p2] X.env=(false,eval (.Name x p) X.env)::starEach [.Name "ValueError" p2] X.env:=by rfl) (he2:starEach [.Name "ValueError" p2] X.env=(false,eval (.Name "ValueError" p2) X.env)::starEach [] X.env:=by rfl)
  (hpl:(backTo pos (starEach [.Name "ValueError" p2] X.env)).any (·.1)=false:=by rfl) (hg:Gl X "isinstance":=by rfl) (hgd:Gl X "ValueError":=by rfl) {pi:Pos}:DE X (.Call (.Name "isinstance" pi) [.Name x p,.Name "ValueError" p2] [] pos) (b5y L i):=⟨fun pins s σ H Q I ⟨ρ,r,H0,G₀,G,e,R,q⟩=>by
 have hc:dU X (.builtin "isinstance") (fun xs H Q=>∃ a C c,xs=[.ref a,.ty "ValueError"]∧c∈L∧fR X.K c=some C∧H a=some (xcO a C)∧Q (.bl true) H):=by
  intro pins s σ H xs us Q I r ⟨a,C,c,e1,hcn,hC,hH,q⟩
  subst e1
  obtain ⟨u,w',rfl,r1,r2⟩:=vals2 r
  cases r1;cases r2
  obtain ⟨⟨ox,xo⟩,_⟩:=I.hok a _ hH
  obtain ⟨C',hC',xC,_,sV⟩:=F.one hcn
  rw [hC] at hC';cases hC'
  exact b4d I.kIn xo b6o sV ⟨.bl true,H,I,rfl,q⟩
 refine rH hc hg hm boot_isinstance (eE (gZ hN hv hd hcd) (eE (a6e (v:=.ty "ValueError") hgd hmV (by decide +kernel) rfl (by decide) (by decide)) iX he2) he) (by decide) (by decide) he hpl pins s σ H Q I ?_
 unfold b5y at e
 split at e
 ·rename_i c hi
  split at e
  ·rename_i hcn
   cases (qA e)
   obtain ⟨o,eo,a,C,rfl,hC,hH⟩:=R.at hi
   exact ⟨_,eo,a,C,c,rfl,by simpa using hcn,hC,hH,q _ G H (.refl R.sub) (.bool _)⟩
  ·cases e
 ·cases e⟩
def dE:List Str:=["NoBack", "NoMeeting", "NoSheet", "NoText", "NoTime", "NoZone", "Taken", "TooMany"]
end
end L2.L3
namespace L2
open PySem PySem.Spec PyProof.Rows
section
variable (P:Program) (w:World)
end
section
variable {P:Program} {w:World} {H H':Hp} {h h':Heap} {a:Addr} {o:HO}
end
section
variable {P:Program} {w:World} {H:Hp} {h h':Heap} {x e:Addr} {o':HO}
end
section
variable {fs fs' ex ex':List Addr} {H H1 H2:Hp} {h h1 h2 h':Heap} {a x e:Addr} {o:HO}
end
section
variable {X:Cx} {pins:List (Addr×Obj)} {σ:List (Option V)} {H H':Hp} {s:Shared} {h':Heap}
end
section
variable {X:Cx}
variable {a b:Expr} {ta tb:TE} {pos:Pos}
variable {tA tB':TT} {rest:List Expr}
end
section
variable {X:Cx} {pins:List (Addr×Obj)} {σ:St} {H:Hp} {s:Shared} {a:Addr} {xs ys:List V}
end
section
variable {X:Cx} {pins:List (Addr×Obj)} {σ:St} {H:Hp} {s:Shared} {E:Value→Shared→Prop}
end
section
variable {X:Cx} {st:Stmt} {rest:List Stmt} {t u:TS} {e:Expr} {te:TE} {pos:Pos}
end
section
variable {X:Cx} {pos:Pos}
end
section
variable {X:Cx} {pos:Pos}
end
section
variable {X:Cx} {tg:Expr}
end
section
variable {X:Cx} {a b c:Expr} {ta tb tc:TE} {pos:Pos}
end
section
variable {X:Cx} {a b c:Expr} {ta tb tc:TE} {pos:Pos}
end
section
variable {prog:Program} {w:World} {A:Around} {E:Value→Shared→Prop} {s:Shared} {K:qB} {x dx C f:Addr} {mA:Str→Option Value} {name:Str} {v:Value}
end
section
variable {P:Program} {w:World} {H H':Hp} {h h':Heap} {a C dx:Addr} {fs fs':List (Str×V)}
end
section
variable {X:Cx} {pins:List (Addr×Obj)} {σ:St} {H:Hp} {s:Shared} {a C dx:Addr} {fs:List (Str×V)} {f:Str} {v:V} {A:Around} {E:Value→Shared→Prop}
end
section
variable {X:Cx} {o e value:Expr} {f:Str} {pos pos' tpos:Pos} {ta tv:TE}
end
section
variable {X:Cx} {pins:List (Addr×Obj)} {σ:St} {H:Hp} {s:Shared} {A:Around} {E:Value→Shared→Prop} {Q:Value→Shared→Prop} {c:Value} {b:Bool}
end
section
variable {X:Cx} {e:Expr} {es:List Expr} {te:TE} {t:TA} {pos:Pos}
end
section
variable {X:Cx} {pins:List (Addr×Obj)} {σ:St} {H:Hp} {s s':Shared}
end
section
variable {X:Cx} {CX:CXT} {k:Nat} {f C:Addr} {fd:FuncData} {ps:List Str} {sp:Sp} {dvs:List V} {ds:List Value} {E:XK} {x m:Str} {p pos apos:Pos} {e o:Expr} {es:List Expr} {ta:TE} {t:TA}
end
section
variable {X:Cx} {CX:CXT} {k:Nat} {f C:Addr} {fd:FuncData} {ps ks:List Str} {sp:Sp} {E:XK} {x m:Str} {p pos apos kpos:Pos} {e o:Expr} {es:List Expr} {kws:List Keyword} {te ta:TE} {t tk:TA} {nm:Option Str}
variable {g:List Value→List Value→List Value} {gV:List V→List V→List V}
end
section
variable {X:Cx} {x:Str} {p pos:Pos} {e:Expr} {es:List Expr} {t:TA} {id T:String} {r:List V→Hp→VK→Prop}
end
section
variable {κ:Type} [DecidableEq κ]
def lU (kvs:List (κ×V)) (k:κ):Option V:=(kvs.find? fun kv=>decide (kv.1=k)).map (·.2)
def putK (kvs:List (κ×V)) (k:κ) (v:V):List (κ×V):=
 if (kvs.any fun kv=>decide (kv.1=k))=true then kvs.map (fun kv=>if kv.1=k then (kv.1,v) else kv) else kvs++[(k,v)]
def yU (kvs:List (κ×V)) (k:κ):List (κ×V):=kvs.filter fun kv=>decide (kv.1≠k)
theorem pX {p:κ×V} {r:List (κ×V)} {k:κ} (e:p.1=k):lU (p::r) k=some p.2:=by simp [lU,kK,e]
theorem pY {p:κ×V} {r:List (κ×V)} {k:κ} (e:¬p.1=k):lU (p::r) k=lU r k:=by simp [lU,kK,e]
theorem a2U (k:κ):∀ kvs:List (κ×V),(kvs.any fun kv=>decide (kv.1=k))=(lU kvs k).isSome
 | []=>rfl
 | p::r=>by
  rw [jk]
  by_cases e:p.1=k
  ·simp only [pX e,decide_eq_true e,Bool.true_or,Option.isSome_some]
  ·rw [pY e,decide_eq_false e,Bool.false_or];exact a2U k r
theorem uV (kvs:List (κ×V)) (k:κ) (v:V):(putK kvs k v).length≤kvs.length+1:=by
 unfold putK
 split
 ·rw [qD];omega
 ·rw [jA,qi,List.length_nil];omega
theorem uM.isSome_eq {o:Option V} {u:Option Value} (r:uM o u):o.isSome=u.isSome:=by
 cases o with
 | none=>cases u with
  | none=>rfl
  | some _=>exact (show False from r).elim
 | some _=>cases u with
  | none=>exact (show False from r).elim
  | some _=>rfl
theorem KV.val {kvs:List (κ×V)} {vs:List (κ×Value)} (r:KV kvs vs) (k:κ):uM (lU kvs k) (valueAt vs k):=by
 unfold KV at r
 induction r with
 | nil=>exact kW
 | @cons p q ps qs h t ih=>
  obtain ⟨h1,h2⟩:=h
  by_cases e:p.1=k
  ·have e':q.1=k:=h1.symm.trans e
   have b:valueAt (q::qs) k=some q.2:=by simp [valueAt,kK,e']
   rw [pX e,b];exact h2
  ·have e':¬q.1=k:=fun z=>e (h1.trans z)
   have b:valueAt (q::qs) k=valueAt qs k:=by simp [valueAt,kK,e']
   rw [pY e,b];exact ih
theorem KV.any {kvs:List (κ×V)} {vs:List (κ×Value)} (r:KV kvs vs) (k:κ):(kvs.any fun kv=>decide (kv.1=k))=vs.any fun kv=>decide (kv.1=k):=by
 unfold KV at r
 induction r with
 | nil=>rfl
 | cons h t ih=>rw [jk,jk,ih,h.1]
theorem KV.repl {kvs:List (κ×V)} {vs:List (κ×Value)} (r:KV kvs vs) (k:κ) {y:V} {u:Value} (ry:RelV y u) :
  KV (kvs.map fun kv=>if kv.1=k then (kv.1,y) else kv) (vs.map fun kv=>if kv.1=k then (kv.1,u) else kv):=by
 unfold KV at r ⊢
 induction r with
 | nil=>exact .nil
 | @cons p q ps qs h t ih=>
  rw [qG,qG]
  refine .cons ?_ ih
  obtain ⟨h1,h2⟩:=h
  by_cases e:p.1=k
  ·rw [if_pos e,if_pos (h1.symm.trans e)];exact ⟨h1,ry⟩
  ·rw [if_neg e,if_neg (fun z=>e (h1.trans z))];exact ⟨h1,h2⟩
theorem KV.put {kvs:List (κ×V)} {vs:List (κ×Value)} (r:KV kvs vs) (k:κ) {y:V} {u:Value} (ry:RelV y u):KV (putK kvs k y) (stored vs k u):=by
 unfold putK stored
 rw [r.any k]
 by_cases e:(vs.any fun kv=>decide (kv.1=k))=true
 ·rw [if_pos e,if_pos e];exact r.repl k ry
 ·rw [if_neg e,if_neg e];exact Paired.snoc r ⟨rfl,ry⟩
theorem KV.drop {kvs:List (κ×V)} {vs:List (κ×Value)} (r:KV kvs vs) (k:κ):KV (yU kvs k) (without vs k):=by
 unfold KV at r ⊢
 unfold yU without
 induction r with
 | nil=>exact .nil
 | @cons p q ps qs h t ih=>
  obtain ⟨h1,h2⟩:=h
  rw [zJ,zJ]
  by_cases e:p.1=k
  ·have a:¬decide (p.1≠k)=true:=by simp [e]
   have b:¬decide (q.1≠k)=true:=by simp [h1.symm.trans e]
   rw [if_neg a,if_neg b];exact ih
  ·have e':¬q.1=k:=fun z=>e (h1.trans z)
   have a:decide (p.1≠k)=true:=by simp [e]
   have b:decide (q.1≠k)=true:=by simp [e']
   rw [if_pos a,if_pos b];exact .cons ⟨h1,h2⟩ ih
theorem KV.length {kvs:List (κ×V)} {vs:List (κ×Value)} (r:KV kvs vs):kvs.length=vs.length:=Paired.length r
theorem b0V (kvs:List (κ×V)) (k:κ):(yU kvs k).length≤kvs.length:=kJ _ _
end
theorem a1l {P:Program} {w:World} {k:Key} {u:Value} (r:RelV (kV k) u):(bF P w).is k u=true:=by
 cases k with
 | inl i=>obtain ⟨t,e⟩:=(show ∃ t,u=vb i t from r);subst e;exact uU P w i t
 | inr x=>obtain ⟨t,e⟩:=(show ∃ t,u=va x t from r);subst e;exact uT P w x t
theorem a1m {P:Program} {w:World}:∀ {ks:List Key} {us:List Value},aX (ks.map kV) us→ItemsAre (bF P w) ks us
 | [],_,r=>by rw [List.map_nil] at r;cases r;exact .nil
 | k::ks,_,r=>by
  rw [qG] at r
  cases r with
  | cons h t=>exact .cons (a1l h) (a1m t)
abbrev KT (H:Hp):List (List Key×V)→List (List Key×Addr×Value)→Prop:=Paired fun p q=>p.1=q.1∧H q.2.1=some (.tup (p.1.map kV))∧RelV p.2 q.2.2
theorem KT.val {H:Hp} {kvs:List (List Key×V)} {xs:List (List Key×Addr×Value)} (r:KT H kvs xs) (k:List Key):uM (lU kvs k) ((atKey xs k).map (·.2)):=by
 induction r with
 | nil=>exact kW
 | @cons p q ps qs h t ih=>
  obtain ⟨h1,_,h2⟩:=h
  by_cases e:p.1=k
  ·have e':q.1=k:=h1.symm.trans e
   have b:atKey (q::qs) k=some q.2:=by simp [atKey,kK,e']
   rw [pX e,b];exact h2
  ·have e':¬q.1=k:=fun z=>e (h1.trans z)
   have b:atKey (q::qs) k=atKey qs k:=by simp [atKey,kK,e']
   rw [pY e,b];exact ih
theorem KT.repl {H:Hp} {kvs:List (List Key×V)} {xs:List (List Key×Addr×Value)} (r:KT H kvs xs) (k:List Key) {y:V} {u:Value} (ry:RelV y u) :
  KT H (kvs.map fun kv=>if kv.1=k then (kv.1,y) else kv) (xs.map (putAt k u)):=by
 induction r with
 | nil=>exact .nil
 | @cons p q ps qs h t ih=>
  rw [qG,qG]
  refine .cons ?_ ih
  obtain ⟨h1,h2,h3⟩:=h
  unfold putAt
  by_cases e:p.1=k
  ·rw [if_pos e,if_pos (h1.symm.trans e)];exact ⟨h1,h2,ry⟩
  ·rw [if_neg e,if_neg (fun z=>e (h1.trans z))];exact ⟨h1,h2,h3⟩
theorem KT.put {H:Hp} {kvs:List (List Key×V)} {xs:List (List Key×Addr×Value)} (r:KT H kvs xs) (k:List Key) {b:Addr} {y:V} {u:Value} (hb:H b=some (.tup (k.map kV))) (ry:RelV y u) :
  KT H (putK kvs k y) (storedH xs k b u):=by
 have e:(kvs.any fun kv=>decide (kv.1=k))=(atKey xs k).isSome:=by
  rw [a2U,(r.val k).isSome_eq,vn]
 unfold putK storedH
 rw [e]
 by_cases q:(atKey xs k).isSome=true
 ·rw [if_pos q,if_pos q];exact r.repl k ry
 ·rw [if_neg q,if_neg q];exact Paired.snoc r ⟨rfl,hb,ry⟩
theorem KT.keeps {H H':Hp} {kvs:List (List Key×V)} {xs:List (List Key×Addr×Value)} (r:KT H kvs xs) (ht:∀ b ys,H b=some (.tup ys)→H' b=some (.tup ys)):KT H' kvs xs:=
 Paired.mapP r fun _ _ z=>⟨z.1,ht _ _ z.2.1,z.2.2⟩
section
variable {P:Program} {w:World} {H:Hp} {h:Heap} {a:Addr}
theorem b3L {u:HO} (ok:HOk P w H h) (e:Rd H a u):bY P w H h a u:=e.ok ok
theorem a6O {kvs:List (Key×V)} (ok:HOk P w H h) (e:Rd H a (.dK kvs)):kvs.length≤sizeLine∧(a==sysModules)=false∧∃ vs,KV kvs vs∧h.DictOf (bF P w) a vs:=
 show bY P w H h a (.dK kvs) from b3L ok e
theorem a3Q {kvs:List (Key×V)} (ok:HOk P w H h) (e:H a=some (.dK kvs)):kvs.length≤sizeLine∧(a==sysModules)=false∧∃ vs,KV kvs vs∧h.DictOf (bF P w) a vs:=a6O ok (.inl e)
theorem a2o {ks:List Key} (ok:HOk P w H h) (e:H a=some (.tup (ks.map kV))):(tupleKind (bF P w)).is h ks a:=by
 obtain ⟨_,its,r,o,h1,h2,n,h3⟩:=(show bY P w H h a (.tup (ks.map kV)) from ok a _ e)
 exact ⟨o,its.toArray,n,h1,h2,h3,by simpa using a1m r⟩
theorem a6L {kvs:List (List Key×V)} (ok:HOk P w H h) (e:Rd H a (.dT kvs)):kvs.length≤sizeLine∧(a==sysModules)=false ∧
  ∃ xs,KT H kvs xs∧h.DictOfH (tupleKind (bF P w)) a xs:=by
 obtain ⟨z,y,xs,r,o,es,ep,h1,h2,h3,h4,h5⟩:=(show bY P w H h a (.dT kvs) from b3L ok e)
 refine ⟨z,y,xs,r,o,es,ep,h1,h2,h3,h4,fun x hx=>?_,h5⟩
 have all:∀ {l:List (List Key×V)} {m:List (List Key×Addr×Value)},KT H l m→∀ x∈m,(tupleKind (bF P w)).is h x.1 x.2.1:=by
  intro l m q
  induction q with
  | nil=>intro x hx;exact nomatch hx
  | @cons p q ps qs hq t ih=>
   intro x hx
   rcases qF.mp hx with e | hx
   ·subst e
    exact a2o ok (by rw [←hq.1];exact hq.2.1)
   ·exact ih x hx
 exact all r x hx
theorem b7r {kvs:List (List Key×V)} (ok:HOk P w H h) (e:H a=some (.dT kvs)):kvs.length≤sizeLine∧(a==sysModules)=false ∧
  ∃ xs,KT H kvs xs∧h.DictOfH (tupleKind (bF P w)) a xs:=a6L ok (.inl e)
end
def b3F (H:Hp) (a:Addr) (y:V) (r:Option V):Prop:=
 (∃ kvs k,Rd H a (.dK kvs)∧y=kV k∧r=lU kvs k)∨∃ kvs k b,Rd H a (.dT kvs)∧y=.ref b∧H b=some (.tup (k.map kV))∧r=lU kvs k
def b7A (H:Hp) (a:Addr) (y v:V) (H':Hp):Prop:=
 (∃ kvs k,H a=some (.dK kvs)∧y=kV k∧kvs.length<sizeLine∧H'=upd H a (.dK (putK kvs k v))) ∨
 ∃ kvs k b,H a=some (.dT kvs)∧y=.ref b∧H b=some (.tup (k.map kV))∧kvs.length<sizeLine∧H'=upd H a (.dT (putK kvs k v))
section
variable {X:Cx} {pins:List (Addr×Obj)} {σ:St} {H:Hp} {s:Shared} {a:Addr} {y v:V} {u r:Value} {o:Option V} {A:Around} {E:Value→Shared→Prop}
theorem b8C {Q:Value→Shared→Prop} (hu:A.units+1<cLine) (I:Inv X pins σ H s) (g:b3F H a y o) (ry:RelV y u) (h:∀ s',Inv X pins σ H s'→Q (.bool o.isSome) s') :
  wpAny (model X.prog X.w) A (compareOp .In u (.ref a)) Q E s:=by
 rcases g with ⟨kvs,k,e,ey,l⟩ | ⟨kvs,k,b,e,ey,eb,l⟩
 ·subst ey
  obtain ⟨z,hd,vs,rel,dd⟩:=a6O I.hok e
  refine wpAny_in_of (a1l ry) hd dd.mapOf ?_
  rw [←(rel.val k).isSome_eq,←l]
  exact h _ (I.tok _)
 ·subst ey
  cases (show u=qy b from ry)
  obtain ⟨z,hd,xs,rel,dd⟩:=a6L I.hok e
  refine wpAny_in_heap (tupleKind_room_in1 hu) (a2o I.hok eb) hd dd ?_
  have q:=(rel.val k).isSome_eq
  rw [vn] at q
  rw [←q,←l]
  exact h _ (I.tok _)
theorem b3k {Q:Value→Shared→Prop} (hu:A.units+1<cLine) (I:Inv X pins σ H s) (g:b3F H a y o) (ry:RelV y u) (h:∀ s',Inv X pins σ H s'→Q (.bool (!o.isSome)) s') :
  wpAny (model X.prog X.w) A (compareOp .NotIn u (.ref a)) Q E s:=by
 rcases g with ⟨kvs,k,e,ey,l⟩ | ⟨kvs,k,b,e,ey,eb,l⟩
 ·subst ey
  obtain ⟨z,hd,vs,rel,dd⟩:=a6O I.hok e
  refine wpAny_notIn_of (a1l ry) hd dd.mapOf ?_
  rw [←(rel.val k).isSome_eq,←l]
  exact h _ (I.tok _)
 ·subst ey
  cases (show u=qy b from ry)
  obtain ⟨z,hd,xs,rel,dd⟩:=a6L I.hok e
  refine wpAny_notIn_heap (tupleKind_room_in1 hu) (a2o I.hok eb) hd dd ?_
  have q:=(rel.val k).isSome_eq
  rw [vn] at q
  rw [←q,←l]
  exact h _ (I.tok _)
theorem a2B {h':Heap} {t':Nat} {ob:HO} (I:Inv X pins σ H s) (mu:Mut (H a)) (hs:km a s.heap h') (he:∃ q,h'.get? a=some q) (new:bY X.prog X.w (upd H a ob) h' a ob) :
  Inv X pins σ (upd H a ob) { s with heap:=h',toks:=t' }:=
 I.write (x:=a) (e:=a) mu (.inl rfl) (fun b q hb z=>(hs.2 b hb).trans z) he new
theorem b0Y {P:Program} {w:World} {H':Hp} {h':Heap} {kvs:List (Key×V)} {vs:List (Key×Value)} (z:kvs.length≤sizeLine) (hd:(a==sysModules)=false) (rel:KV kvs vs) (dd:h'.DictOf (bF P w) a vs) :
  bY P w H' h' a (.dK kvs):=⟨z,hd,vs,rel,dd⟩
theorem a8h {H':Hp} {Q:Unit→Shared→Prop} (hu:A.units+1<cLine) (I:Inv X pins σ H s) (g:b7A H a y v H') (ry:RelV y u) (rv:RelV v r) (h:∀ s',Inv X pins σ H' s'→Q () s') :
  wpAny (model X.prog X.w) A (setItem (.ref a) u r) Q E s:=by
 rcases g with ⟨kvs,k,e,ey,l,eH⟩ | ⟨kvs,k,b,e,ey,eb,l,eH⟩
 ·subst ey eH
  obtain ⟨z,hd,vs,rel,dd⟩:=a3Q I.hok e
  have hz:vs.length≤sizeLine:=by rw [←rel.length];exact z
  have hl:(putK kvs k v).length≤sizeLine:=by have:=uV kvs k v;omega
  refine wpAny_setItem_pairs (hsz:=hz) (a1l ry) dd fun h' dd' hs=>h _ ?_
  have he:∃ q,h'.get? a=some q:=let ⟨q,_,_,hq,_⟩:=dd';⟨q,hq⟩
  exact a2B I (by rw [e];exact kW) hs he (b0Y hl hd (rel.put k rv) dd')
 ·subst ey eH
  cases (show u=qy b from ry)
  obtain ⟨z,hd,xs,rel,dd⟩:=b7r I.hok e
  have hz:xs.length≤sizeLine:=by rw [←Paired.length rel];exact z
  have hl:(putK kvs k v).length≤sizeLine:=by have:=uV kvs k v;omega
  refine wpAny_setItem_heap (hsz:=hz) (tupleKind_room_in1 hu) (a2o I.hok eb) dd fun h' dd' hs=>h _ ?_
  obtain ⟨q,es,ep,hq,h2,h3,h4,_,h5⟩:=dd'
  refine a2B I (by rw [e];exact kW) hs ⟨q,hq⟩ ⟨hl,hd,_,(rel.put k eb rv).keeps fun c ys ec=>?_,q,es,ep,hq,h2,h3,h4,h5⟩
  rw [aH (eV ec e (fun z=>nomatch z))]
  exact ec
end
section
variable {X:Cx} {pins:List (Addr×Obj)} {σ:St} {H:Hp} {s:Shared} {a:Addr} {kvs:List (Key×V)} {k:Key} {u:Value} {A:Around} {E:Value→Shared→Prop}
theorem b7v {v:V} {more:List Value} {Q:Value→Shared→Prop} (I:Inv X pins σ H s) (e:H a=some (.dK kvs)) (ry:RelV (kV k) u) (l:lU kvs k=some v) (hm:more=[]∨∃ x,more=[x])
  (h:∀ w' s',Inv X pins σ (upd H a (.dK (yU kvs k))) s'→RelV v w'→Q w' s'):wpAny (model X.prog X.w) A (call (.builtin "dict.pop") (.ref a::u::more)) Q E s:=by
 obtain ⟨z,hd,vs,rel,dd⟩:=a3Q I.hok e
 obtain ⟨w',hw,rw'⟩:=uM.some_of (v:=v) (o:=valueAt vs k) (by rw [←l];exact rel.val k)
 have hp:(keyPart u).isSome=true:=by
  cases k with
  | inl i=>obtain ⟨t,q⟩:=(show ∃ t,u=vb i t from ry);subst q;rfl
  | inr x=>obtain ⟨t,q⟩:=(show ∃ t,u=va x t from ry);subst q;rfl
 have ha:argsOk "dict.pop" ⟨.ref a::u::more,[]⟩:=by
  rcases hm with q | ⟨x,q⟩
  ·subst q;exact PySem.F.args_dict_pop_2 _ _
  ·subst q;exact PySem.F.args_dict_pop_3 _ _ _
 refine call_meetsIn vI dd.typeIs PySem.F.entry_dict_pop ha (meets_dict_pop_there (bF X.prog X.w) a (a1l ry) more hm hp)
  ⟨vs,w',dd,by rw [←rel.length];exact z,hw,fun h' dd' hs=>h w' _ ?_ rw'⟩
 have he:∃ q,h'.get? a=some q:=let ⟨q,_,_,hq,_⟩:=dd';⟨q,hq⟩
 exact a2B I (by rw [e];exact kW) hs he (b0Y (ql (b0V kvs k) z) hd (rel.drop k) dd')
theorem b5U {r:Value} {Q:Value→Shared→Prop} (I:Inv X pins σ H s) (e:H a=some (.dK kvs)) (ry:RelV (kV k) u) (l:lU kvs k=none) (h:∀ s',Inv X pins σ H s'→Q r s') :
  wpAny (model X.prog X.w) A (call (.builtin "dict.pop") [.ref a,u,r]) Q E s:=by
 obtain ⟨z,hd,vs,rel,dd⟩:=a3Q I.hok e
 have hn:valueAt vs k=none:=uM.none_of (by rw [←l];exact rel.val k)
 have hp:(keyPart u).isSome=true:=by
  cases k with
  | inl i=>obtain ⟨t,q⟩:=(show ∃ t,u=vb i t from ry);subst q;rfl
  | inr x=>obtain ⟨t,q⟩:=(show ∃ t,u=va x t from ry);subst q;rfl
 exact call_meetsIn vI dd.typeIs PySem.F.entry_dict_pop (PySem.F.args_dict_pop_3 _ _ _) (meets_dict_pop_default (bF X.prog X.w) a (a1l ry) hd hp r) ⟨vs,dd,hn,h _ (I.tok _)⟩
end
def b7V (ty td:TE):TE:=fun σ H Q=>ty σ H fun y H1=>td σ H1 fun x H2=>∃ a o,x=.ref a∧b3F H2 a y o∧Q (.bl o.isSome) H2
def b1H (ty td:TE):TE:=fun σ H Q=>ty σ H fun y H1=>td σ H1 fun x H2=>∃ a o,x=.ref a∧b3F H2 a y o∧Q (.bl (!o.isSome)) H2
def b6B (td ty tv:TE):TS:=fun D σ H=>tv σ H fun v H1=>td σ H1 fun x H2=>ty σ H2 fun y H3=>∃ a H4,x=.ref a∧b7A H3 a y v H4∧D.nx σ H4
section
variable {X:Cx} {o i e value:Expr} {pos pos' tpos:Pos} {td ty tv:TE}
theorem b4R (hu:X.A.units+1<cLine) (hi:PE X i ty) (ho:PE X o td):PC X .In i o (b7V ty td):=by
 intro pins s σ H Q I h
 refine thn (hi pins s σ H _ I h) fun iv s1 ⟨y,H1,I1,ry,q1⟩=>thn (ho pins s1 σ H1 _ I1 q1) fun u s2 ⟨x,H2,I2,rx,a,ov,ex,g,q2⟩=>?_
 subst ex
 obtain rfl:u=qy a:=rx
 exact b8C hu I2 g ry fun s3 I3=>⟨.bl ov.isSome,H2,I3,rfl,q2⟩
theorem a7B (hu:X.A.units+1<cLine) (hi:PE X i ty) (ho:PE X o td):PC X .NotIn i o (b1H ty td):=by
 intro pins s σ H Q I h
 refine thn (hi pins s σ H _ I h) fun iv s1 ⟨y,H1,I1,ry,q1⟩=>thn (ho pins s1 σ H1 _ I1 q1) fun u s2 ⟨x,H2,I2,rx,a,ov,ex,g,q2⟩=>?_
 subst ex
 obtain rfl:u=qy a:=rx
 exact b3k hu I2 g ry fun s3 I3=>⟨.bl (!ov.isSome),H2,I3,rfl,q2⟩
theorem b2a (hu:X.A.units+1<cLine) (ho:PE X o td) (hi:PE X i ty) (hv:PE X value tv) (hs:swapsWith value (some (.Subscript o i pos')) pos.line X.env=pure false) :
  PS X (.Assign [.Subscript o i pos'] value pos) (b6B td ty tv):=by
 intro pins s σ H D I h
 refine wpAny_Assign_Subscript (thn (hv pins s σ H _ I h) fun r s1 ⟨v,H1,I1,rv,q1⟩=>thn (ho pins s1 σ H1 _ I1 q1) fun u s2 ⟨x,H2,I2,rx,q2⟩=>thn (hi pins s2 σ H2 _ I2 q2) fun iv s3 ⟨y,H3,I3,ry,a,H4,ex,g,q3⟩=>?_) hs
 subst ex
 obtain rfl:u=qy a:=rx
 exact a8h hu I3 g ry rv fun s4 I4=>⟨σ,H4,I4,q3⟩
end
section
variable {X:Cx} {pos:Pos}
end
structure M2 (X:Cx) (o:Expr) (m:Str) (apos:Pos) (e f:Expr) (cpos:Pos):Prop where
 base:attributeBase o m X.env (eval o X.env)=eval o X.env
 few:((backTo cpos (starEach [e,f] X.env)).all (fun x=>!x.1)&&(backToKw cpos (keywordEach [] X.env)).all (fun x=>x.1.isSome)
  && decide (([e,f]:List Expr).length+([]:List Keyword).length+(if ([]:List Keyword).isEmpty then 0 else 1)<30))=true
 line:(apos.endLine==cpos.line)=true
 trees:backTo cpos (starEach [e,f] X.env)=[(false,eval e X.env),(false,eval f X.env)]
def IsD (H:Hp) (a:Addr):Prop:=(∃ kvs,Rd H a (.dK kvs))∨∃ kvs,Rd H a (.dT kvs)
theorem b0t {X:Cx} {pins:List (Addr×Obj)} {σ:St} {H:Hp} {s:Shared} {a:Addr} (I:Inv X pins σ H s) (d:IsD H a) :
  s.TypeIs (.ref a) "dict" ∧ (∀ b,qy a=.ref b→∃ ob,s.heap.get? b=some ob∧ob.dict=none)∧(a==sysModules)=false:=by
 rcases d with ⟨kvs,e⟩ | ⟨kvs,e⟩
 ·obtain ⟨_,hd,vs,_,dd⟩:=a6O I.hok e
  refine ⟨dd.typeIs,fun b q=>?_,hd⟩
  cases q
  obtain ⟨ob,_,_,h1,h2,_⟩:=dd
  exact ⟨ob,h1,h2.2.1⟩
 ·obtain ⟨_,hd,xs,_,dd⟩:=a6L I.hok e
  refine ⟨dd.typeIs,fun b q=>?_,hd⟩
  cases q
  obtain ⟨ob,_,_,h1,h2,_⟩:=dd
  exact ⟨ob,h1,h2.2.1⟩
section
variable {X:Cx} {pins:List (Addr×Obj)} {σ:St} {H:Hp} {s:Shared} {a:Addr} {y d:V} {u r:Value} {o:Option V} {A:Around} {E:Value→Shared→Prop}
end
def b4q (td ty tx:TE):TE:=fun σ H Q=>td σ H fun x H1=>∃ a,x=.ref a∧IsD H1 a∧ty σ H1 fun y H2=>tx σ H2 fun z H3=>∃ kvs k,H3 a=some (.dK kvs)∧y=kV k ∧
 (∀ v,lU kvs k=some v→Q v (upd H3 a (.dK (yU kvs k))))∧(lU kvs k=none→Q z H3)
section
variable {X:Cx} {o e f:Expr} {apos cpos:Pos} {td ty tx:TE}
theorem a9z (ho:PE X o td) (he:PE X e ty) (hf:PE X f tx) (m:M2 X o "pop" apos e f cpos):PE X (.Call (.Attribute o "pop" apos) [e,f] [] cpos) (b4q td ty tx):=by
 intro pins s σ H Q I h
 refine wpAny_Call_method m.base m.few m.line PySem.F.plainAttrs_dict vI PySem.F.type_dict_pop (thn (ho pins s σ H _ I h) fun u s1 ⟨x,H1,I1,rx,a,ex,d,q1⟩=>?_)
 subst ex
 obtain rfl:u=qy a:=rx
 obtain ⟨t1,t2,_⟩:=b0t I1 d
 refine ⟨t1,t2,?_⟩
 rw [m.trees]
 refine vZ rfl (vq (kQ (thn (he pins s1 σ H1 _ I1 q1) fun iv s2 ⟨y,H2,I2,ry,q2⟩=>
  kQ (thn (hf pins s2 σ H2 _ I2 q2) fun fv s3 ⟨z,H3,I3,rz,kvs,k,ea,ey,q3,q4⟩=>kU ?_))))
 subst ey
 cases l:lU kvs k with
 | some v=>exact b7v I3 ea ry l (.inr ⟨fv,rfl⟩) fun w' s4 I4 rw'=>⟨v,_,I4,rw',q3 v l⟩
 | none=>exact b5U I3 ea ry l fun s4 I4=>⟨z,H3,I4,rz,q4 l⟩
end
section
variable {X:Cx} {pins:List (Addr×Obj)} {σ:St} {H:Hp} {s:Shared} {a:Addr} {kvs:List (Key×V)} {A:Around} {E:Value→Shared→Prop}
end
section
variable {X:Cx} {pins:List (Addr×Obj)} {σ:St} {H:Hp} {s:Shared} {a:Addr} {y:V} {u:Value} {A:Around} {E:Value→Shared→Prop}
end
end L2
namespace Att
open PySem PySem.W PySem.Calls PyProof.Rows
section
variable {prog:Program} {w:World} {A:Around} {E:Value→Shared→Prop} {s:Shared} {K:Frag}
end
end Att
namespace L2
open PySem PySem.Spec PyProof.Rows
section
variable {P:Program} {w:World} {K:qB} {mg:Str→Option Value} {base:Heap}
end
section
variable {X:Cx}
end
section
variable {κ:Type} [DecidableEq κ]
end
end L2
namespace L2.L3
open PySem PySem.Spec PyProof.Rows
def a2f (i:Nat) (fa fb:EF):SF:=fun ρ=>match fa (frzAll ρ),fb (frzAll ρ) with
 | some (.ok (.list a)),some (.ok (.list b))=>if (a++b).all xO&&fK (a.length+b.length) then some (.nx (ρ.set i (.lst (a++b)))) else none
 | _,_=>none
section
variable {X:Cx} {e a b:Expr} {fa fb:EF} {pos p p2 p3:Pos}
theorem a1v (i:Nat) {x:Str} (hN:X.N.Nodup) (ha:DE X a fa) (hb:DE X b fb)
  (hi:X.N[i]?=some x:=by rfl) (hx:Loc X.env.scope x:=by first | exact jx rfl | exact jX rfl)
  (hs:swapsWith (.BinOp a .Add b p2) (some (.Name x p)) pos.line X.env=pure false:=by rfl) (hf:X.fn x=true∨X.env.scope.names.lookup x=some .local:=by first | exact .inl rfl | exact .inr rfl) :
  DS X (.Assign [.Name x p] (.BinOp a .Add b p2) pos) (a2f i fa fb):=⟨fun pins s σ H D I ⟨ρ,o,H0,G₀,G,ef,R,q⟩=>a1W hN hi hx (b3N a6g ha.run hb.run) hs hf pins s σ H D I (by
 unfold a2f at ef
 split at ef
 ·rename_i da db ea eb
  split at ef
  ·rename_i hz
   rw [qJ] at hz
   cases (qA ef)
   obtain ⟨G',s',R'⟩:=R.frzAll
   refine ⟨_,_,H0,G₀,G',ea,R',fun v G1 H1 g1 rv=>⟨_,_,H0,G₀,G1,eb,R'.more g1,fun u G2 H2 g2 ru=>?_⟩⟩
   have gt:=g1.trans g2
   have rv2:=rv.mono g2.gg
   have g0:Grow G H G H2:=⟨.refl _,gt.hh,s'.trans (gt.gg.trans gt.sub),fun _ z _=>z,id⟩
   cases rv2 with
   | list h1 r1=>cases ru with
    | list h2 r2=>
     exact ⟨_,_,_,_,rfl,rfl,g2.sub.seq h1,g2.sub.seq h2,by rw [r1.length,r2.length];exact lE hz.2,fun l hl=>q G _ _ (.refl _) ((R.more g0).fresh hl (RepAll.plain hz.1 (r1.append r2)))⟩
  ·cases ef
 ·cases ef)⟩
end
def noD (i:Nat) (ρ:List Ent):Bool:=(qd ρ.length).all fun j=>j==i || (match ρ[j]? with | some (.dct _)=>false | _=>true)
theorem b5c {i:Nat} {ρ:List Ent} (h:noD i ρ=true):∀ (j:Nat) (ks:List (Key×PyData)),ρ[j]?=some (.dct ks)→j=i:=fun j ks hj=>by
 have:=jN.mp h j (kS.mpr (qS.mp hj).1)
 rw [hj] at this
 simpa using this
def oM (kvs:List (Key×PyData)) (k:Key) (d:PyData):List (Key×PyData):=
 if (kvs.any fun kv=>decide (kv.1=k))=true then kvs.map (fun kv=>if kv.1=k then (kv.1,d) else kv) else kvs++[(k,d)]
def a3o (i:Nat) (fk fv:EF):SF:=fun ρ=>match ρ[i]? with
 | some (.dct kvs)=>bns (fv ρ) ρ fun d=>bns (fk ρ) ρ fun k=>(match a2C k with
  | some k=>if fK kvs.length then some (.nx (ρ.set i (.dct (oM kvs k d)))) else none
  | none=>none)
 | _=>none
theorem a4h {β γ:Type} {k:Key}:∀ {vs:List (Key×β)} {kvs:List (Key×γ)},vs.map (·.1)=kvs.map (·.1)→(vs.any fun kv=>decide (kv.1=k))=kvs.any fun kv=>decide (kv.1=k)
 | [],[],_=>rfl
 | [],_::_,h=>by simp at h
 | _::_,[],h=>by simp at h
 | a::vs,b::kvs,h=>by
  rw [qG,qG,zW] at h
  rw [jk,jk,a4h h.2,h.1]
theorem dD.repl {K:qB} {G:Hp} {k:Key} {v:V} {d:PyData} (r:Rep K G v d):∀ {vs:List (Key×V)} {kvs:List (Key×PyData)},dD K G vs kvs→dD K G (vs.map fun kv=>if kv.1=k then (kv.1,v) else kv) (kvs.map fun kv=>if kv.1=k then (kv.1,d) else kv)
 | [],[],h=>h
 | [],_::_,h=>by have:=h.1;simp at this
 | _::_,[],h=>by have:=h.1;simp at this
 | a::vs,b::kvs,⟨h1,h2⟩=>by
  rw [qG,qG,zW] at h1
  rw [qG,qG] at h2
  cases h2 with
  | cons ra rr=>
   obtain ⟨i1,i2⟩:=dD.repl (k:=k) r (vs:=vs) (kvs:=kvs) ⟨h1.2,rr⟩
   by_cases c:b.1=k
   ·have c':a.1=k:=h1.1.trans c
    refine ⟨?_,?_⟩
    ·simp only [qG,if_pos c,if_pos c',i1,h1.1]
    ·simp only [qG,if_pos c,if_pos c']
     exact .cons r i2
   ·have c':¬a.1=k:=fun z=>c (h1.1.symm.trans z)
    refine ⟨?_,?_⟩
    ·simp only [qG,if_neg c,if_neg c',i1,h1.1]
    ·simp only [qG,if_neg c,if_neg c']
     exact .cons ra i2
theorem dD.put {K:qB} {G:Hp} {k:Key} {v:V} {d:PyData} {vs:List (Key×V)} {kvs:List (Key×PyData)} (h:dD K G vs kvs) (r:Rep K G v d):dD K G (putK vs k v) (oM kvs k d):=by
 unfold putK oM
 rw [a4h h.1]
 split
 ·exact dD.repl r h
 ·refine ⟨by rw [qj,qj,h.1];rfl,?_⟩
  rw [qj,qj]
  exact h.2.append (.cons r .nil)
theorem dD.len {K:qB} {G:Hp} {vs:List (Key×V)} {kvs:List (Key×PyData)} (h:dD K G vs kvs):vs.length=kvs.length:=by
 have:=congrArg zV h.1
 simpa using this
section
variable {X:Cx} {a e kx o f:Expr} {fa fk fv fd fx:EF} {pos p p2:Pos}
theorem b3c (i:Nat) {x:Str} {xp kp:Pos} (hu:X.A.units+64<cLine) (hv:DE X e fv) (hk:DE X kx fk) (hN:X.N[i]?=some x:=by rfl)
  (hvi:Vis X.env.scope x:=by first | exact jx rfl | exact jX (jx rfl) | exact jX (jX rfl)) (hd:(x==("__debug__" : Str))=false:=by decide) (hcd:(x==("__classdict__" : Str))=false:=by decide)
  (hs:swapsWith e (some (.Subscript (.Name x xp) kx kp)) pos.line X.env=pure false:=by rfl) :
  DS X (.Assign [.Subscript (.Name x xp) kx kp] e pos) (a3o i fk fv):=⟨fun pins s σ H D I ⟨ρ,o,H0,G₀,G,ef,R,q⟩=>
 b2a (by omega) (gZ hN hvi hd hcd) hk.run hv.run hs pins s σ H D I (by
  unfold a3o at ef
  split at ef
  ·rename_i kvs hi
   obtain ⟨a,vs,e1,_⟩:=R.ownD hi
   refine sE R ef q fun d v G1 H1 g1 R1 rv e2 q1=>⟨.ref a,e1,sE R1 e2 q1 fun k u G2 H2 g2 R2 ru e3 q2=>?_⟩
   split at e3
   ·rename_i key hk'
    split at e3
    ·rename_i hz
     cases (qA e3)
     obtain ⟨a',vs',e1',h1,h2,h3,r⟩:=R2.ownD hi
     rw [e1] at e1';cases e1'
     rw [oI hk'] at ru
     cases oE ru
     exact ⟨a,_,rfl,.inl ⟨vs',key,h1,rfl,by rw [r.len];exact b3I hz,rfl⟩,q2 G2 _ σ (.refl _) (R2.wroteD hi e1 (r.put (rv.mono g2.gg)))⟩
    ·cases e3
   ·cases e3
  ·cases ef)⟩
end
theorem a0H {k:Key}:∀ kvs:List (Key×V),lU kvs k=oP k kvs
 | []=>rfl
 | p::r=>by
  unfold oP
  by_cases c:p.1=k
  ·rw [if_pos c,pX c]
  ·rw [if_neg c,pY c,a0H r]
theorem xY {k:Key}:∀ {kvs:List (Key×V)} {D:List (PyData×PyData)},D.map (·.1)=kvs.map (fun p=>dB p.1)→gC k D=none→oP k kvs=none
 | [],_,_,_=>rfl
 | p::r,[],h,_=>by simp at h
 | p::r,q::D,h,e=>by
  rw [qG,qG,zW] at h
  unfold gC at e
  unfold oP
  split at e
  ·cases e
  ·rename_i c
   rw [h.1,a1y] at c
   rw [if_neg fun z=>c (by rw [z])]
   exact xY h.2 e
section
variable {X:Cx} {o e f:Expr} {fd fk fx:EF} {ap cp:Pos}
end
def blD:PyData→Option Bool
 | .bool b=>some b
 | _=>none
theorem b1s {d:PyData} {b:Bool} (h:blD d=some b):d=.bool b:=by
 unfold blD at h
 split at h
 ·cases h;rfl
 ·cases h
def b5W (x y:PyData):Option PyData:=match x,y with
 | .list xs,.int k=>(match dH intD xs with | some ns=>some (.int (ns.count k:Nat)) | none=>none)
 | .list xs,.bool c=>(match dH blD xs with | some bs=>some (.int (bs.count c:Nat)) | none=>none)
 | _,_=>none
def b5D (x y:PyData):Option PyData:=match x,y with
 | .list xs,.bool c=>(match dH blD xs with | some bs=>if c∈bs then some (.int (bs.idxOf c:Nat)) else none | none=>none)
 | _,_=>none
theorem oX:∀ {bs:List Bool} {us:List Value},aX (bs.map V.bl) us→us=bs.map jR
 | [],_,.nil=>rfl
 | b::bs,_,.cons r t=>by cases r;rw [qG,oX t]
theorem a0b (k:Int):∀ {us:List Value} {ns:List Int},aX (ns.map V.int) us→us.countP (isInt k)=ns.count k
 | _,[],.nil=>rfl
 | _,n::ns,.cons ⟨t,e⟩ r=>by
  subst e
  rw [List.countP_cons,List.count_cons,a0b k r]
  rfl
section
variable {X:Cx} {o e:Expr} {fo fa:EF} {apos cpos:Pos}
theorem a7I:MtM X "list.count" (fun x vs H Q=>∃ (p:Addr) (ns:List Int) (k:Int),x=.ref p∧vs=[.int k]∧SqL X.K H p (ns.map V.int)∧Q (.int (ns.count k:Nat)) H):=by
 intro pins s σ H x vs v us Q I rx rv ⟨p,ns,k,e1,e2,hq,q⟩
 subst e1 e2
 cases rx
 obtain ⟨u,rfl,t,rfl⟩:=rv.one
 obtain ⟨its,r1,p1,hz⟩:=I.list hq
 obtain ⟨⟨c1,d1,t1,sl1⟩,n1,g1,k1,_,m1⟩:=p1
 dsimp only at k1 m1
 subst k1 m1
 have hi:=intsAre_of r1
 refine call_meets vM ⟨_,g1,rfl⟩ F.entry_list_count (F.args_list_count_2 _ _)
  (SeqAt.list_countAt p its.toArray n1 d1 sl1 (.int k t) (isInt k)) ⟨g1,fun y hy=>(eq_isInt k t hi y (by simpa using hy)).at _ _,⟨.int _,H,I.tok _,⟨_,rfl⟩,?_⟩⟩
 have:(its.toArray.toList.countP (isInt k):Nat)=ns.count k:=by simpa using a0b k r1
 rw [this];exact q
def b0u (c:Bool):Value→Bool
 | .bool b=>b==c
 | _=>false
theorem a7J:MtM X "list.count" (fun x vs H Q=>∃ (p:Addr) (bs:List Bool) (c:Bool),x=.ref p∧vs=[.bl c]∧SqL X.K H p (bs.map V.bl)∧Q (.int (bs.count c:Nat)) H):=by
 intro pins s σ H x vs v us Q I rx rv ⟨p,bs,c,e1,e2,hq,q⟩
 subst e1 e2
 cases rx
 obtain ⟨u,rfl,rfl⟩:=rv.one
 obtain ⟨its,r1,p1,hz⟩:=I.list hq
 obtain ⟨⟨c1,d1,t1,sl1⟩,n1,g1,k1,_,m1⟩:=p1
 dsimp only at k1 m1
 subst k1 m1
 have hi:=oX r1
 subst hi
 refine call_meets vM ⟨_,g1,rfl⟩ F.entry_list_count (F.args_list_count_2 _ _)
  (SeqAt.list_countAt p (bs.map jR).toArray n1 d1 sl1 (.bool c) (b0u c)) ⟨g1,fun y hy=>?_,⟨.int _,H,I.tok _,⟨_,rfl⟩,?_⟩⟩
 ·obtain ⟨b,_,rfl⟩:=qU.mp (show y∈bs.map jR by simpa using hy)
  exact vj b c
 ·have:((bs.map jR).toArray.toList.countP (b0u c):Nat)=bs.count c:=by
   rw [List.countP_map]
   rfl
  rw [this];exact q
theorem a7H:MtM X "list.index" (fun x vs H Q=>∃ (p:Addr) (bs:List Bool) (c:Bool),x=.ref p∧vs=[.bl c]∧SqL X.K H p (bs.map V.bl)∧c∈bs∧Q (.int (bs.idxOf c:Nat)) H):=by
 intro pins s σ H x vs v us Q I rx rv ⟨p,bs,c,e1,e2,hq,hc,q⟩
 subst e1 e2
 cases rx
 obtain ⟨u,rfl,rfl⟩:=rv.one
 obtain ⟨its,r1,p1,hz⟩:=I.list hq
 obtain ⟨⟨c1,d1,t1,sl1⟩,n1,g1,k1,_,m1⟩:=p1
 dsimp only at k1 m1
 subst k1 m1
 have hi:=oX r1
 subst hi
 have lt:bs.idxOf c<bs.length:=List.idxOf_lt_length_iff.mpr hc
 rw [qD] at hz
 have hz2:(sizeLine:Nat)<2 ^ 62:=by rw [sizeLine_eq];decide
 refine call_meets F.slot_list_index ⟨_,g1,rfl⟩ F.entry_list_index (F.args_list_index_2 _ _)
  (SeqAt.list_indexAt p (bs.map jR).toArray n1 d1 sl1 (.bool c) (b0u c) (bs.idxOf c) (by simpa using lt) (by omega) ?_ ?_) ⟨g1,fun y hy=>?_,⟨.int _,H,I.tok _,⟨_,rfl⟩,q⟩⟩
 ·have:=List.getElem_idxOf lt
  simpa [b0u] using this
 ·intro j hjs hlt
  have h1:j<bs.length:=by simpa using hjs
  have:=List.not_of_lt_findIdx (p:=(·==c)) (xs:=bs) hlt
  simpa [b0u] using this
 ·obtain ⟨b,_,rfl⟩:=qU.mp (show y∈bs.map jR by simpa using hy)
  exact vj b c
theorem b1g (ho:DE X o fo) (ha:DE X e fa)
  (hbase:attributeBase o "count" X.env (eval o X.env)=eval o X.env:=by rfl)
  (hfew:((backTo cpos (starEach (e::[]) X.env)).all (fun x=>!x.1)&&(backToKw cpos (keywordEach [] X.env)).all (fun x=>x.1.isSome)&&decide ((e::[]).length+([]:List Keyword).length+(if ([]:List Keyword).isEmpty then 0 else 1)<30))=true:=by rfl)
  (hline:(apos.endLine==cpos.line)=true:=by rfl) (hst:starEach (e::[]) X.env=(false,eval e X.env)::starEach [] X.env:=by rfl) (hplain:(backTo cpos (starEach [] X.env)).any (·.1)=false:=by rfl) :
  DE X (.Call (.Attribute o "count" apos) [e] [] cpos) (dfE b5W fo fa):=yY fun ρ r h=>by
 unfold dfE at h
 split at h
 ·rename_i x y ea eb
  obtain ⟨d,ed,rfl⟩:=aY h
  refine ⟨d,rfl,?_⟩
  unfold b5W at ed
  split at ed
  ·rename_i xs k
   split at ed
   ·rename_i ns ei
    have hx:=dA (g:=jv) (fun d a q=>gQ q) ei
    subst hx
    cases (qA ed)
    exact a9D F.plainAttrs_list vM F.type_list_count a7I (ho.pd ea) (fE (ha.pd eb) mE hst) (fun x G H s r=>by cases r with | list hq _=>exact .inl ⟨rfl,_,s.seq hq⟩) (fun x vs G H Q s r rs q=>by
     cases r with
     | list hq ra=>
      have e:=ra.ints
      subst e
      cases rs with
      | cons r1 r2=>cases r1;cases r2;exact ⟨_,ns,k,rfl,rfl,s.seq hq,q _ G H (.refl s) (.int _)⟩) hbase hfew hline hst hplain
   ·cases ed
  ·rename_i xs c
   split at ed
   ·rename_i bs ei
    have hx:=dA (g:=zR) (fun d a q=>b1s q) ei
    subst hx
    cases (qA ed)
    exact a9D F.plainAttrs_list vM F.type_list_count a7J (ho.pd ea) (fE (ha.pd eb) mE hst) (fun x G H s r=>by cases r with | list hq _=>exact .inl ⟨rfl,_,s.seq hq⟩) (fun x vs G H Q s r rs q=>by
     cases r with
     | list hq ra=>
      have e:=ra.bools
      subst e
      cases rs with
      | cons r1 r2=>cases r1;cases r2;exact ⟨_,bs,c,rfl,rfl,s.seq hq,q _ G H (.refl s) (.int _)⟩) hbase hfew hline hst hplain
   ·cases ed
  ·cases ed
 ·cases h
theorem a8g (ho:DE X o fo) (ha:DE X e fa)
  (hbase:attributeBase o "index" X.env (eval o X.env)=eval o X.env:=by rfl)
  (hfew:((backTo cpos (starEach (e::[]) X.env)).all (fun x=>!x.1)&&(backToKw cpos (keywordEach [] X.env)).all (fun x=>x.1.isSome)&&decide ((e::[]).length+([]:List Keyword).length+(if ([]:List Keyword).isEmpty then 0 else 1)<30))=true:=by rfl)
  (hline:(apos.endLine==cpos.line)=true:=by rfl) (hst:starEach (e::[]) X.env=(false,eval e X.env)::starEach [] X.env:=by rfl) (hplain:(backTo cpos (starEach [] X.env)).any (·.1)=false:=by rfl) :
  DE X (.Call (.Attribute o "index" apos) [e] [] cpos) (dfE b5D fo fa):=yY fun ρ r h=>by
 unfold dfE at h
 split at h
 ·rename_i x y ea eb
  obtain ⟨d,ed,rfl⟩:=aY h
  refine ⟨d,rfl,?_⟩
  unfold b5D at ed
  split at ed
  ·rename_i xs c
   split at ed
   ·rename_i bs ei
    split at ed
    ·rename_i hk
     have hx:=dA (g:=zR) (fun d a q=>b1s q) ei
     subst hx
     cases (qA ed)
     exact a9D F.plainAttrs_list F.slot_list_index F.type_list_index a7H (ho.pd ea) (fE (ha.pd eb) mE hst) (fun x G H s r=>by cases r with | list hq _=>exact .inl ⟨rfl,_,s.seq hq⟩) (fun x vs G H Q s r rs q=>by
      cases r with
      | list hq ra=>
       have e:=ra.bools
       subst e
       cases rs with
       | cons r1 r2=>cases r1;cases r2;exact ⟨_,bs,c,rfl,rfl,s.seq hq,hk,q _ G H (.refl s) (.int _)⟩) hbase hfew hline hst hplain
    ·cases ed
   ·cases ed
  ·cases ed
 ·cases h
end
section
variable {X:Cx} {b:Expr} {fb:EF} {p pos:Pos}
end
def a6j (i:Nat) (f:AF):SF:=fun ρ=>bns (f ρ) ρ fun ds=>match ds with
 | [.list xs]=>(match dH nD xs with
  | some kvs=>if decide (kvs.map (·.1)).Nodup&&decide (kvs.length≤1000)&&noD i ρ then some (.nx (ρ.set i (.dct kvs))) else none
  | none=>none)
 | _=>none
def a5g (k d:PyData):Option Bool:=match d,a2C k with
 | .dict D,some k=>some (gC k D).isSome
 | _,_=>none
def uS (k d:PyData):Option Bool:=(a5g k d).map (!·)
def yT (kvs:List (Key×PyData)) (k:Key):List (Key×PyData):=kvs.filter fun kv=>decide (kv.1≠k)
theorem dD.keys {K:qB} {G:Hp} {vs:List (Key×V)} {kvs:List (Key×PyData)} (r:dD K G vs kvs):(kvs.map fun p=>(dB p.1,p.2)).map (·.1)=vs.map fun p=>dB p.1:=by
 rw [qV]
 have:=congrArg (List.map dB) r.1
 rw [qV,qV] at this
 exact this.symm
theorem dD.vals {K:qB} {G:Hp} {vs:List (Key×V)} {kvs:List (Key×PyData)} (r:dD K G vs kvs):RepAll K G (vs.map (·.2)) ((kvs.map fun p=>(dB p.1,p.2)).map (·.2)):=by
 rw [qV];exact r.2
theorem dD.drop {K:qB} {G:Hp} {k:Key}:∀ {vs:List (Key×V)} {kvs:List (Key×PyData)},dD K G vs kvs→dD K G (yU vs k) (yT kvs k)
 | [],[],h=>h
 | [],_::_,h=>by have:=h.1;simp at this
 | _::_,[],h=>by have:=h.1;simp at this
 | a::vs,b::kvs,⟨h1,h2⟩=>by
  rw [qG,qG,zW] at h1
  rw [qG,qG] at h2
  cases h2 with
  | cons ra rr=>
   obtain ⟨i1,i2⟩:=dD.drop (k:=k) (vs:=vs) (kvs:=kvs) ⟨h1.2,rr⟩
   unfold yU yT at i1 i2 ⊢
   by_cases c:b.1=k
   ·have c':a.1=k:=h1.1.trans c
    rw [qo (by simpa using c'),qo (by simpa using c)]
    exact ⟨i1,i2⟩
   ·have c':¬a.1=k:=fun z=>c (h1.1.symm.trans z)
    rw [qg (by simpa using c'),qg (by simpa using c)]
    exact ⟨by rw [qG,qG,i1,h1.1],by rw [qG,qG];exact .cons ra i2⟩
theorem tQ {K:qB} {G:Hp} {k:Key} {kvs:List (Key×V)} {D:List (PyData×PyData)} (h:D.map (·.1)=kvs.map (fun p=>dB p.1)) (r:RepAll K G (kvs.map (·.2)) (D.map (·.2))):(lU kvs k).isSome=(gC k D).isSome:=by
 rw [a0H]
 cases e:gC k D with
 | none=>rw [xY h e];rfl
 | some d=>
  obtain ⟨v,ev,_⟩:=tR h r e
  rw [ev];rfl
section
variable {X:Cx} {a b e kx o f:Expr} {fa fk fv fd fx:EF} {pos p p2 p3 ap cp:Pos}
theorem b0T (i:Nat) {x:Str} {f:AF} (hc:X.calm=true) (hN:X.N.Nodup) (hm:X.mg "dict" = none) (h:DA X [e] f) (hg:Gl X "dict":=by rfl) (he:starEach [e] X.env=(false,eval e X.env)::starEach [] X.env:=by rfl) (hpl:(backTo p3 (starEach [] X.env)).any (·.1)=false:=by rfl)
  (hi:X.N[i]?=some x:=by rfl) (hx:Loc X.env.scope x:=by first | exact jx rfl | exact jX rfl)
  (hs:swapsWith (.Call (.Name "dict" p2) [e] [] p3) (some (.Name x p)) pos.line X.env=pure false:=by rfl) (hf:X.fn x=true∨X.env.scope.names.lookup x=some .local:=by first | exact .inl rfl | exact .inr rfl) :
  DS X (.Assign [.Name x p] (.Call (.Name "dict" p2) [e] [] p3) pos) (a6j i f):=⟨fun pins s σ H D I ⟨ρ,o,H0,G₀,G,ef,R,q⟩=>a1W hN hi hx (a0V (a1B hc) hg hm boot_dict h.run (by decide) (by decide) he hpl) hs hf pins s σ H D I (sA R ef q fun ds vs G1 H1 g1 R1 rv e1 q1=>by
 split at e1
 ·rename_i xs
  split at e1
  ·rename_i kvs hk
   split at e1
   ·rename_i hz
    cases (qA e1)
    rw [qJ,qJ,decide_eq_true_eq,decide_eq_true_eq] at hz
    cases rv with | cons rv rr=>
    cases rr
    cases rv with
    | list hq r=>
     obtain ⟨ws,w1,w2,w3⟩:=oF r hk
     have hl:ws.length=kvs.length:=by have:=congrArg zV w2;simpa using this
     exact ⟨_,_,ws,rfl,g1.sub.seq hq,Paired.mapP w1 (fun a b ⟨t,e1,e2⟩=>⟨t,e1,gM g1.sub e2⟩),by rw [w2];exact hz.1.1,by omega,fun l hl'=>q1 G1 _ _ (.refl _) (R1.freshD hl' (b5c hz.2) ⟨w2,w3⟩)⟩
   ·cases e1
  ·cases e1
 ·cases e1)⟩
theorem b5J (hu:X.A.units+64<cLine) (hk:DE X e fk) (ho:DE X o fd) (hm:behindInMarks .In o=false:=by rfl):DT X (.Compare e [.In] [o] pos) (cH a5g fk fd):=⟨fun pins s σ H Q I ⟨ρ,r,H0,G₀,G,ef,R,q⟩=>
 a9o (b4R (by omega) hk.run ho.run) hm pins s σ H Q I (bE R ef q.x fun k u G1 H1 g1 R1 ru e1=>bE R1 e1 (q.more g1).x fun x v G2 H2 g2 R2 rv e2=>by
  obtain ⟨t,et,rfl⟩:=aY e2
  unfold a5g at et
  split at et
  ·rename_i D key hk'
   cases (qA et)
   rw [oI hk'] at ru
   cases oE ru
   cases rv with
   | dict h e0 rr=>
    rename_i a kvs
    refine ⟨a,lU kvs key,rfl,.inl ⟨kvs,key,.inl (g2.sub _ _ h),rfl,rfl⟩,?_⟩
    rw [tQ e0 rr]
    exact ⟨_,rfl,q _ _ (g1.trans g2)⟩
  ·cases et)⟩
end
theorem b3S {P:Program} {w:World} {k:Key} {u:Value} (h:(bF P w).is k u=true):RelV (kV k) u:=by
 rw [a4Q] at h
 rcases bW h with ⟨i,t,rfl,rfl⟩ | ⟨x,t,rfl,rfl⟩
 ·exact ⟨t,rfl⟩
 ·exact ⟨t,rfl⟩
theorem a1j {P:Program} {w:World}:∀ (l:List (Key×V)) (vs:List (Key×Value)) (us:List Value),KV l vs→us.length=vs.length →
  (∀ (j:Nat) (v:Value),us[j]?=some v→∃ k x,vs[j]?=some (k,x)∧(bF P w).is k v=true)→aX (l.map fun p=>kV p.1) us
 | [],_,us,r,hl,_=>by
  cases r
  cases us with
  | nil=>exact .nil
  | cons _ _=>simp at hl
 | p::l,_,us,r,hl,h=>by
  cases r with
  | @cons _ q _ qs h1 t=>
  cases us with
  | nil=>simp at hl
  | cons u us=>
   refine .cons ?_ (a1j (P:=P) (w:=w) l qs us t (by simpa using hl) fun j v e=>?_)
   ·obtain ⟨k,x,e,g⟩:=h 0 u rfl
    cases e
    show RelV (kV p.1) u
    rw [h1.1];exact b3S g
   ·obtain ⟨k,x,e,g⟩:=h (j+1) v (by simpa using e)
    exact ⟨k,x,by simpa using e,g⟩
section
variable {X:Cx}
end
end L2.L3
namespace L2.SX
open PySem PyProof.Rows
section
variable {prog:Program} {w:World} {A:Around} {E:Value→Shared→Prop} {s:Shared} {K:Type} [DecidableEq K] {knd:KeyKind prog w K}
end
end L2.SX
namespace L2.SX
open PySem PyProof.Rows
section
variable {prog:Program} {w:World} {A:Around} {E:Value→Shared→Prop} {s:Shared} {K:Type} [DecidableEq K] {knd:KeyKind prog w K}
end
end L2.SX
namespace L2.L3
open PySem PySem.Spec PyProof.Rows PySem.Calls
section
variable {X:Cx} {e1 e2:Expr} {fa fb:EF} {p1 p2 q1 q2 pos:Pos}
end
end L2.L3
namespace L2.L3
open PySem PySem.Spec PyProof.Rows
section
variable {X:Cx}
end
end L2.L3
namespace L2.L3
open PySem PySem.Spec PyProof.Rows
section
variable {X:Cx} {elt iter tg:Expr} {ifs:List Expr} {scope:Scope} {pos spos p:Pos} {N':List Str} {cap:List (Option Nat)} {t:Tg} {fi:AF} {ft:TF} {fe:EF}
end
end L2.L3
namespace L2.L3
open PySem PySem.Spec PyProof.Rows
end L2.L3
namespace L2.L3
open PySem PySem.Spec PyProof.Rows
section
variable {X:Cx} {pins:List (Addr×Obj)} {σ:St} {H:Hp} {s:Shared} {a:Addr} {o o':HO}
end
structure M0 (X:Cx) (o:Expr) (m:Str) (apos:Pos) (cpos:Pos):Prop where
 base:attributeBase o m X.env (eval o X.env)=eval o X.env
 few:((backTo cpos (starEach [] X.env)).all (fun x=>!x.1)&&(backToKw cpos (keywordEach [] X.env)).all (fun x=>x.1.isSome)
  && decide (([]:List Expr).length+([]:List Keyword).length+(if ([]:List Keyword).isEmpty then 0 else 1)<30))=true
 line:(apos.endLine==cpos.line)=true
 trees:backTo cpos (starEach [] X.env)=[]
section
variable {X:Cx} {o tg:Expr} {td:TE} {apos cpos:Pos}
end
section
variable {X:Cx} {elt tg:Expr} {ifs:List Expr} {scope:Scope} {pos spos p apos cpos xp:Pos} {N':List Str} {cap:List (Option Nat)} {t:Tg} {fi:AF} {ft:TF} {fe:EF}
end
end L2.L3
namespace L2.L3
open PySem PySem.Spec PyProof.Rows
def ovr (N H:Hp):Hp:=fun b=>match N b with | some o=>some o | none=>H b
theorem rK {N H:Hp} {b:Addr} {o:HO} (h:N b=some o):ovr N H b=some o:=by unfold ovr;rw [h]
theorem iO {N H:Hp} {b:Addr} (h:N b=none):ovr N H b=H b:=by unfold ovr;rw [h]
section
variable {X:Cx} {pins:List (Addr×Obj)} {σ:St} {H G N:Hp} {s:Shared} {h':Heap} {t':Nat}
theorem b2P (I:Inv X pins σ H s) (kp:∀ b o,s.heap.get? b=some o→h'.get? b=some o) (low:∀ b o,N b=some o→s.heap.objs.size≤b) (ok:∀ b o,N b=some o→bY X.prog X.w (ovr N H) h' b o):Inv X pins σ (ovr N H) { s with heap:=h',toks:=t' }:=by
 have nb:∀ b o,s.heap.get? b=some o→N b=none:=fun b o e=>by
  cases q:N b with
  | none=>rfl
  | some u=>exact absurd (qH e) (Nat.not_lt_of_le (low b u q))
 have nH:∀ b u,H b=some u→N b=none:=fun b u e=>by
  cases q:N b with
  | none=>rfl
  | some v=>have:=I.hok.fresh (low b v q);rw [e] at this;cases this
 have up:∀ b u,H b=some u→ovr N H b=some u:=fun b u e=>by rw [iO (nH b u e)];exact e
 refine I.un ⟨fun b o e n _ _=>kp b o e,fun b o e n _ _=>⟨o.slots,kp b o e⟩,fun b o e n _=>by rw [iO (nb b o e)];exact n,fun b o e _=>⟨o,kp b o e⟩,fun b xs e=>up b _ e,fun b o u e=>up b _ e,fun b ps e=>⟨#[],by rw [up b _ e];simp⟩⟩ fun b u e=>?_
 cases q:N b with
 | some v=>rw [rK q] at e;cases e;exact ok b _ q
 | none=>
  rw [iO q] at e
  exact (I.hok b u e).stay (fun c v _ z=>kp c v z) (fun c z=>up c _ z) fun c xs z=>up c _ z
theorem a3I (sm:bH G H) (fr:∀ b o,N b=some o→H b=none) (nt:∀ b o,N b=some o→∀ ps,o≠.tbl ps):Grow G H (ovr N G) (ovr N H):=by
 have nG:∀ b u,G b=some u→N b=none:=fun b u e=>by
  cases q:N b with
  | none=>rfl
  | some v=>have:=fr b v q;rw [sm b u e] at this;cases this
 have nH:∀ b u,H b=some u→N b=none:=fun b u e=>by
  cases q:N b with
  | none=>rfl
  | some v=>have:=fr b v q;rw [e] at this;cases this
 refine ⟨fun b o e=>by rw [iO (nG b o e)];exact e,.of fun b o e=>by rw [iO (nH b o e)];exact e,fun b o e=>?_,fun b e n=>?_,fun nn b ps e=>?_⟩
 ·cases q:N b with
  | some v=>rw [rK q] at e ⊢;exact e
  | none=>rw [iO q] at e ⊢;exact sm b o e
 ·rw [iO (by
   cases q:N b with
   | none=>rfl
   | some v=>exact absurd (fr b v q) n)]
  exact e
 ·cases q:N b with
  | some v=>rw [rK q] at e;exact nt b v q ps (qA e)
  | none=>rw [iO q] at e;exact nn b ps e
end
section
variable {prog:Program} {w:World} {A:Around} {E:Value→Shared→Prop} {s:Shared}
theorem a4z {T:String} {r d:Addr} {n:Nat} {P:Nat→Value→Prop} {OK:Heap→Prop} {ss:List Str} {Q:Value→Shared→Prop} (K:PySem.W.KdlSrc prog w T r d n P OK) (hh:A.handled=none) (hok:OK s.heap) (h64:n<64) (hP:∀ acc,ItemsOf P acc n→StrsAre acc.toList ss)
  (h:∀ (h1:Heap) (tk:Nat) (h2:Heap) (ep:Nat) (out:Array Value) (ss':List Str),(∀ b o,s.heap.get? b=some o→h1.get? b=some o)→(∀ b o,h1.get? b=some o→h2.get? b=some o)→h2.get? h1.objs.size=some (seqObj "list" out ep) →
   StrsAre out.toList ss'→ss'.Perm ss→sortedS ss'=true→Q (.ref h1.objs.size) { s with heap:=h2,toks:=tk }) :
  wpAny (model prog w) A (call (.builtin "sorted") [.ref r]) Q E s:=by
 refine vF kind_sorted plain_sorted entry_sorted (args_sorted1 _) ?_
 unfold Builtin.«sorted»
 refine wpAny_bind (m:=checkCount "sorted" 1 1 _) (wpAny_pure (wpAny_bind (PySem.W.kdu_collect K hh hok (by rw [sizeLine_eq];omega) fun h1 tk acc kp hi=>?_)))
 have hS:=hP acc hi
 have hl:acc.toList.length<64:=by rw [qO,hi.1];exact h64
 have hoL:(h1.push (seqObj "list" acc.toList.toArray 0)).get? h1.objs.size=some (seqObj "list" acc.toList.toArray 0):=qI _ rfl
 refine wpAny_bind (wpAny_newList ?_ (by rw [sizeLine_eq];omega))
 show wpAny _ _ _ _ _ { s with heap:=h1.push (seqObj "list" acc.toList.toArray 0),toks:=tk }
 refine wpAny_bind (wpAny_holding (wpAny_call_entry slot_list_sort ⟨_,hoL,rfl⟩ entry_list_sort (list_sort_treeK strKind_oneLt hoL hS.keysOf (fun v₁ v₂ rest e=>keyKind_strs (by rw [←e];exact hS)) hl fun st' a1 a2=>⟨_,rfl,?_⟩) (args_list_sort _)))
 obtain ⟨ss',b1,b2,b3⟩:=sorted_out_str hS a1 a2
 generalize (arrOf st').map (·.2)=out at b1
 obtain ⟨e1,ho1⟩:∃ e1,((h1.push (seqObj "list" acc.toList.toArray 0)).update h1.objs.size (jT fun _=>#[])).get? h1.objs.size=some (seqObj "list" #[] e1):=⟨_,get?_update_seq hoL (fun _=>#[])⟩
 have ho6:=qC (seqObj "list" #[] 0) (qC (seqObj "tuple" acc.toList.toArray 0) ho1)
 obtain ⟨e2,ho2⟩:∃ e2,(sortedHeap (h1.push (seqObj "list" acc.toList.toArray 0)) h1.objs.size acc.toList out).get? h1.objs.size=some (seqObj "list" out e2):=⟨_,get?_update_seq ho6 (fun _=>out)⟩
 refine wpAny_pure ⟨_,rfl,h h1 tk _ e2 out ss' kp (fun b o q=>?_) ho2 b1 b2 b3⟩
 have hb:b≠h1.objs.size:=qW (qH q)
 unfold sortedHeap
 rw [kI _ _ _ _ hb]
 refine qC _ (qC _ ?_)
 rw [kI _ _ _ _ hb]
 exact qC _ q
end
section
variable {X:Cx}
theorem a2G (hc:X.calm=true):dU X (.builtin "sorted") (fun xs H Q=>∃ (a:Addr) (kvs:List (Key×V)) (ns:List Str),xs=[V.ref a]∧H a=some (.dK kvs)∧kvs.map (·.1)=ns.map jp∧ns.length<64∧∀ l,H l=none→Q (.ref l) (upd H l (.lst ((eG ns).map V.str)))):=by
 intro pins s σ H xs us Q I r ⟨a,kvs,ns,e,ha,ek,h64,q⟩
 subst e
 obtain ⟨u,rfl,rx⟩:=vals1 r
 cases rx
 obtain ⟨z,lo,vs,rel,dd⟩:=a3Q I.hok ha
 obtain ⟨ep,dat⟩:=dd.dictAt
 have ln:kvs.length=ns.length:=by have:=congrArg zV ek;rwa [qD,qD] at this
 refine a4z (ss:=ns) (PySem.W.kdl_dict (knd:=bF X.prog X.w) (kvs:=vs) (ep:=ep) lo) (I.ok.hd hc) dat (by rw [←rel.length,ln];exact h64) (fun acc hi=>?_) fun h1 tk h2 ep' out ss' kp kp2 ho b1 b2 b3=>?_
 ·have kv:=a1j (P:=X.prog) (w:=X.w) kvs vs acc.toList rel (by rw [qO];exact hi.1) (fun j v e=>hi.2 j v (by rw [←je];exact e))
  have:(kvs.map fun p=>kV p.1)=ns.map V.str:=by
   have:=congrArg (List.map kV) ek
   rw [qV,qV] at this
   exact this
  rw [this] at kv
  exact wW kv
 ·have e:=a3e b2 b3
  subst e
  have I1:Inv X pins σ H { s with heap:=h1,toks:=tk }:=I.kept (t':=tk) kp
  have hf:H h1.objs.size=none:=I1.hok.fresh (qN _)
  refine ⟨.ref h1.objs.size,_,I1.laid (t':=tk) kp2 (qN _) ?_,rfl,q _ hf⟩
  refine ⟨?_,out.toList,ep',sS b1,?_⟩
  ·rw [qD,(bP ns).length_eq]
   exact qr (eB (by omega))
  ·rw [ho]
def b5t:PyData×PyData→Option Str:=fun p=>match p.1 with | .str x=>some x | _=>none
def a5I:List (PyData×PyData)→Option (List Str)
 | []=>some []
 | p::r=>match b5t p,a5I r with | some x,some xs=>some (x::xs) | _,_=>none
def lF (ds:List PyData):Option PyData:=match ds with
 | [.dict D]=>(match a5I D with | some ns=>if ns.length<64 then some (.list ((eG ns).map .str)) else none | none=>none)
 | _=>none
theorem a7b:∀ {D:List (PyData×PyData)} {ns:List Str},a5I D=some ns→D.map (·.1)=ns.map .str
 | [],ns,h=>by cases h;rfl
 | (k,v)::r,ns,h=>by
  unfold a5I at h
  split at h
  ·rename_i x xs e1 e2
   cases h
   rw [qG,qG,a7b e2]
   congr 1
   unfold b5t at e1
   dsimp only at e1
   split at e1
   ·cases e1;rfl
   ·cases e1
  ·cases h
theorem a1k:∀ {kvs:List (Key×V)} {ns:List Str},(kvs.map fun p=>dB p.1)=ns.map .str→kvs.map (·.1)=ns.map jp
 | [],[],_=>rfl
 | [],_::_,h=>by cases h
 | _::_,[],h=>by cases h
 | (k,v)::r,x::ns,h=>by
  rw [qG,qG] at h
  injection h with h1 h2
  rw [qG,qG,a1k h2]
  congr 1
  cases k with
  | inl i=>cases h1
  | inr y=>injection h1 with h1;subst h1;rfl
theorem mX (hc:X.calm=true) (ds:List PyData) (d:PyData) (h:lF ds=some d):CallD X (.builtin "sorted") ds d:=by
 unfold lF at h
 split at h
 ·rename_i D
  split at h
  ·rename_i ns e
   split at h
   ·rename_i hl
    cases (qA h)
    exact ⟨_,a2G hc,fun vs G H Q s r q=>by
     cases r with | cons r rr=>cases rr;cases r with | dict hq e0 rr=>
      rename_i a kvs
      refine ⟨a,kvs,ns,rfl,s _ _ hq,a1k (e0.symm.trans (a7b e)),hl,fun l hl=>q _ _ _ (.put s hl) (.list (.of aL) (mC _))⟩⟩
   ·cases h
  ·cases h
 ·cases h
end
def a2q (x:PyData):Option PyData:=match x with
 | .dict D=>some (.list (D.map fun p=>.tuple [p.1,p.2]))
 | _=>none
theorem a0S {K:qB} {G:Hp}:∀ {as:List Addr} {kvs:List (Key×V)} {D:List (PyData×PyData)},as.length=kvs.length→D.map (·.1)=kvs.map (fun p=>dB p.1)→RepAll K G (kvs.map (·.2)) (D.map (·.2)) →
  (∀ (j:Nat) (a:Addr) (p:Key×V),as[j]?=some a→kvs[j]?=some p→G a=some (.tup [kV p.1,p.2]))→RepAll K G (as.map V.ref) (D.map fun p=>PyData.tuple [p.1,p.2])
 | [],[],D,_,h,_,_=>by
  cases D with
  | nil=>exact .nil
  | cons _ _=>cases h
 | [],_::_,_,h,_,_,_=>by cases h
 | _::_,[],_,h,_,_,_=>by cases h
 | a::as,p::kvs,[],_,h,_,_=>by cases h
 | a::as,p::kvs,d::D,hl,h,r,g=>by
  rw [qG,qG] at h r
  injection h with h1 h2
  cases r with
  | cons r1 r2=>
   refine .cons ?_ (a0S (by simpa using hl) h2 r2 fun j b q e1 e2=>g (j+1) b q (by simpa using e1) (by simpa using e2))
   refine .tuple (.of (g 0 a p rfl rfl)) (.cons ?_ (.cons r1 .nil))
   obtain ⟨k,v⟩:=p
   have h1:d.1=dB k:=h1
   rw [h1]
   cases k with
   | inl i=>exact .int i
   | inr x=>exact .str x
theorem a6f {α β:Type} {F:α→β→Prop}:∀ {l:List α} {m:List β} {j:Nat} {a:α},Paired F l m→l[j]?=some a→∃ b,m[j]?=some b∧F a b
 | _,_,_,_,.nil,h=>by simp at h
 | _,_,0,_,.cons r _,h=>by simp at h;subst h;exact ⟨_,rfl,r⟩
 | _,_,j+1,_,.cons _ t,h=>a6f (j:=j) t (by simpa using h)
theorem a0G:∀ as:List Addr,aX (as.map V.ref) (as.map qy)
 | []=>.nil
 | _::as=>.cons rfl (a0G as)
theorem a3y {β:Type} {f:Addr×β→HO}:∀ {as:List Addr} {ks:List β} {j:Nat} {a:Addr} {p:β},as.Nodup→as[j]?=some a→ks[j]?=some p→((as.zip ks).map fun q=>(q.1,f q)).lookup a=some (f (a,p))
 | [],_,_,_,_,_,h,_=>by simp at h
 | _::_,[],_,_,_,_,_,h=>by simp at h
 | b::as,q::ks,0,a,p,nd,h1,h2=>by
  simp at h1 h2;subst h1 h2
  simp [jF]
 | b::as,q::ks,j+1,a,p,nd,h1,h2=>by
  have h1:as[j]?=some a:=by simpa using h1
  have h2:ks[j]?=some p:=by simpa using h2
  have ne:(a==b)=false:=by
   have:=(jV.mp nd).1
   simp;intro z;exact this (z▸kR h1)
  rw [List.zip_cons_cons,qG,jF,ne]
  exact a3y (jV.mp nd).2 h1 h2
section
variable {X:Cx} {o:Expr} {fo:EF} {p pos apos cpos:Pos}
theorem a3S (hc:X.calm=true) (ho:DE X o fo) (hm:X.mg "list" = none) (m:M0 X o "items" apos cpos:=by exact ⟨rfl,rfl,rfl,rfl⟩) (hg:Gl X "list":=by rfl)
  (he:starEach [.Call (.Attribute o "items" apos) [] [] cpos] X.env=(false,eval (.Call (.Attribute o "items" apos) [] [] cpos) X.env)::starEach [] X.env:=by rfl) (hpl:(backTo pos (starEach [] X.env)).any (·.1)=false:=by rfl) :
  DE X (.Call (.Name "list" p) [.Call (.Attribute o "items" apos) [] [] cpos] [] pos) (op1 a2q fo):=⟨fun pins s σ H Q I ⟨ρ,r,H0,G₀,G,e,R,q⟩=>by
 refine wpAny_Call_Name_kw (iZ I hg hm (by rfl:bootBuiltins "list" = some (.type "list")) ?_ (by decide) (by decide))
 refine jS ?_ he hpl
 rw [he]
 show wpAny _ _ (spliced ((false,eval (.Call (.Attribute o "items" apos) [] [] cpos) X.env)::backTo pos (starEach [] X.env))) _ _ s
 refine kQ (wpAny_Call_method m.base m.few m.line PySem.F.plainAttrs_dict PySem.F.slot_dict_items PySem.F.type_dict_items (thn (ho.run pins s σ H (fun v H1=>∃ d G1,Grow G H G1 H1∧Rep X.K G1 v d∧lft (a2q d)=some r) I (bE R e q.x fun d v G1 H1 g1 R1 rv e1=>⟨d,G1,g1,rv,e1⟩)) fun u s1 ⟨x,H1,I1,rx,d,G1,g1,rv,e1⟩=>?_))
 obtain ⟨d',e2,rfl⟩:=aY e1
 unfold a2q at e2
 split at e2
 ·rename_i D
  cases e2
  cases rv with
  | dict hq e0 rr=>
  rename_i a kvs
  obtain rfl:u=qy a:=rx
  have ha:H1 a=some (.dK kvs):=g1.sub _ _ hq
  obtain ⟨t1,t2,_⟩:=b0t I1 (.inl ⟨kvs,.inl ha⟩)
  refine ⟨t1,t2,?_⟩
  rw [m.trees]
  refine vZ rfl (PySem.evalArgs_none ?_)
  obtain ⟨z,lo,vs,rel,dd⟩:=a3Q I1.hok ha
  obtain ⟨ep,dat⟩:=dd.dictAt
  refine call_meetsIn PySem.F.slot_dict_items dd.typeIs PySem.F.entry_dict_items (PySem.F.args_dict_items_1 _) (meets_dict_items (bF X.prog X.w) a lo) ⟨⟨vs,dd⟩,?_⟩
  show wpAny _ _ (spliced []) _ _ _
  refine kU ?_
  have I2:Inv X pins σ H1 { s1 with heap:=s1.heap.push { cls:=.type "dict_items", data:=.fields #[.ref a] } }:=I1.kept (t':=s1.toks) fun b o e=>qC _ e
  refine PySem.W.kdx_call (s:={ s1 with heap:=s1.heap.push { cls:=.type "dict_items", data:=.fields #[.ref a] } }) (knd:=bF X.prog X.w) (kvs:=vs) (ep:=ep) (I.ok.hd hc) ⟨_,qI _ rfl,rfl,rfl⟩ (dat.push _) (by rw [←rel.length];exact z) fun h' tk acc c as kp hl hlen hG hacc=>?_
  dsimp only at kp hl hG
  generalize hsz:(s1.heap.push { cls:=.type "dict_items", data:=.fields #[.ref a] }).objs.size=sz at hl hG ⊢
  have la:as.length=kvs.length:=by rw [hlen,rel.length]
  have nd:as.Nodup:=hG.rise.imp fun h=>qW h
  have nsz:sz∉as:=fun z=>jU _ (hG.above _ z)
  generalize hN:(fun b=>((sz,HO.lst (as.map V.ref))::(as.zip kvs).map fun q=>(q.1,HO.tup [kV q.2.1,q.2.2])).lookup b:Hp)=N
  have N0:N sz=some (.lst (as.map V.ref)):=by rw [←hN];simp [jF]
  have N1:∀ (j:Nat) (b:Addr) (p:Key×V),as[j]?=some b→kvs[j]?=some p→N b=some (.tup [kV p.1,p.2]):=fun j b p h1 h2=>by
   rw [←hN]
   have ne:(b==sz)=false:=by simp;intro w;exact nsz (w▸kR h1)
   show List.lookup b _=_
   rw [jF,ne]
   exact a3y (f:=fun q:Addr×(Key×V)=>HO.tup [kV q.2.1,q.2.2]) nd h1 h2
  have Nc:∀ b o,N b=some o→(b=sz∧o=.lst (as.map V.ref))∨∃ (j:Nat) (p:Key×V),as[j]?=some b∧kvs[j]?=some p∧o=.tup [kV p.1,p.2]:=fun b o e=>by
   by_cases w:b=sz
   ·rw [w,N0] at e;cases e;exact .inl ⟨w,rfl⟩
   ·right
    rw [←hN] at e
    have ne:(b==sz)=false:=by simpa using w
    have e:List.lookup b ((sz,HO.lst (as.map V.ref))::(as.zip kvs).map fun q=>(q.1,HO.tup [kV q.2.1,q.2.2]))=some o:=e
    rw [jF,ne] at e
    have e:List.lookup b ((as.zip kvs).map fun q=>(q.1,HO.tup [kV q.2.1,q.2.2]))=some o:=e
    obtain ⟨⟨b',p⟩,hm',he'⟩:=qU.mp (xX e)
    cases he'
    obtain ⟨j,hj⟩:=List.mem_iff_getElem?.mp hm'
    rw [zm] at hj
    exact ⟨j,p,hj.1,hj.2,rfl⟩
  have low:∀ b o,N b=some o→(s1.heap.push { cls:=.type "dict_items", data:=.fields #[.ref a] }).objs.size≤b:=fun b o e=>by
   rw [hsz]
   rcases Nc b o e with ⟨w,_⟩ | ⟨j,p,h1,_,_⟩
   ·rw [w];exact qN _
   ·exact qr (hG.above _ (kR h1))
  have I3:=b2P (t':=tk) (h':=h') (N:=N) I2 kp low (fun b o e=>by
   rcases Nc b o e with ⟨rfl,rfl⟩ | ⟨j,p,h1,h2,rfl⟩
   ·refine ⟨by rw [qD,la];exact z,acc.toList,c,?_,by rw [hl]⟩
    rw [hacc]
    exact a0G as
   ·obtain ⟨key,k,xv,e1,e2,e3⟩:=hG.pairs j b h1
    obtain ⟨q',hq',r1,r2⟩:=a6f rel h2
    rw [e1] at hq';cases hq'
    refine ⟨by show 2≤sizeLine;decide,[key,xv],.cons ?_ (.cons r2 .nil),⟨_,e3,rfl,_,rfl⟩⟩
    rw [r1];exact b3S e2)
  refine ⟨.ref sz,_,I3,rfl,q _ _ _ (g1.trans (a3I (N:=N) g1.sub (fun b o e=>I2.hok.fresh (low b o e)) (fun b o e ps=>?_))) ?_⟩
  ·rcases Nc b o e with ⟨_,rfl⟩ | ⟨_,_,_,_,rfl⟩<;>nofun
  ·refine .list (.of (rK N0)) (a0S la e0 (rr.mono ?_) fun j b p h1 h2=>rK (N1 j b p h1 h2))
   exact (a3I (N:=N) g1.sub (fun b o e=>I2.hok.fresh (low b o e)) (fun b o e ps=>by rcases Nc b o e with ⟨_,rfl⟩ | ⟨_,_,_,_,rfl⟩<;>nofun)).gg
 ·cases e2⟩
end
end L2.L3
namespace L2.L3
open PySem PySem.Spec PyProof.Rows
section
variable {X:Cx} {e:Expr} {fk:EF} {pos ap cp:Pos}
def a0U (i:Nat) (fk:EF):SF:=fun ρ=>match ρ[i]? with
 | some (.dct kvs)=>bns (fk ρ) ρ fun k=>match a2C k with
  | some key=>if (gC key (kvs.map fun p=>(dB p.1,p.2))).isSome then some (.nx (ρ.set i (.dct (yT kvs key)))) else some (.nx ρ)
  | none=>none
 | _=>none
theorem b3d (i:Nat) {x:Str} {xp np:Pos} {j} (hk:DE X e fk) (hN:X.N[i]?=some x:=by rfl)
  (hv:Vis X.env.scope x:=by first | exact jx rfl | exact jX (jx rfl) | exact jX (jX rfl)) (hd:(x==("__debug__" : Str))=false:=by decide) (hcd:(x==("__classdict__" : Str))=false:=by decide)
  (m:M2 X (.Name x xp) "pop" ap e (.Constant .none j np) cp:=by exact ⟨rfl,rfl,rfl,rfl⟩)
  (hsw:swapsWith (.Call (.Attribute (.Name x xp) "pop" ap) [e,.Constant .none j np] [] cp) none pos.line X.env=pure false:=by rfl) :
  DS X (.Expr (.Call (.Attribute (.Name x xp) "pop" ap) [e,.Constant .none j np] [] cp) pos) (a0U i fk):=⟨fun pins s σ H D I ⟨ρ,o,H0,G₀,G,ef,R,q⟩=>
 a1X (a9z (gZ hN hv hd hcd) hk.run b4L m) hsw pins s σ H D I (by
  unfold a0U at ef
  split at ef
  ·rename_i kvs hi
   obtain ⟨a,vs,e1,h1,_⟩:=R.ownD hi
   refine ⟨.ref a,e1,a,rfl,.inl ⟨vs,.inl h1⟩,sE R ef q fun k u G1 H1 g1 R1 ru e2 q1=>?_⟩
   split at e2
   ·rename_i key hk'
    rw [oI hk'] at ru
    cases oE ru
    obtain ⟨a',vs',e1',h1',h2,h3,r'⟩:=R1.ownD hi
    rw [e1] at e1';cases e1'
    have ls:=tQ (k:=key) r'.keys r'.vals
    refine ⟨vs',key,h1',rfl,fun v ev=>?_,fun ev=>?_⟩
    ·rw [if_pos (by rw [←ls,ev];rfl)] at e2
     cases (qA e2)
     exact q1 G1 _ σ (.refl _) (R1.wroteD hi e1 r'.drop)
    ·rw [if_neg (by rw [←ls,ev];decide)] at e2
     cases (qA e2)
     exact q1 G1 _ σ (.refl _) R1
   ·cases e2
  ·cases ef)⟩
end
end L2.L3
namespace L2.L3
open PySem PySem.Spec PyProof.Rows
theorem a6M {X:Cx} {e o:Expr} {fk fd:EF} {pos:Pos} (hu:X.A.units+64<cLine) (hk:DE X e fk) (ho:DE X o fd) (hm:behindInMarks .NotIn o=false:=by rfl):DT X (.Compare e [.NotIn] [o] pos) (cH uS fk fd):=⟨fun pins s σ H Q I ⟨ρ,r,H0,G₀,G,ef,R,q⟩=>
 a9o (a7B (by omega) hk.run ho.run) hm pins s σ H Q I (bE R ef q.x fun k u G1 H1 g1 R1 ru e1=>bE R1 e1 (q.more g1).x fun x v G2 H2 g2 R2 rv e2=>by
  obtain ⟨t,et,rfl⟩:=aY e2
  unfold uS at et
  obtain ⟨t0,et0,etn⟩:=qK.mp et
  clear et
  unfold a5g at et0
  split at et0
  ·rename_i D key hk'
   have et1:=qA et0
   subst et1
   subst etn
   rw [oI hk'] at ru
   cases oE ru
   cases rv with
   | dict h e0 rr=>
    rename_i a kvs
    refine ⟨a,lU kvs key,rfl,.inl ⟨kvs,key,.inl (g2.sub _ _ h),rfl,rfl⟩,?_⟩
    rw [tQ e0 rr]
    exact ⟨_,rfl,q _ _ (g1.trans g2)⟩
  ·cases et0)⟩
end L2.L3
namespace L2.L3
open PySem PySem.Spec PyProof.Rows
def a7K (kvs:List (Key×V)):List (Key×V):=kvs.foldl (fun a p=>putK a p.1 p.2) []
def a3w (kvs:List (Key×PyData)):List (Key×PyData):=kvs.foldl (fun a p=>oM a p.1 p.2) []
theorem a3B:∀ {kvs:List (Key×V)} {vs:List (Key×Value)} {a:List (Key×V)} {b:List (Key×Value)},KV a b→KV kvs vs→KV (kvs.foldl (fun a p=>putK a p.1 p.2) a) (PySem.merged b vs)
 | [],_,a,b,h,.nil=>h
 | p::kvs,_,a,b,h,.cons (b:=q) r t=>by
  have h1:=KV.put h p.1 r.2
  have:=a3B (kvs:=kvs) h1 t
  show KV (kvs.foldl _ (putK a p.1 p.2)) (PySem.merged (stored b q.1 q.2) _)
  rw [←r.1]
  exact this
theorem a9k (l:List (Key×V)) (k:Key) (v:V):(putK l k v).length≤l.length+1:=by
 unfold putK
 split
 ·rw [qD];omega
 ·rw [jA];simp
theorem a1q:∀ (kvs a:List (Key×V)),(kvs.foldl (fun a p=>putK a p.1 p.2) a).length≤a.length+kvs.length
 | [],a=>qN _
 | p::kvs,a=>by
  have:=a1q kvs (putK a p.1 p.2)
  have:=a9k a p.1 p.2
  rw [jG,qi];omega
theorem a3T {K:qB} {G:Hp}:∀ {kvs:List (Key×V)} {ks:List (Key×PyData)} {a:List (Key×V)} {b:List (Key×PyData)},dD K G a b→kvs.map (·.1)=ks.map (·.1)→RepAll K G (kvs.map (·.2)) (ks.map (·.2)) →
  dD K G (kvs.foldl (fun a p=>putK a p.1 p.2) a) (ks.foldl (fun a p=>oM a p.1 p.2) b)
 | [],[],_,_,h,_,_=>h
 | [],_::_,_,_,_,h,_=>by cases h
 | _::_,[],_,_,_,h,_=>by cases h
 | p::kvs,q::ks,a,b,h,e,r=>by
  rw [qG,qG] at e r
  injection e with e1 e2
  cases r with
  | cons r1 r2=>
   rw [jG,jG,←e1]
   exact a3T (h.put r1) e2 r2
section
variable {X:Cx}
theorem a5w (hc:X.calm=true):dU X (.type "dict") (fun xs H Q=>∃ (p:Addr) (ts:List V) (kvs:List (Key×V)),xs=[.ref p]∧SqL X.K H p ts∧Paired (fun t (kv:Key×V)=>∃ a,t=V.ref a∧SqT X.K H a [kV kv.1,kv.2]) ts kvs∧kvs.length≤1000 ∧
  ∀ l,H l=none→Q (.ref l) (upd H l (.dK (a7K kvs)))):=by
 intro pins s σ H xs us Q I r ⟨p,ts,kvs,e,hq,hp,hz,q⟩
 subst e
 obtain ⟨u,rfl,rx⟩:=vals1 r
 cases rx
 obtain ⟨its,rv,⟨o,n,ho,hcl,hdc,hda⟩,_⟩:=I.list hq
 obtain ⟨prs,kv,hv⟩:=a4F I hp rv
 obtain ⟨oc,od,odt,osl⟩:=o
 dsimp only at hcl hdc hda
 subst hcl hdc hda
 have l1:=b0e kv
 have l2:=pE hp
 have l3:=rv.length
 refine SX.dict_of (knd:=bF X.prog X.w) (prs:=prs) (I.ok.hd hc) ho (by rw [qL];omega) (fun i v e=>hv i v (by simpa using e)) (by have:kvs.length≤sizeLine:=qr (eB (by omega));omega) fun h' tk dd kp=>?_
 have ne:(s.heap.objs.size==sysModules)=false:=beq_eq_false_iff_ne.mpr (jK (a6w I))
 have fl:=a1q kvs []
 have hline:(a7K kvs).length≤sizeLine:=qr (eB (by unfold a7K;simp at fl;omega))
 exact ⟨.ref s.heap.objs.size,_,I.laid (t':=tk) (a:=s.heap.objs.size) (o:=.dK (a7K kvs)) kp (qN _) ⟨hline,ne,_,a3B .nil kv,dd⟩,rfl,q _ I.fresh⟩
def a1x (ds:List PyData):Option PyData:=match ds with
 | [.list xs]=>match dH nD xs with
  | some kvs=>if decide (kvs.length≤1000) then some (pG (a3w kvs)) else none
  | none=>none
 | _=>none
theorem b1a (hc:X.calm=true) (ds:List PyData) (d:PyData) (h:a1x ds=some d):CallD X (.type "dict") ds d:=by
 unfold a1x at h
 split at h
 ·split at h
  ·rename_i xs ks e
   split at h
   ·rename_i hh
    rw [decide_eq_true_eq] at hh
    cases (qA h)
    exact ⟨_,a5w hc,fun vs G H Q s r q=>by
     cases r with | cons r rr=>cases rr;cases r with | list hq r=>
      obtain ⟨kvs,p1,p2,p3⟩:=oF r e
      have hl:kvs.length=ks.length:=by have:=congrArg zV p2;simpa using this
      refine ⟨_,_,kvs,rfl,s.seq hq,Paired.mapP p1 (fun a b ⟨t,e1,e2⟩=>⟨t,e1,gM s e2⟩),by omega,fun l hl=>?_⟩
      have dk:=a3T (a:=[]) (b:=[]) ⟨rfl,.nil⟩ p2 p3
      refine q _ _ _ (.put s hl) (.dict aL ?_ ?_)
      ·rw [qV]
       have:(a3w ks).map ((fun x=>x.1)∘fun p:Key×PyData=>(dB p.1,p.2))=((a3w ks).map (·.1)).map dB:=by rw [qV];rfl
       rw [this]
       have e2:(a7K kvs).map (fun p=>dB p.1)=((a7K kvs).map (·.1)).map dB:=by rw [qV];rfl
       rw [e2]
       exact congrArg _ dk.1.symm
      ·rw [qV]
       exact dk.2.mono (bJ (s.free hl))⟩
   ·cases h
  ·cases h
 ·cases h
end
end L2.L3
namespace L2.L3
open PySem PySem.Spec PyProof.Rows
open PySem.AutoSeq1 (wpAny_loadPart')
theorem a8b (l:Addr) (items:Array Value) (n:Nat) (dct:Option Addr) (sl:Array (Option Value)) :
  Meets (Builtin.«enumerate.__new__» ⟨[.type "enumerate", .ref l],[]⟩) (fun _ R s=>s.heap.get? l=some { cls:=.type "tuple", dict:=dct,data:=.seq items n,slots:=sl } ∧
   R (.ok (.ret (.ref (s.heap.push { cls:=.type "tuple_iterator", data:=.fields #[.ref l,.int 0 0] }).objs.size)))
    { s with heap:=(s.heap.push { cls:=.type "tuple_iterator", data:=.fields #[.ref l,.int 0 0] }).push { cls:=.type "enumerate", data:=.fields #[.none,.bool false,.ref s.heap.objs.size,rawInt 0,.none,.none] } }):=
 .of_wp fun prog w A R s h=>by
  obtain ⟨hp,g,d,tk,os⟩:=s;obtain ⟨hl,h⟩:=h
  have hsub:=sub_enumerate
  have hL:Heap.IsTuple (Shared.heap ⟨hp,g,d,tk,os⟩) l items:=⟨_,hl,rfl,n,rfl⟩
  wp_walk using wpAny_loadPart' hl
  refine wpAny_stack_any fun st=>wpAny_pure ?_
  split
  ·rename_i c _ _ _ _ _
   cases (c==zO "enumerate")<;>(wp_walk using wpAny_loadPart' hl,wpAny_pyIter_tuple hL;exact ⟨_,rfl,h⟩)
  ·wp_walk using wpAny_loadPart' hl,wpAny_pyIter_tuple hL
   exact ⟨_,rfl,h⟩
section
variable {prog:Program} {w:World} {A:Around} {E:Value→Shared→Prop} {s:Shared}
theorem a5v {l:Addr} {items:Array Value} {Q:Value→Shared→Prop} (hL:s.heap.IsTuple l items)
  (h:∀ h',IsEnum h' (s.heap.objs.size+1) s.heap.objs.size 0 .none→h'.IsTupleIter s.heap.objs.size l 0→(∀ b o,s.heap.get? b=some o→h'.get? b=some o)→Q (.ref (s.heap.objs.size+1)) { s with heap:=h' }) :
  wpAny (model prog w) A (call (.type "enumerate") [.ref l]) Q E s:=by
 obtain ⟨⟨c,dct,dt,sl⟩,hl,hc,n,hd⟩:=hL
 obtain rfl:c=.type "tuple" := hc
 obtain rfl:dt=.seq items n:=hd
 refine callType_new F.called_enumerate (by decide) (F.typeCall_enumerate_1 _) (F.newCall_enumerate_1 _) (fun obj=>F.args_object_init_2 obj _) F.entry_enumerate_new (a8b l items n dct sl) ⟨hl,?_⟩
 generalize hI:s.heap.push { cls:=.type "tuple_iterator", data:=.fields #[.ref l,.int 0 0] }=hh
 have hz:hh.objs.size=s.heap.objs.size+1:=by rw [←hI,qz]
 have it:hh.get? s.heap.objs.size=some { cls:=.type "tuple_iterator", data:=.fields #[.ref l,.int 0 0] }:=by rw [←hI];exact qI _ rfl
 have kp:∀ b o,s.heap.get? b=some o→hh.get? b=some o:=fun b o e=>by rw [←hI];exact qC _ e
 show _∧_
 rw [hz]
 have he:IsEnum (hh.push { cls:=.type "enumerate", data:=.fields #[.none,.bool false,.ref s.heap.objs.size,rawInt 0,.none,.none] }) (s.heap.objs.size+1) s.heap.objs.size 0 .none:=by
  have:=qI hh (o:={ cls:=.type "enumerate", data:=.fields #[.none,.bool false,.ref s.heap.objs.size,rawInt 0,.none,.none] }) rfl
  rw [hz] at this;exact this
 exact ⟨⟨_,he,rfl⟩,h _ he ⟨_,qC _ it,rfl,rfl⟩ fun b o x=>qC _ (kp b o x)⟩
theorem b5O (hh:A.handled=none) (it l:Addr) (hne:l≠it) (items:Array Value):Draws prog w A it [it,l] items.size (fun i v=>items[i]?=some v) (fun i h=>h.IsTupleIter it l i∧h.IsTuple l items) where
 live:=fun _ _ st=>let ⟨o,ho,_⟩:=st.1;⟨o,ho⟩
 frame:=fun _ _ _ st hk=>⟨st.1.at fun o e=>hk it (by simp) o e,by
  obtain ⟨o,ho,r⟩:=st.2
  exact ⟨o,hk l (by simp) o ho,r⟩⟩
 item:=fun i s Q E hi st hQ=>by
  refine L2.ZT.tup_next st.1 st.2 (x:=items[i]) (by simp [hi]) fun h' hit' hs'=>?_
  obtain ⟨o,ho,r⟩:=st.2
  exact hQ _ h' s.toks (by simp [hi]) ⟨hit',⟨o,hs'.extBut l o hne ho,r⟩⟩ hs'
 done:=fun s Q E st hE=>L2.ZT.tup_stop hh st.1 st.2 (by simp) hE
theorem b5P (hh:A.handled=none) (it l:Addr) (items:Array Value) (n:Nat) (hn:items.size≤n):Draws prog w A it [it,l] n (fun _ _=>True) (fun i h=>i=n∧h.IsTupleIter it l n∧h.IsTuple l items) where
 live:=fun _ _ st=>let ⟨o,ho,_⟩:=st.2.1;⟨o,ho⟩
 frame:=fun _ _ _ st hk=>⟨st.1,st.2.1.at fun o e=>hk it (by simp) o e,by
  obtain ⟨o,ho,r⟩:=st.2.2
  exact ⟨o,hk l (by simp) o ho,r⟩⟩
 item:=fun i s Q E hi st hQ=>by have:=st.1;omega
 done:=fun s Q E st hE=>L2.ZT.tup_stop hh st.2.1 st.2.2 (by simp;omega) hE
end
def Itm (K:qB) (l:Addr):It:=
 ⟨fun i H=>∃ xs x,SqT K H l xs∧xs[i]?=some x,
 fun i H v H'=>∃ T x,H T=none∧v=.ref T∧H'=upd H T (.tup [.int (i:Int),x])∧∀ xs,SqT K H l xs→xs[i]?=some x,
 fun i H=>∃ xs,SqT K H l xs∧xs.length≤i⟩
def b1F (e it l:Addr) (i:Nat) (h:Heap):Prop:=(∃ old,IsEnum h e it i old)∧h.IsTupleIter it l i
theorem a4q {P:Program} {w:World} {K:qB} {elts:List Expr} {k0:Nat} {p0:Pos} {e it l:Addr} (hne:e≠it) (hli:l≠it) (hel:e≠l):Turn P w K (.Tuple elts k0 p0) (Itm K l) [e,it] e (b1F e it l) where
 mem:=by simp
 obj:=fun i h ⟨⟨old,he⟩,⟨o1,g1,_,d1⟩⟩ c hc=>by
  simp only [qF,qe,or_false] at hc
  rcases hc with rfl | rfl
  ·exact ⟨_,he,fun v q=>by cases q⟩
  ·exact ⟨o1,g1,fun v q=>by rw [d1] at q;cases q⟩
 keep:=fun i h h' ⟨⟨old,he⟩,h1⟩ kp=>⟨⟨old,kp e (by simp) _ he⟩,h1.at fun o q=>kp it (by simp) o q⟩
 item:=by
  intro X hP hw hK hc i pins s σ H E I hf ⟨⟨old,he⟩,h1⟩ ⟨xs,x,q1,ex⟩
  subst hP hw hK
  obtain ⟨its,r1,p1,_⟩:=I.tuple q1
  obtain ⟨u,eu,ru⟩:=r1.get ex
  have hi:i<its.length:=(qS.mp eu).1
  have p1':s.heap.IsTuple l its.toArray:=p1
  refine wpAny_pyNext_enum_itemD (b5O (by rw [Around.in1_handled];exact I.ok.hd hc) it l hli its.toArray) he ⟨h1,p1'⟩ (by rw [qL];exact hi) hne (by simp [hne,hel]) fun x' h' tk hx a1 a2 a3 a4 hk=>⟨_,rfl,?_⟩
  rw [qt,eu] at hx
  cases hx
  refine wpAny_letOwnedTupleGo_enum a1 fun h2' hz' hs'=>?_
  have hk2:∀ c o,c∉[e,it]→s.heap.get? c=some o→h2'.get? c=some o:=fun c o hc q=>by
   simp only [qF,qe,or_false,not_or] at hc
   exact hs'.extBut c o hc.1 (hk c o hc.1 hc.2 q)
  have nT:s.heap.objs.size≠e:=jK (qH he)
  have new:bY X.prog X.w (upd H s.heap.objs.size (.tup [.int (i:Int),x])) h2' s.heap.objs.size (.tup [.int (i:Int),x]):=
   ⟨by show 2≤sizeLine;decide,[.int i tk,u],.cons ⟨_,rfl⟩ (.cons ru .nil),⟨_,hs'.extBut _ _ nT a3,rfl,_,rfl⟩⟩
  have hfT:H s.heap.objs.size=none:=I.hok.fresh (qN _)
  refine ⟨.ref s.heap.objs.size,upd H s.heap.objs.size (.tup [.int (i:Int),x]),Inv.turnNew (s:=s) (h':=h2') (t':=tk+1) [e,it] I (fun c hc=>hf c hc) hk2 (qN _) new,rfl,
   ⟨_,x,hfT,rfl,rfl,fun xs' q=>by rw [I.tuple_inj q q1];exact ex⟩,⟨⟨u,hz'⟩,a2.1.extBut hs'.extBut (jh hne)⟩,fun c hc=>?_⟩
  obtain ⟨o,q,_⟩:∃ o,s.heap.get? c=some o∧True:=by
   simp only [qF,qe,or_false] at hc
   rcases hc with rfl | rfl
   ·exact ⟨_,he,trivial⟩
   ·obtain ⟨o,g,_⟩:=h1;exact ⟨o,g,trivial⟩
  rw [aH (qW (qH q))]
  exact (hf c hc).1
 done:=by
  intro X hP hw hK hc i pins s σ H E I hf ⟨⟨old,he⟩,h1⟩ ⟨xs,q1,hend⟩
  subst hP hw hK
  obtain ⟨its,r1,p1,_⟩:=I.tuple q1
  have l1':=r1.length
  have p1':s.heap.IsTuple l its.toArray:=p1
  refine wpAny_pyNext_enum_endD (b5P (by rw [Around.in1_handled];exact I.ok.hd hc) it l its.toArray i (by rw [qL];omega)) he ⟨rfl,h1,p1'⟩ fun h' hk=>⟨rfl,Inv.turnAll (t':=s.toks) [e,it] I (fun c hc=>hf c hc) fun c o hc q=>?_⟩
  simp only [qF,qe,or_false,not_or] at hc
  exact hk c o hc.2 q
 self:=fun A i s Q E ⟨⟨old,he⟩,_⟩ h=>wpAny_pyIter_enum he h
theorem a4l {K:qB} {G:Hp} {l:Addr} {xs:List V} {ds:List PyData} (h1:SqT K G l xs) (r1:RepAll K G xs ds):Walk K (Itm K l) G (yP ds):=by
 intro i G' H' s1 s2
 have a1:=gM (s1.trans s2) h1
 refine ⟨fun d e=>?_,fun hl=>⟨xs,a1,?_⟩⟩
 ·rw [b2X] at e
  obtain ⟨p,e1,rfl⟩:=qK.mp e
  obtain ⟨v,ev,rv⟩:=r1.get e1
  refine ⟨⟨xs,v,a1,ev⟩,fun x H2 ⟨T,x',hT,ex,eH,b1⟩=>?_⟩
  subst ex eH
  have b3:=b1 xs a1
  rw [ev] at b3
  cases b3
  have hG:G' T=none:=s2.free hT
  exact ⟨upd G' T (.tup [.int (i:Int),v]),.put s2 hT,.tuple (.of aL) (.cons (.int _) (.cons ((rv.mono s1).mono (bJ hG)) .nil))⟩
 ·unfold yP at hl
  rw [qD,jm] at hl
  have e1:=r1.length
  omega
section
variable {X:Cx} {a:Expr} {elts:List Expr} {k0:Nat} {p0 pos p:Pos} {fa:EF}
def a3N (fa:EF):AF:=fun ρ=>match fa ρ with
 | some (.ok (.tuple a))=>some (.ok (yP a))
 | _=>none
theorem b1c (hm:X.mg "enumerate" = none) (ha:DE X a fa) (hs:starEach [a] X.env=(false,eval a X.env)::starEach [] X.env:=by rfl)
  (hpl:(backTo pos (starEach [] X.env)).any (·.1)=false:=by rfl) (hg:Gl X "enumerate":=by rfl):DI X (.Tuple elts k0 p0) (.Call (.Name "enumerate" p) [a] [] pos) (a3N fa):=a6R fun ρ r e=>by
 unfold a3N at e
 split at e
 ·rename_i as e1
  refine ⟨_,(qA e).symm,⟨?_⟩⟩
  intro pins s σ H R I ⟨H0,G₀,G,S,q⟩
  have pa:=fE (ha.pd e1) mE hs
  refine wpAny_Call_Name_kw (iZ I hg hm boot_enumerate ?_ (by decide) (by decide))
  refine jS (thn (pa.run H0 G₀ G pos pins s σ H (fun vs H'=>∃ G',Grow G H G' H'∧RepAll X.K G' vs [.tuple as]) I S fun vs G' H' g r=>⟨G',g,r⟩) fun us s1 ⟨vs,H1,I1,r1,G1,g1,w1⟩=>?_) hs hpl
  cases w1 with
  | cons wa wn=>
   cases wn
   cases wa with
   | @tuple l xs _ hq ra=>
    obtain ⟨u,rfl,ru⟩:=vals1 r1
    cases ru
    obtain ⟨its,r1',p1,_⟩:=I1.tuple (gM g1.sub hq)
    have lt:l<s1.heap.objs.size:=by obtain ⟨o,ho,_⟩:=p1;exact qH ho
    refine a5v (show s1.heap.IsTuple l its.toArray from p1) fun h' z1 z2 hk=>?_
    refine wpAny_pyIter_enum z1 ?_
    refine ⟨s1.heap.objs.size+1,[s1.heap.objs.size+1,s1.heap.objs.size],_,_,H1,rfl,I1.kept (h':=h') (t':=s1.toks) (fun b o e=>hk b o e),a4q (Nat.succ_ne_self _) (qW lt) (jK (jZ lt)),⟨⟨_,z1⟩,z2⟩,fun c hc=>?_,q _ G1 H1 g1 (a4l hq ra)⟩
    have ge:s1.heap.objs.size≤c:=by
     simp only [qF,qe,or_false] at hc
     rcases hc with h | h<;>rw [h]<;>first | exact vB _ _ | exact qN _
    exact I1.fpOk ge (I1.hok.fresh ge)
 ·cases e
end
end L2.L3
namespace HT
open PySem PySem.Spec PyProof.Rows
section
variable {prog:Program} {w:World} {A:Around} {E:Value→Shared→Prop} {s:Shared}
end
end HT
namespace L2
open PySem PySem.Spec PyProof.Rows
end L2
namespace L2.L3
open PySem PySem.Spec PyProof.Rows
section
variable {X:Cx} {a:Expr} {lo hi:Option Expr} {fa:EF} {fl fh:OF} {pos p2:Pos}
end
abbrev pK:EF:=cE (.nm 0) [none] (cY (aU eX (aC (var 0) (aC (var 1) (aC (cst (.int 6)) aG))))) ttT (fN (aC (op2 ixD (var 0) (cst (.int 0))) (aC (var 0) aG)))
abbrev lV:TF:=cH gtD (var 8) (cst (.int 0))
abbrev a0k:SF:=bI (dW 8 (aU cG (aC (var 0) (aC (op2 cU (op2 cU (var 1) (cst (.int 60))) (var 4)) (aC (cst (.int 4)) aG))))) (ifS lV (a3o 3 (var 5) (fN (aC (var 5) (aC (var 6) (aC (op2 cU (var 7) (cI a5d (aC (mV eqD (var 8) (cst (.int 3))) aG))) aG))))) (a0U 3 (var 5)))
abbrev pJ:EF:=cE (.nm 0) [none,some 3] (cY (cI lF (aC (var 3) aG))) ttT (op2 yI (var 1) (var 0))
def uD:SF:=(bI (a6j 3 (aC pK aG)) (bI (a2t (.nn 4 [5,6,7]) (a3N (var 2)) a0k) (a3J 3 (retS (cI pZ (aC pJ aG))))))
def lQ:List PyData→Mm PyData:=eA 9 3 uD
abbrev a4u:TF:=thT (orT (cH neD (dfE b5W (var 1) (cst (.bool true))) (cst (.int 1))) (a2d (rB (b5y dE 0))))
def a7Y:SF:=(bI (a7E 1 (aC (a0w dE 0 "NoBack") (aC (a0w dE 0 "NoMeeting") (aC (a0w dE 0 "NoSheet") aG)))) (bI (b5G 1 (gP (aC (a0w dE 0 "NoText") aG))) (a3J 1 (bI (a2f 1 (var 1) (gP (aC (a0w dE 0 "NoTime") (aC (a0w dE 0 "NoZone") (aC (a0w dE 0 "Taken") aG))))) (a3J 1 (bI (a2f 1 (var 1) (gP (aC (a0w dE 0 "TooMany") aG))) (bI (ifS a4u (retS (cst (.str "wrong"))) iY) (bI (dW 2 (gP (aC (cst (.str "no back")) (aC (cst (.str "no meeting")) (aC (cst (.str "no sheet")) (aC (cst (.str "no text")) (aC (cst (.str "no time")) (aC (cst (.str "no zone")) (aC (cst (.str "taken")) (aC (cst (.str "too many")) aG)))))))))) (a3J 1 (retS (op2 ixD (var 2) (dfE b5D (var 1) (cst (.bool true))))))))))))))
def fV:Str→Mm PyData:=b4y 3 a7Y
abbrev iB:EF:=cE (.nm 0) [none,some 1] (cY (aU cW (aC (var 0) aG))) (cH a0t (var 0) (aU cW (aC (var 1) aG))) (var 0)
def a0y:SF:=(retS iB)
def eK:List PyData→Mm PyData:=eA 2 2 a0y
abbrev mT:EF:=cE (.nm 0) [none,some 1] (cY (var 0)) (a0D (cH a0t (var 0) (var 1)) (cH inX (op2 ixD (var 0) (cst (.int 0))) (aU cW (aC (var 1) aG)))) (op2 ixD (var 0) (cst (.int 0)))
def iD:SF:=(bI (dW 2 mT) (retS (fN (aC (aU eK (aC (var 0) (aC (var 1) aG))) (aC (aU eK (aC (var 1) (aC (var 0) aG))) (aC (var 2) aG))))))
def bM:List PyData→Mm PyData:=eA 3 2 iD
abbrev tV:EF:=cE (.nm 0) [none,some 1] (cY (var 0)) (cH inX (var 0) (var 1)) (var 0)
def b0N:SF:=(retS (cI pZ (aC tV aG)))
def lT:List PyData→Mm PyData:=eA 2 2 b0N
abbrev oZ:TF:=rB (op2 ixD (aU bM (aC (var 0) (aC (var 1) aG))) (cst (.int 2)))
abbrev yD:EF:=cE (.nm 0) [none,some 0] (cY (var 1)) (cH a0t (var 0) (var 1)) (var 0)
abbrev wT:TF:=cH gtD (cI yB (aC (var 2) aG)) (cst (.int 16))
def lK:SF:=(bI (ifS oZ (xK "Taken") iY) (bI (dW 2 (op2 cU (var 0) (cI pZ (aC yD aG)))) (bI (ifS wT (xK "TooMany") iY) (retS (cI pZ (aC (cI a7o (aC (var 2) aG)) aG))))))
def fU:List PyData→Mm PyData:=a1V 3 2 lK
abbrev fF:EF:=cE (.tp [0,1]) [none,none,some 3,some 4] (cY (aU a0o (aC (var 1) aG))) ttT (cI a9Z (aC (op2 a9e (cI a7L (aC (var 3) (aC (var 1) aG))) (cI a9Z (aC (var 2) (aC (var 0) aG)))) (aC (cst (.int 0)) aG)))
abbrev iE:SF:=a8z 2 .Add (cI a4x (aC fF aG))
def lA:SF:=(bI (dW 2 (cst (.int 0))) (bI (a2t (.tp [3,4]) (cY (aU a0o (aC (var 0) aG))) iE) (retS (var 2))))
def cJ:List PyData→Mm PyData:=eA 5 2 lA
abbrev uX:EF:=cE (.tp [0,1,2]) [none,none,none] (cY (var 0)) ttT (op2 a9e (var 2) (var 1))
def pM:SF:=(retS (cI a4x (aC uX aG)))
def iF:List PyData→Mm PyData:=eA 1 1 pM
abbrev b0o:EF:=cE (.nm 0) [none] (cY (var 2)) ttT (fN (aC (op2 ixD (var 0) (cst (.int 0))) (aC (var 0) aG)))
abbrev b0m:EF:=cE (.nm 0) [none] (cY (var 1)) ttT (fN (aC (op2 ixD (var 0) (cst (.int 0))) (aC (var 0) aG)))
abbrev b0k:EF:=cE (.nm 0) [none,some 3,some 4] (cY (cI lF (aC (var 3) aG))) (a0D (cH a5g (var 0) (var 2)) (cH neD (op2 yI (var 1) (var 0)) (op2 yI (var 2) (var 0)))) (var 0)
abbrev b0i:EF:=cE (.nm 0) [none,some 3] (cY (cI lF (aC (var 4) aG))) (cH uS (var 0) (var 1)) (var 0)
abbrev b0h:EF:=cE (.nm 0) [none,some 4] (cY (cI lF (aC (var 3) aG))) (cH uS (var 0) (var 1)) (var 0)
abbrev a9a:TF:=cH neD (aU bM (aC (var 1) (aC (var 2) aG))) (fN (aC (op2 ixD (var 6) (cst (.int 0))) (aC (op2 ixD (var 6) (cst (.int 1))) (aC (var 5) aG))))
abbrev a8Z:TF:=cH neD (aU bM (aC (var 2) (aC (var 1) aG))) (fN (aC (op2 ixD (var 6) (cst (.int 1))) (aC (op2 ixD (var 6) (cst (.int 0))) (aC (var 5) aG))))
abbrev b0g:EF:=cE (.nm 0) [none,some 2] (cY (var 1)) (cH inX (var 0) (var 1)) (var 0)
abbrev a8Y:TF:=orT (cH neD (aU lT (aC (var 1) (aC (var 2) aG))) (var 7)) (orT (cH neD (aU lT (aC (var 2) (aC (var 1) aG))) (var 7)) (isT true (.bool true) (aU iH (aC (var 7) aG))))
abbrev a4W:EF:=a0f fU (aC (var 0) (aC (var 1) aG))
abbrev a4t:TF:=cH neD (var 5) (gP aG)
abbrev a4s:TF:=cH neD (var 8) (cst (.str "taken"))
abbrev b0f:EF:=cE (.nm 0) [none,some 9] (cY (cI lF (aC (var 9) aG))) ttT (op2 yI (var 1) (var 0))
abbrev a1L:TF:=orT (cH neD (var 8) (cI pZ (aC b0f aG))) (orT (cH neD (a0f fU (aC (var 2) (aC (var 1) aG))) (var 8)) (cH neD (aU lT (aC (var 8) (aC (var 1) aG))) (var 1)))
abbrev a4Y:EF:=cE (.tp [0,1,2]) [none,none,none,some 11] (cY (var 1)) (a3Z leD ltD (var 1) (var 3) (var 2)) (cst (.int 1))
abbrev a4X:EF:=cE (.tp [0,1,2]) [none,none,none,some 11] (cY (var 2)) (a3Z leD ltD (var 1) (var 3) (var 2)) (cst (.int 1))
abbrev a2M:SF:=bI (dW 12 a4Y) (bI (dW 13 a4X) (dW 10 (op2 cU (var 10) (cI a5d (aC (a0l (mV neD (var 12) (gP aG)) (mV neD (var 13) (gP aG))) aG)))))
abbrev a8X:TF:=orT (cH neD (aU cJ (aC (var 1) (aC (var 2) aG))) (var 10)) (orT (cH neD (aU cJ (aC (var 2) (aC (var 1) aG))) (var 10)) (cH neD (aU cJ (aC (var 1) (aC (fN aG) aG))) (cst (.int 0))))
def b0M:SF:=(bI (dW 1 (aU eX (aC (var 0) (aC (cst (.int 0)) (aC (cst (.int 7)) aG))))) (bI (dW 2 (aU lQ (aC (var 0) (aC (cst (.int 100)) (aC (var 1) aG))))) (bI (b4k (.tp [3,4]) (fN (aC (cI yV (aC b0m aG)) (aC (cI yV (aC b0o aG)) aG)))) (bI (dW 5 b0k) (bI (dW 6 (gP (aC b0h (aC b0i aG)))) (bI (ifS a9a (retS (cst (.bool false))) iY) (bI (ifS a8Z (retS (cst (.bool false))) iY) (bI (dW 7 (cI pZ (aC b0g aG))) (bI (ifS a8Y (retS (cst (.bool false))) iY) (bI (dW 8 (a2X dE fV [some 1,some 2] a4W)) (bI (dW 9 (cI a1x (aC (op2 cU (op1 a2q (var 3)) (op1 a2q (var 4))) aG))) (bI (ifS a4t (ifS a4s (retS (cst (.bool false))) iY) (ifS a1L (retS (cst (.bool false))) iY)) (bI (dW 10 (cst (.int 0))) (bI (a2t (.nm 11) (a3n (cst (.int 420))) a2M) (bI (ifS a8X (retS (cst (.bool false))) iY) (retS (a0l (mV leD (aU cJ (aC (var 1) (aC (var 1) aG))) (aU iF (aC (var 1) aG))) (a0l (mV eqD (a0f fU (aC (var 1) (aC (var 1) aG))) (var 1)) (mV eqD (aU bM (aC (var 1) (aC (var 1) aG))) (fN (aC (gP aG) (aC (gP aG) (aC (gP aG) aG)))))))))))))))))))))))
def F_law:List PyData→Mm PyData:=eA 14 1 b0M
theorem xT {m:Mt} {l:List Mt} (h1:qh m.1=true) (h2:∀ x∈l,qh x.1=true):a0t (dM m) (dS l)=some (!decide (m∈l)):=by
 show (a1p (dM m) (l.map dM)).map _=_
 unfold a1p
 rw [if_pos (by
  rw [qJ,jN]
  exact ⟨a3h h1,fun d hd=>by obtain ⟨x,hx,rfl⟩:=qU.mp hd;exact a3h (h2 x hx)⟩)]
 have:((l.map dM).any fun d=>jC d (dM m))=decide (m∈l):=by
  rw [List.any_map,kN,List.any_eq_true,decide_eq_true_eq]
  constructor
  ·rintro ⟨x,hx,e⟩
   have e:jC (dM x) (dM m)=true:=e
   rw [a2x,decide_eq_true_eq] at e
   rw [←e];exact hx
  ·exact fun h=>⟨m,h,by show jC (dM m) (dM m)=true;rw [a2x];simp⟩
 rw [this];rfl
theorem a6z {m:Mt} {l:List Mt} (h1:qh m.1=true) (h2:∀ x∈l,qh x.1=true):inX (dM m) (dS l)=some (decide (m∈l)):=by
 have:=xT h1 h2
 unfold a0t at this
 obtain ⟨b,e1,e2⟩:=qK.mp this
 rw [e1]
 cases b<;>simp at e2<;>simp [e2]
theorem a9O (x:Str) (ns:List Str):a0t (.str x) (.list (ns.map .str))=some (!decide (x∈ns)):=by
 unfold a0t;rw [a6y];rfl
structure RwOk (s:List Mt):Prop where
 nr:NR s
 ok:∀ m∈s,qh m.1=true
 few:s.length≤40
section
variable {s o:List Mt}
theorem a6K (hs:RwOk s) (ho:RwOk o):eK [dS s,dS o]=some (.ok (.list ((cD s o).map .str))):=by
 have l1:=hs.few
 have l2:=ho.few
 refine bZ rfl ?_
 show retS iB [.val (dS s),.val (dS o)]=_
 have k:iB [.val (dS s),.val (dS o)]=some (.ok (.list ((cD s o).map .str))):=
  dC jg (fun x=>[.val (.str x),.val (dS o)]) (fun x=>!decide (x∈o.map (·.1))) jg (s.map (·.1)) (iM (bN (ds:=[dS s]) rfl (wO s (by omega))) rfl) (by rw [qD];omega) (fun x _=>rfl)
   (fun x _=>fI (x:=.str x) (y:=.list ((o.map (·.1)).map .str)) rfl (bN (ds:=[dS o]) rfl (wO o (by omega))) (a9O x _)) (fun x _ _=>rfl)
 rw [fC,k];rfl
theorem sB (hs:RwOk s) (ho:RwOk o):bM [dS s,dS o]=some (.ok (.tuple [.list ((cD s o).map .str),.list ((cD o s).map .str),.list ((aF s o).map .str)])):=by
 have l1:=hs.few
 have l2:=ho.few
 refine bZ rfl ?_
 show iD [.val (dS s),.val (dS o),.no]=_
 unfold iD
 have k:mT [.val (dS s),.val (dS o),.no]=some (.ok (.list ((aF s o).map .str))):=by
  unfold aF
  rw [qV]
  have key:=dC (t:=.nm 0) (cap:=[none,some 1]) (fi:=cY (var 0)) (ft:=a0D (cH a0t (var 0) (var 1)) (cH inX (op2 ixD (var 0) (cst (.int 0))) (aU cW (aC (var 1) aG)))) (fe:=op2 ixD (var 0) (cst (.int 0))) (ρ:=[.val (dS s),.val (dS o),.no]) dM (fun m=>[.val (dM m),.val (dS o)]) (fun r=>!decide (r∈o)&&decide (r.1∈o.map (·.1))) (fun m=>.str m.1) s rfl (by omega) (fun m _=>rfl) (fun m hm=>?_) (fun m _ _=>rfl)
  ·exact key
  rw [b1v,fI (x:=dM m) (y:=dS o) rfl rfl (xT (hs.ok m hm) ho.ok),bV]
  rw [fI (x:=.str m.1) (y:=.list ((o.map (·.1)).map .str)) rfl (bN (ds:=[dS o]) rfl (wO o (by omega))) (a6y m.1 _)]
  exact a6u _ _
 rw [aQ (ρ':=[.val (dS s),.val (dS o),.val (.list ((aF s o).map .str))]) (by rw [dY,k];rfl)]
 rw [fC,wR,bD (bN (ds:=[dS s,dS o]) rfl (a6K hs ho)) (bD (bN (ds:=[dS o,dS s]) rfl (a6K ho hs)) rfl)];rfl
theorem yR (hs:RwOk s) (ho:RwOk o):lT [dS s,dS o]=some (.ok (dS (s.filter fun r=>decide (r∈o)))):=by
 have l1:=hs.few
 refine bZ rfl ?_
 show retS (cI pZ (aC tV aG)) [.val (dS s),.val (dS o)]=_
 have k:tV [.val (dS s),.val (dS o)]=some (.ok (.list ((s.filter fun r=>decide (r∈o)).map dM))):=
  dC dM (fun m=>[.val (dM m),.val (dS o)]) (fun r=>decide (r∈o)) dM s rfl (by omega) (fun m _=>rfl) (fun m hm=>fI (x:=dM m) (y:=dS o) rfl rfl (a6z (hs.ok m hm) ho.ok)) (fun m _ _=>rfl)
 rw [fC,dG (ds:=[.list ((s.filter fun r=>decide (r∈o)).map dM)]) (bD k rfl) (a0I _)];rfl
theorem yQ (hs:RwOk s) (ho:RwOk o) (h16:aF s o=[]→(aZ s o).length≤16):fU [dS s,dS o]=some (if aF s o=[] then .ok (dS (cZ (aZ s o))) else .ex "Taken"):=by
 have l1:=hs.few
 have l2:=ho.few
 have t1:oZ [.val (dS s),.val (dS o),.no]=some (.ok (!(aF s o).isEmpty)):=by
  show rB (op2 ixD (aU bM (aC (var 0) (aC (var 1) aG))) (cst (.int 2))) _=_
  rw [a8S,mG (x:=.tuple [.list ((cD s o).map .str),.list ((cD o s).map .str),.list ((aF s o).map .str)]) (y:=.int 2) (bN (ds:=[dS s,dS o]) rfl (sB hs ho)) rfl rfl,bV]
  cases aF s o<;>rfl
 by_cases hu:aF s o=[]
 ·have h16:=h16 hu
  rw [if_pos hu]
  rw [hu] at t1
  refine b1Q rfl ?_
  show lK [.val (dS s),.val (dS o),.no]=_
  unfold lK
  rw [ifF t1]
  have k:yD [.val (dS s),.val (dS o),.no]=some (.ok (.list ((o.filter fun r=>!decide (r∈s)).map dM))):=
   dC dM (fun m=>[.val (dM m),.val (dS s)]) (fun r=>!decide (r∈s)) dM o rfl (by omega) (fun m _=>rfl) (fun m hm=>fI (x:=dM m) (y:=dS s) rfl rfl (xT (ho.ok m hm) hs.ok)) (fun m _ _=>rfl)
  have a:cU (dS s) (dS (o.filter fun r=>!decide (r∈s)))=some (dS (aZ s o)):=by
   show cU (.tuple _) (.tuple _)=_
   unfold aZ
   rw [b6g,if_pos (by
    rw [qD,qD]
    have:=kJ (fun r=>!decide (r∈s)) o
    omega),←qj]
  rw [aQ (ρ':=[.val (dS s),.val (dS o),.val (dS (aZ s o))]) (by
   rw [dY,mG (x:=dS s) (y:=dS (o.filter fun r=>!decide (r∈s))) rfl (dG (ds:=[.list ((o.filter fun r=>!decide (r∈s)).map dM)]) (bD k rfl) (a0I _)) a];rfl)]
  have t2:wT [.val (dS s),.val (dS o),.val (dS (aZ s o))]=some (.ok false):=by
   refine fI (x:=.int ((aZ s o).length:Nat)) (y:=.int 16) (dG (ds:=[dS (aZ s o)]) rfl (by simp)) rfl ?_
   rw [b3U,decide_eq_false (by omega)]
  rw [ifF t2]
  have nd:=sW hs.nr ho.nr hu
  have sg:a7o [.tuple ((aZ s o).map dM)]=some (.list (pA ((aZ s o).map dM))):=a4y (k:=false) (g:=[true,true]) (fun d hd=>by obtain ⟨m,_,rfl⟩:=qU.mp hd;rfl) (by rw [qD];omega)
  rw [fC,dG (ds:=[.list ((cZ (aZ s o)).map dM)]) (bD (dG (ds:=[dS (aZ s o)]) rfl (by rw [sg,a9g nd])) rfl) (a0I _)];rfl
 ·rw [if_neg hu]
  have hb:(!(aF s o).isEmpty)=true:=by
   cases h:aF s o with
   | nil=>exact absurd h hu
   | cons _ _=>rfl
  rw [hb] at t1
  refine b1R (ρ:=[.val (dS s),.val (dS o),.no]) rfl ?_
  show lK [.val (dS s),.val (dS o),.no]=_
  unfold lK bI
  have e1:ifS oZ (xK "Taken") iY [.val (dS s),.val (dS o),.no]=some (.xc "Taken" [.val (dS s),.val (dS o),.no]):=by rw [nR,t1];rfl
  rw [e1]
theorem sC (h1:s.length≤30) (h2:o.length≤30):cJ [dS s,dS o]=some (.ok (.int (eZ s o))):=by
 have b1:=a4g s
 have b2:=a4g o
 refine bZ rfl ?_
 show lA [.val (dS s),.val (dS o),.no,.no,.no]=_
 unfold lA
 rw [aQ (ρ':=[.val (dS s),.val (dS o),.val (.int 0),.no,.no]) rfl]
 have lp:∀ (G:List (Int×Int)) (t:Int) (x y:Ent),∃ x' y',hZ (.tp [3,4]) iE (G.map dP) [.val (dS s),.val (dS o),.val (.int t),x,y]=some (.nx [.val (dS s),.val (dS o),.val (.int (t+(G.map fun p=>((bG o).map fun q=>max (min p.2 q.2 - max p.1 q.1) 0).sum).sum)),x',y']):=by
  intro G
  induction G with
  | nil=>exact fun t x y=>⟨x,y,by simp [hZ]⟩
  | cons p G ih=>
   intro t x y
   obtain ⟨x',y',e⟩:=ih (t+((bG o).map fun q=>max (min p.2 q.2 - max p.1 q.1) 0).sum) (.val (.int p.1)) (.val (.int p.2))
   refine ⟨x',y',?_⟩
   have k:fF [.val (dS s),.val (dS o),.val (.int t),.val (.int p.1),.val (.int p.2)]=some (.ok (.list (((bG o).map fun q=>max (min p.2 q.2 - max p.1 q.1) 0).map .int))):=by
    rw [qV]
    exact cK dP (fun q=>[.val (.int q.1),.val (.int q.2),.val (.int p.1),.val (.int p.2)]) (fun q=>.int (max (min p.2 q.2 - max p.1 q.1) 0)) (bG o) (iM (bN (ds:=[dS o]) rfl (b0R o h2)) rfl) (by omega) (fun q _=>rfl) (fun q _=>rfl)
   have st:iE [.val (dS s),.val (dS o),.val (.int t),.val (.int p.1),.val (.int p.2)]=some (.nx [.val (dS s),.val (dS o),.val (.int (t+((bG o).map fun q=>max (min p.2 q.2 - max p.1 q.1) 0).sum)),.val (.int p.1),.val (.int p.2)]):=by
    have e1:=dG (g:=a4x) (aa:=aC fF aG) (ρ:=[.val (dS s),.val (dS o),.val (.int t),.val (.int p.1),.val (.int p.2)]) (ds:=[.list (((bG o).map fun q=>max (min p.2 q.2 - max p.1 q.1) 0).map .int)]) (bD k rfl) (b3J _)
    show a8z 2 .Add _ _=_
    unfold a8z
    show bns (cI a4x (aC fF aG) _) _ _=_
    rw [e1];rfl
   rw [qG,a7N (t:=.tp [3,4]) (ρ1:=[.val (dS s),.val (dS o),.val (.int t),.val (.int p.1),.val (.int p.2)]) rfl st,e]
   rw [qG,zS,Int.add_assoc]
 obtain ⟨x',y',e⟩:=lp (bG s) 0 .no .no
 rw [aQ (ρ':=[.val (dS s),.val (dS o),.val (.int (0+eZ s o)),x',y']) (by
  rw [yJ,iM (bN (ds:=[dS s]) rfl (b0R s h1)) rfl]
  exact e),Int.zero_add]
 rfl
end
theorem b2Y (s:List Mt) (h:s.length≤1000):iF [dS s]=some (.ok (.int (worthOf s))):=by
 refine bZ rfl ?_
 show pM [.val (dS s)]=_
 unfold pM
 have k:uX [.val (dS s)]=some (.ok (.list ((s.map fun x=>x.2.2 - x.2.1).map .int))):=by
  rw [qV]
  exact cK dM (fun m=>[.val (.str m.1),.val (.int m.2.1),.val (.int m.2.2)]) (fun m=>.int (m.2.2 - m.2.1)) s rfl (by omega) (fun m _=>rfl) (fun m _=>rfl)
 rw [fC,dG (ds:=[.list ((s.map fun x=>x.2.2 - x.2.1).map .int)]) (by rw [gA,k];rfl) (b3J _)];rfl
abbrev enR (u:List Mt):List (Key×PyData):=u.map fun r=>((.inr r.1:Key),dM r)
abbrev aP (u:List Mt):PyData:=pG (enR u)
abbrev prR (r:Mt):PyData:=.tuple [.str r.1,dM r]
theorem rJ:∀ u:List Mt,dH nD (u.map prR)=some (enR u)
 | []=>rfl
 | r::u=>by
  rw [qG]
  unfold dH
  rw [show nD (prR r)=some ((.inr r.1:Key),dM r) from rfl,rJ u];rfl
theorem b5o (u:List Mt):(enR u).map (·.1)=(u.map (·.1)).map jp:=by rw [qV,qV];rfl
theorem b6Y {u:List Mt} (nd:(u.map (·.1)).Nodup):((enR u).map (·.1)).Nodup:=by
 rw [b5o,List.Nodup,jl]
 exact List.Pairwise.imp (fun {a b} n z=>n (zx z)) nd
theorem b0Z {u:List Mt} (nd:(u.map (·.1)).Nodup) (hz:u.length≤1000):yV [.list (u.map prR)]=some (aP u):=b1b (rJ u) (b6Y nd) (by rw [qD];exact hz)
theorem a4T (x:Str):∀ u:List Mt,gC (.inr x) ((enR u).map fun p=>(dB p.1,p.2))=if x∈u.map (·.1) then some (dM (rowAt u x)) else none
 | []=>rfl
 | r::u=>by
  show (if (some (jp r.1):Option Key)=some (jp x) then some (dM r) else gC (.inr x) ((enR u).map fun p=>(dB p.1,p.2)))=_
  by_cases c:r.1=x
  ·rw [if_pos (by rw [c]),if_pos (by rw [←c];simp)]
   unfold rowAt
   rw [List.find?_cons_of_pos (by simpa using c)];rfl
  ·rw [if_neg (fun z=>c (zx (qA z))),a4T x u]
   unfold rowAt
   rw [List.find?_cons_of_neg (by simpa using c)]
   have:x∈(r::u).map (·.1)↔x∈u.map (·.1):=by
    rw [qG,qF]
    exact ⟨fun z=>z.elim (fun w=>absurd w.symm c) id,.inr⟩
   by_cases d:x∈u.map (·.1)
   ·rw [if_pos d,if_pos (this.mpr d)]
   ·rw [if_neg d,if_neg (fun z=>d (this.mp z))]
theorem a6C {u:List Mt} {x:Str} (h:x∈u.map (·.1)):yI (aP u) (.str x)=some (dM (rowAt u x)):=by
 show gC (.inr x) ((enR u).map fun p=>(dB p.1,p.2))=_
 rw [a4T,if_pos h]
theorem b7j (u:List Mt) (x:Str):a5g (.str x) (aP u)=some (decide (x∈u.map (·.1))):=by
 show some (gC (.inr x) ((enR u).map fun p=>(dB p.1,p.2))).isSome=_
 rw [a4T]
 by_cases h:x∈u.map (·.1)
 ·rw [if_pos h,decide_eq_true h];rfl
 ·rw [if_neg h,decide_eq_false h];rfl
theorem b6W (u:List Mt) (x:Str):uS (.str x) (aP u)=some (!decide (x∈u.map (·.1))):=by unfold uS;rw [b7j];rfl
theorem b1x:∀ u:List Mt,a5I ((enR u).map fun p=>(dB p.1,p.2))=some (u.map (·.1))
 | []=>rfl
 | r::u=>by
  show (match b5t (jg r.1,dM r),a5I ((enR u).map fun p=>(dB p.1,p.2)) with | some x,some xs=>some (x::xs) | _,_=>none)=_
  rw [b1x u];rfl
theorem a5R {u:List Mt} (h:u.length<64):lF [aP u]=some (.list ((eG (u.map (·.1))).map .str)):=by
 show (match a5I ((enR u).map fun p=>(dB p.1,p.2)) with | some ns=>if ns.length<64 then some (vy ((eG ns).map .str)) else none | none=>none)=_
 rw [b1x]
 dsimp only
 rw [if_pos (by rw [qD];exact h)]
theorem b7f (u:List Mt):a2q (aP u)=some (.list (u.map prR)):=by
 show some (vy (((enR u).map fun p=>(dB p.1,p.2)).map fun p=>PyData.tuple [p.1,p.2]))=_
 rw [qV,qV];rfl
def xM (u:List Mt) (r:Mt):List Mt:=if r.1∈u.map (·.1) then u.map (fun q=>if q.1=r.1 then r else q) else u++[r]
theorem b3M (u:List Mt) (r:Mt):oM (enR u) (.inr r.1) (dM r)=enR (xM u r):=by
 have a:((enR u).any fun kv=>decide (kv.1=(jp r.1:Key)))=decide (r.1∈u.map (·.1)):=by
  rw [kN,List.any_map,List.any_eq_true,decide_eq_true_eq,qU]
  constructor
  ·rintro ⟨q,hq,e⟩
   have e:decide ((jp q.1:Key)=jp r.1)=true:=e
   rw [decide_eq_true_eq] at e
   exact ⟨q,hq,zx e⟩
  ·rintro ⟨q,hq,e⟩
   exact ⟨q,hq,by show decide ((jp q.1:Key)=jp r.1)=true;rw [e];simp⟩
 unfold oM xM
 rw [a]
 by_cases h:r.1∈u.map (·.1)
 ·rw [if_pos (decide_eq_true h),if_pos h]
  show (u.map _).map _=(u.map _).map _
  rw [qV,qV]
  refine jQ fun q _=>?_
  show (if (jp q.1:Key)=jp r.1 then ((jp q.1:Key),dM r) else ((jp q.1:Key),dM q))=((jp (if q.1=r.1 then r else q).1:Key),dM (if q.1=r.1 then r else q))
  by_cases c:q.1=r.1
  ·rw [if_pos (by rw [c]),if_pos c,c]
  ·rw [if_neg (fun z=>c (zx z)),if_neg c]
 ·rw [if_neg (by rw [decide_eq_false h];decide),if_neg h]
  show _=(u++[r]).map _
  rw [qj];rfl
theorem b5N (u:List Mt) (x:Str):yT (enR u) (.inr x)=enR (u.filter fun q=>decide (q.1≠x)):=by
 unfold yT
 rw [vK]
 congr 1
 refine ky fun q _=>?_
 show decide ((jp q.1:Key)≠jp x)=decide (q.1≠x)
 rw [decide_eq_decide]
 exact ⟨fun z w=>z (by rw [w]),fun z w=>z (zx w)⟩
theorem xL {u:List Mt} {r:Mt} (nd:(u.map (·.1)).Nodup):((xM u r).map (·.1)).Nodup∧∀ m∈xM u r,m=r∨m∈u:=by
 unfold xM
 by_cases h:r.1∈u.map (·.1)
 ·rw [if_pos h]
  constructor
  ·rw [qV]
   rw [show (u.map ((fun x:Mt=>x.1)∘fun q=>if q.1=r.1 then r else q))=u.map (·.1) from jQ fun q _=>by
    show (if q.1=r.1 then r else q).1=q.1
    by_cases c:q.1=r.1
    ·rw [if_pos c,c]
    ·rw [if_neg c]]
   exact nd
  ·intro m hm
   obtain ⟨q,hq,rfl⟩:=qU.mp hm
   by_cases c:q.1=r.1
   ·exact .inl (by rw [if_pos c])
   ·exact .inr (by rw [if_neg c];exact hq)
 ·rw [if_neg h]
  constructor
  ·rw [qj,kt]
   refine ⟨nd,by simp,fun a ha b hb e=>?_⟩
   subst e
   have hb:a=r.1:=by simpa using hb
   exact h (hb▸ha)
  ·intro m hm
   rcases jE.mp hm with z | z
   ·exact .inr z
   ·exact .inl (by simpa using z)
theorem a6l:∀ (o s:List Mt),(∀ q∈o,q.1∈s.map (·.1)→q∈s)→(s.map (·.1)).Nodup→(o.map (·.1)).Nodup→(enR o).foldl (fun a p=>oM a p.1 p.2) (enR s)=enR (s++o.filter fun r=>!decide (r∈s))
 | [],s,_,_,_=>by rw [List.filter_nil,kM];rfl
 | q::o,s,h,ns,no=>by
  rw [qG,jV] at no
  show (enR o).foldl _ (oM (enR s) (.inr q.1) (dM q))=_
  rw [b3M]
  by_cases c:q.1∈s.map (·.1)
  ·have hq:=h q (by simp) c
   have e:xM s q=s:=by
    unfold xM
    rw [if_pos c]
    refine (jQ fun r hr=>?_).trans (List.map_id' _)
    by_cases d:r.1=q.1
    ·rw [if_pos d,eQ ns hr hq d]
    ·rw [if_neg d]
   rw [e,a6l o s (fun r hr=>h r (by simp [hr])) ns no.2,qo (by simpa using hq)]
  ·have hq:q∉s:=fun z=>c (jP (f:=(·.1)) z)
   have e:xM s q=s++[q]:=by unfold xM;rw [if_neg c]
   have ns':((s++[q]).map (·.1)).Nodup:=by rw [←e];exact (xL ns).1
   rw [e,a6l o (s++[q]) (fun r hr z=>?_) ns' no.2,qg (by simpa using hq),kz]
   ·congr 2
    show q::_=q::_
    congr 1
    refine ky fun r hr=>?_
    have:r≠q:=fun z=>no.1 (z▸jP (f:=(·.1)) hr)
    simp [this]
   ·rw [qj,jE] at z
    rcases z with z | z
    ·exact jw _ (h r (by simp [hr]) z)
    ·have z:r.1=q.1:=by simpa using z
     exact absurd (z▸jP (f:=(·.1)) hr) no.1
theorem b3f {s o:List Mt} (hs:RwOk s) (ho:RwOk o) (h:aF s o=[]):a1x [.list (s.map prR++o.map prR)]=some (aP (aZ s o)):=by
 have l1:=hs.few
 have l2:=ho.few
 show (match dH nD (s.map prR++o.map prR) with | some kvs=>if decide (kvs.length≤1000) then some (pG (a3w kvs)) else none | none=>none)=_
 rw [←qj,rJ]
 dsimp only
 rw [if_pos (decide_eq_true (by rw [qD,jA];omega))]
 have:a3w (enR (s++o))=enR (aZ s o):=by
  unfold a3w
  rw [show enR (s++o)=enR s++enR o from qj,vo]
  have e1:=a6l s [] (fun q _ z=>by cases z) (by simp) hs.nr.nd
  rw [show ([]:List (Key×PyData))=enR [] from rfl,e1]
  rw [show ([]++s.filter fun r=>!decide (r∈([]:List Mt)))=s from by rw [zU,List.filter_eq_self.mpr (fun _ _=>by simp)]]
  exact a6l o s (fun q hq z=>a6q ho.nr h hq z) hs.nr.nd ho.nr.nd
 rw [this]
theorem a1w {s o:List Mt} (hs:s.length≤40) (ho:o.length≤40):a1x [.list (s.map prR++o.map prR)]=some (pG (a3w (enR (s++o)))):=by
 show (match dH nD (s.map prR++o.map prR) with | some kvs=>if decide (kvs.length≤1000) then some (pG (a3w kvs)) else none | none=>none)=_
 rw [←qj,rJ]
 dsimp only
 rw [if_pos (decide_eq_true (by rw [qD,jA];omega))]
structure OthOk (u:List Mt):Prop where
 nd:(u.map (·.1)).Nodup
 each:∀ m∈u,m.1∈aV∧0≤m.2.1∧m.2.1<m.2.2∧m.2.2≤401
theorem OthOk.len {u:List Mt} (h:OthOk u):u.length≤10:=by
 have:=tN (m:=aV) h.nd fun x hx=>by obtain ⟨m,hm,rfl⟩:=qU.mp hx;exact (h.each m hm).1
 rw [qD] at this
 exact this
theorem OthOk.rw {u:List Mt} (h:OthOk u):RwOk (cZ u):=⟨nE h.nd,fun m hm=>xV _ (h.each m ((iQ h.nd m).mp hm)).1,by rw [(rM h.nd).length_eq];have:=h.len;omega⟩
def b1d:Mt:=("", 0,0)
theorem enum_rows (s:List Mt):yP (s.map dM)=(qd s.length).map fun (k:Nat)=>.tuple [.int (k:Int),dM (s.getD k b1d)]:=by
 unfold yP
 rw [qD]
 refine jQ fun k hk=>?_
 have hk:=kS.mp hk
 rw [qx,qP,qM hk,qx,qM hk];rfl
theorem b3b {ns:List Int} {s:List Mt} (S:SheetOk s) (pp:∀ k many:Int,0≤k→0<many→∃ p:Int,cG [dN ns,.int k,.int many]=some (.ok (.int p))∧0≤p∧p<many) {u0:List Mt} (eu:eX [dN ns,.int 100,.int 6]=some (.ok (dS u0))) (S0:SheetOk u0) :
  ∃ u,OthOk u∧lQ [dN ns,.int 100,dS s]=some (.ok (dS (cZ u))):=by
 have few:=S.few
 have few0:=S0.few
 have nm:∀ {s:List Mt},SheetOk s→∀ m∈s,m.1∈aV:=fun {s} S m hm=>by
  have q:m.1∈s.map (·.1):=jP (f:=(·.1)) hm
  rw [S.names] at q
  exact zM q
 have ok0:OthOk u0:=⟨S0.nodup,fun m hm=>⟨nm S0 m hm,by have:=S0.times m hm;omega⟩⟩
 have k1:pK [.val (dN ns),.val (.int 100),.val (dS s),.no,.no,.no,.no,.no,.no]=some (.ok (.list (u0.map prR))):=
  cK dM (fun m=>[.val (dM m)]) prR u0 (iM (bN (ds:=[dN ns,.int 100,.int 6]) rfl eu) rfl) (by omega) (fun m _=>rfl) (fun m _=>rfl)
 have n1:a6j 3 (aC pK aG) [.val (dN ns),.val (.int 100),.val (dS s),.no,.no,.no,.no,.no,.no]=some (.nx [.val (dN ns),.val (.int 100),.val (dS s),.dct (enR u0),.no,.no,.no,.no,.no]):=by
  unfold a6j
  rw [bD k1 (xs:=[]) rfl,lM]
  dsimp only
  rw [rJ]
  dsimp only
  rw [if_pos (by
   rw [qJ,qJ,decide_eq_true_eq,decide_eq_true_eq]
   exact ⟨⟨b6Y S0.nodup,by rw [qD];omega⟩,rfl⟩)]
  rfl
 obtain ⟨ρ',el,u,a,b,c,d,e,rfl,ou⟩:∃ ρ',a2t (.nn 4 [5,6,7]) (a3N (var 2)) a0k [.val (dN ns),.val (.int 100),.val (dS s),.dct (enR u0),.no,.no,.no,.no,.no]=some (.nx ρ')∧∃ u a b c d e,ρ'=[.val (dN ns),.val (.int 100),.val (dS s),.dct (enR u),a,b,c,d,e]∧OthOk u:=by
  have hr:a3N (var 2) [.val (dN ns),.val (.int 100),.val (dS s),.dct (enR u0),.no,.no,.no,.no,.no]=some (.ok ((qd s.length).map fun (k:Nat)=>PyData.tuple [.int (k:Int),dM (s.getD k b1d)])):=by
   rw [←enum_rows]
   rfl
  rw [yJ,hr,lM]
  refine a7O (fun (k:Nat)=>PyData.tuple [.int (k:Int),dM (s.getD k b1d)]) (fun ρ=>∃ u a b c d e,ρ=[.val (dN ns),.val (.int 100),.val (dS s),.dct (enR u),a,b,c,d,e]∧OthOk u) (qd s.length) _ ⟨u0,.no,.no,.no,.no,.no,rfl,ok0⟩ ?_
  rintro k hk _ ⟨u,a,b,c,d,e,rfl,ou⟩
  have hk:=kS.mp hk
  have hm:s.getD k b1d∈s:=by rw [qx,qM hk];exact jM hk
  generalize s.getD k b1d=m at hm
  have tm:=S.times m hm
  have ul:=ou.len
  obtain ⟨w,ew,w0,w4⟩:=pp (100+60+(k:Int)) 4 (by omega) (by decide)
  have st:dW 8 (aU cG (aC (var 0) (aC (op2 cU (op2 cU (var 1) (cst (.int 60))) (var 4)) (aC (cst (.int 4)) aG)))) [.val (dN ns),.val (.int 100),.val (dS s),.dct (enR u),.val (.int (k:Int)),.val (.str m.1),.val (.int m.2.1),.val (.int m.2.2),e]=some (.nx [.val (dN ns),.val (.int 100),.val (dS s),.dct (enR u),.val (.int (k:Int)),.val (.str m.1),.val (.int m.2.1),.val (.int m.2.2),.val (.int w)]):=by
   rw [dY,bN (ds:=[dN ns,.int (100+60+(k:Int)),.int 4]) rfl ew];rfl
  have t1:lV [.val (dN ns),.val (.int 100),.val (dS s),.dct (enR u),.val (.int (k:Int)),.val (.str m.1),.val (.int m.2.1),.val (.int m.2.2),.val (.int w)]=some (.ok (decide (0<w))):=fI (x:=.int w) (y:=.int 0) rfl rfl (b3U ..)
  by_cases hw:0<w
  ·obtain ⟨j,hj,j0,j1⟩:∃ j:Int,fN (aC (var 5) (aC (var 6) (aC (op2 cU (var 7) (cI a5d (aC (mV eqD (var 8) (cst (.int 3))) aG))) aG))) [.val (dN ns),.val (.int 100),.val (dS s),.dct (enR u),.val (.int (k:Int)),.val (.str m.1),.val (.int m.2.1),.val (.int m.2.2),.val (.int w)]=some (.ok (dM (m.1,m.2.1,m.2.2+j)))∧0≤j∧j≤1:=by
    by_cases h3:w=3
    ·subst h3
     exact ⟨1,rfl,by decide,by decide⟩
    ·refine ⟨0,?_,by decide,by decide⟩
     have e1:mV eqD (var 8) (cst (.int 3)) [.val (dN ns),.val (.int 100),.val (dS s),.dct (enR u),.val (.int (k:Int)),.val (.str m.1),.val (.int m.2.1),.val (.int m.2.2),.val (.int w)]=some (.ok (.bool false)):=by
      show lft ((eqD (.int w) (.int 3)).map zR)=_
      rw [b7p,decide_eq_false h3];rfl
     rw [wR,bD (x:=.str m.1) rfl (bD (x:=.int m.2.1) rfl (bD (mG (x:=.int m.2.2) (y:=.int 0) rfl (dG (ds:=[.bool false]) (bD e1 rfl) rfl) rfl) rfl))];rfl
   have ok1:=xL (r:=(m.1,m.2.1,m.2.2+j)) ou.nd
   refine ⟨[.val (dN ns),.val (.int 100),.val (dS s),.dct (enR u),.val (.int (k:Int)),.val (.str m.1),.val (.int m.2.1),.val (.int m.2.2),e],[.val (dN ns),.val (.int 100),.val (dS s),.dct (enR (xM u (m.1,m.2.1,m.2.2+j))),.val (.int (k:Int)),.val (.str m.1),.val (.int m.2.1),.val (.int m.2.2),.val (.int w)],rfl,.inl ?_,xM u (m.1,m.2.1,m.2.2+j),_,_,_,_,_,rfl,ok1.1,fun q hq=>?_⟩
   ·show bI (dW 8 _) (ifS lV _ _) _=_
    rw [aQ st,nR,t1,lM,decide_eq_true hw,if_pos rfl]
    show a3o 3 (var 5) _ _=_
    unfold a3o
    show bns _ _ _=_
    rw [hj,lM]
    show (if fK (enR u).length then some (So.nx (List.set _ 3 (.dct (oM (enR u) (.inr m.1) (dM (m.1,m.2.1,m.2.2+j)))))) else none)=_
    rw [if_pos (by unfold fK;rw [qD];exact decide_eq_true (by omega)),b3M u (m.1,m.2.1,m.2.2+j)];rfl
   ·rcases ok1.2 q hq with rfl | hq
    ·exact ⟨nm S m hm,tm.1,by show m.2.1<m.2.2+j;omega,by show m.2.2+j≤401;omega⟩
    ·exact ou.each q hq
  ·have go:∃ u',a0U 3 (var 5) [.val (dN ns),.val (.int 100),.val (dS s),.dct (enR u),.val (.int (k:Int)),.val (.str m.1),.val (.int m.2.1),.val (.int m.2.2),.val (.int w)]=some (.nx [.val (dN ns),.val (.int 100),.val (dS s),.dct (enR u'),.val (.int (k:Int)),.val (.str m.1),.val (.int m.2.1),.val (.int m.2.2),.val (.int w)])∧OthOk u':=by
    by_cases hx:(gC (.inr m.1) ((enR u).map fun p=>(dB p.1,p.2))).isSome=true
    ·refine ⟨u.filter fun q=>decide (q.1≠m.1),?_,(vX.map _).nodup ou.nd,fun q hq=>ou.each q (qv.mp hq).1⟩
     unfold a0U
     show (if (gC (.inr m.1) ((enR u).map fun p=>(dB p.1,p.2))).isSome=true then _ else _)=_
     rw [if_pos hx,b5N];rfl
    ·refine ⟨u,?_,ou⟩
     unfold a0U
     show (if (gC (.inr m.1) ((enR u).map fun p=>(dB p.1,p.2))).isSome=true then _ else _)=_
     rw [if_neg hx]
   obtain ⟨u',e1,ou'⟩:=go
   refine ⟨[.val (dN ns),.val (.int 100),.val (dS s),.dct (enR u),.val (.int (k:Int)),.val (.str m.1),.val (.int m.2.1),.val (.int m.2.2),e],[.val (dN ns),.val (.int 100),.val (dS s),.dct (enR u'),.val (.int (k:Int)),.val (.str m.1),.val (.int m.2.1),.val (.int m.2.2),.val (.int w)],rfl,.inl ?_,u',_,_,_,_,_,rfl,ou'⟩
   show bI (dW 8 _) (ifS lV _ _) _=_
   rw [aQ st,nR,t1,lM,decide_eq_false hw,if_neg (by decide)]
   exact e1
 refine ⟨u,ou,?_⟩
 have ul:=ou.len
 refine bZ rfl ?_
 show uD [.val (dN ns),.val (.int 100),.val (dS s),.no,.no,.no,.no,.no,.no]=_
 unfold uD
 rw [aQ n1,aQ el]
 show retS (cI pZ (aC pJ aG)) [.val (dN ns),.val (.int 100),.val (dS s),.val (aP u),a,b,c,d,e]=_
 have k2:pJ [.val (dN ns),.val (.int 100),.val (dS s),.val (aP u),a,b,c,d,e]=some (.ok (.list ((cZ u).map dM))):=by
  unfold cZ
  rw [qV]
  have key:=cK (t:=.nm 0) (cap:=[none,some 3]) (fi:=cY (cI lF (aC (var 3) aG))) (fe:=op2 yI (var 1) (var 0)) (ρ:=[.val (dN ns),.val (.int 100),.val (dS s),.val (aP u),a,b,c,d,e]) jg (fun x=>[.val (.str x),.val (aP u)]) (fun x=>dM (rowAt u x)) (eG (u.map (·.1))) (iM (dG (ds:=[aP u]) rfl (a5R (by omega))) rfl) (by rw [(bP _).length_eq,qD];omega) (fun x _=>rfl)
   (fun x hx=>mG (x:=aP u) (y:=.str x) rfl rfl (a6C ((bP _).mem_iff.mp hx)))
  exact key
 rw [fC,dG (ds:=[.list ((cZ u).map dM)]) (bD k2 rfl) (a0I _)];rfl
theorem a3u {a b c:List Str} (ha:∀ x∈a,qh x=true) (hb:∀ x∈b,qh x=true) (hc:∀ x∈c,qh x=true) :
  qQ (.tuple [.list (a.map .str),.list (b.map .str),.list (c.map .str)])=true:=by
 refine xA (n:=2) (fun d hd=>?_) (fun d hd=>?_) (by decide)
 ·have:d=.list (a.map .str)∨d=.list (b.map .str)∨d=.list (c.map .str):=by simpa using hd
  rcases this with rfl | rfl | rfl
  ·exact jc (nZ ha)
  ·exact jc (nZ hb)
  ·exact jc (nZ hc)
 ·have dl:∀ l:List Str,jb (.list (l.map .str))≤2:=fun l=>by
   rw [jb]
   have:zp (l.map .str)≤1:=iS fun d hd=>by obtain ⟨x,_,rfl⟩:=qU.mp hd;simp [jb]
   omega
  have:d=.list (a.map .str)∨d=.list (b.map .str)∨d=.list (c.map .str):=by simpa using hd
  rcases this with rfl | rfl | rfl<;>exact dl _
theorem oN {a b c:List Str} (ha:∀ x∈a,qh x=true) (hb:∀ x∈b,qh x=true) (hc:∀ x∈c,qh x=true) :
  neD (.tuple [.list (a.map .str),.list (b.map .str),.list (c.map .str)]) (.tuple [.list (a.map .str),.list (b.map .str),.list (c.map .str)])=some false:=by
 rw [tO (a3u ha hb hc) (a3u ha hb hc),wD _ fun d hd=>?_]
 ·rfl
 ·have:d=.list (a.map .str)∨d=.list (b.map .str)∨d=.list (c.map .str):=by simpa using hd
  rcases this with rfl | rfl | rfl<;>rw [yN,nV,decide_eq_true rfl]
section
variable {s o:List Mt}
theorem sO (hs:RwOk s):∀ x∈cD s o,qh x=true:=fun x hx=>by
 obtain ⟨m,hm,rfl⟩:=qU.mp (qv.mp hx).1
 exact hs.ok m hm
theorem sU (hs:RwOk s):∀ x∈aF s o,qh x=true:=fun x hx=>by
 obtain ⟨m,hm,rfl⟩:=qU.mp hx
 exact hs.ok m (qv.mp hm).1
theorem a0L (hs:RwOk s):eG (s.map (·.1))=s.map (·.1):=fQ (bP _) (gK _) hs.nr.pw
theorem b8B (hs:RwOk s) (ho:RwOk o) (x0 x1 x2 x5 x6 x7 x8 x9 x10 x11 x12 x13:Ent):b0k [x0,x1,x2,.val (aP s),.val (aP o),x5,x6,x7,x8,x9,x10,x11,x12,x13]=some (.ok (.list ((aF s o).map .str))):=by
 have l1:=hs.few
 have key:=dC (t:=.nm 0) (cap:=[none,some 3,some 4]) (fi:=cY (cI lF (aC (var 3) aG))) (ft:=a0D (cH a5g (var 0) (var 2)) (cH neD (op2 yI (var 1) (var 0)) (op2 yI (var 2) (var 0)))) (fe:=var 0) (ρ:=[x0,x1,x2,.val (aP s),.val (aP o),x5,x6,x7,x8,x9,x10,x11,x12,x13]) jg (fun x=>[.val (.str x),.val (aP s),.val (aP o)])
  (fun x=>decide (x∈o.map (·.1))&&!decide (rowAt s x=rowAt o x)) jg (s.map (·.1)) (iM (dG (ds:=[aP s]) rfl (by rw [a5R (by omega),a0L hs])) rfl) (by rw [qD];omega) (fun x _=>rfl) (fun x hx=>?_) (fun x _ _=>rfl)
 ·refine key.trans ?_
  congr 4
  unfold aF
  rw [vK]
  congr 1
  refine ky fun m hm=>?_
  show (decide (m.1∈o.map (·.1))&&!decide (rowAt s m.1=rowAt o m.1))=(!decide (m∈o)&&decide (m.1∈o.map (·.1)))
  rw [pC hs.nr.nd hm]
  by_cases c:m.1∈o.map (·.1)
  ·obtain ⟨q,hq,e⟩:=qU.mp c
   rw [decide_eq_true c,Bool.true_and,Bool.and_true,←e,pC ho.nr.nd hq]
   congr 1
   rw [decide_eq_decide]
   exact ⟨fun z=>z▸hq,fun z=>(eQ ho.nr.nd hq z e).symm⟩
  ·rw [decide_eq_false c,Bool.false_and,Bool.and_false]
 ·rw [b1v,fI (x:=.str x) (y:=aP o) rfl rfl (b7j o x),bV]
  by_cases c:x∈o.map (·.1)
  ·obtain ⟨m,hm,em⟩:=qU.mp hx
   obtain ⟨q,hq,eq⟩:=qU.mp c
   have h1:qh (rowAt s x).1=true:=by rw [←em,pC hs.nr.nd hm];exact hs.ok m hm
   have h2:qh (rowAt o x).1=true:=by rw [←eq,pC ho.nr.nd hq];exact ho.ok q hq
   have ne:neD (dM (rowAt s x)) (dM (rowAt o x))=some (!decide (rowAt s x=rowAt o x)):=by
    rw [tO (a3h h1) (a3h h2)]
    have:=a2x (rowAt s x) (rowAt o x)
    rw [←this];rfl
   rw [decide_eq_true c,fI (mG (x:=aP s) (y:=.str x) rfl rfl (a6C hx)) (mG (x:=aP o) (y:=.str x) rfl rfl (a6C c)) ne];rfl
  ·rw [decide_eq_false c];rfl
theorem b7q {d e:Nat} (hs:RwOk s) (ρ:List Ent) (fi:EF) (hd:fi ρ=some (.ok (aP s))) (he:ρ[e]?=some (.val (aP o))) :
  cE (.nm 0) [none,some e] (cY (cI lF (aC fi aG))) (cH uS (var 0) (var 1)) (var 0) ρ=some (.ok (.list ((cD s o).map .str))):=by
 have l1:=hs.few
 have cp:dX [none,some e] ρ=[.no,.val (aP o)]:=by
  unfold dX
  simp [he]
 have:=dC (t:=.nm 0) (cap:=[none,some e]) (fi:=cY (cI lF (aC fi aG))) (ft:=cH uS (var 0) (var 1)) (fe:=var 0) (ρ:=ρ) jg (fun x=>[.val (.str x),.val (aP o)]) (fun x=>!decide (x∈o.map (·.1))) jg (s.map (·.1))
  (iM (dG (ds:=[aP s]) (bD hd rfl) (by rw [a5R (by omega),a0L hs])) rfl) (by rw [qD];omega) (fun x _=>by rw [cp];rfl) (fun x _=>fI (x:=.str x) (y:=aP o) rfl rfl (b6W o x)) (fun x _ _=>rfl)
 exact this
end
abbrev st5 (ns:List Int) (s o:List Mt) (x3 x4 x5 x6 x7 x8 x9 x10 x11 x12 x13:Ent):List Ent:=[.val (dN ns),.val (dS s),.val (dS o),x3,x4,x5,x6,x7,x8,x9,x10,x11,x12,x13]
theorem b2N {fa:EF} {ρ:List Ent} (h:fa ρ=some (.ok (.bool true))):isT true (.bool true) fa ρ=some (.ok false):=by rw [b7g,h];rfl
theorem a8j:fV "Taken" = some (.ok (.str "taken")):=by kernel_rfl
section
variable {ns:List Int} {s o:List Mt}
theorem a9K (s:List Mt) (m:Int):(!((s.filter (bS m)).map fun _=>jv 1).isEmpty)=decide (0<aS s m):=by
 unfold aS iP
 cases h:s.filter (bS m) with
 | nil=>rfl
 | cons a r=>
  rw [decide_eq_true (by rw [qG,qi];omega)];rfl
theorem b6p (hs:s.length≤40) (ho:o.length≤40) (x3 x4 x5 x6 x7 x8 x9 x12 x13:Ent) (t:Int) (m:Int) :
  ∃ a b,a2M (st5 ns s o x3 x4 x5 x6 x7 x8 x9 (.val (.int t)) (.val (.int m)) x12 x13)=some (.nx (st5 ns s o x3 x4 x5 x6 x7 x8 x9 (.val (.int (t+fJ s o m))) (.val (.int m)) a b)):=by
 have row:∀ {s:List Mt} {i:Nat} {ρ:List Ent},s.length≤40→cY (var i) ρ=some (.ok (s.map dM))→dX [none,none,none,some 11] ρ=[.no,.no,.no,.val (.int m)] →
   cE (.tp [0,1,2]) [none,none,none,some 11] (cY (var i)) (a3Z leD ltD (var 1) (var 3) (var 2)) (cst (.int 1)) ρ=some (.ok (.list ((s.filter (bS m)).map fun _=>.int 1))):=fun {s i ρ} hz h1 h2=>
  dC dM (fun r=>[.val (.str r.1),.val (.int r.2.1),.val (.int r.2.2),.val (.int m)]) (bS m) (fun _=>.int 1) s h1 (by omega) (fun r _=>by rw [h2];rfl) (fun r _=>by
   unfold bS
   by_cases c:r.2.1≤m<;>simp [c]) (fun r _ _=>rfl)
 have k8:a4Y (st5 ns s o x3 x4 x5 x6 x7 x8 x9 (.val (.int t)) (.val (.int m)) x12 x13)=some (.ok (.list ((s.filter (bS m)).map fun _=>.int 1))):=row hs rfl rfl
 have k9:a4X (st5 ns s o x3 x4 x5 x6 x7 x8 x9 (.val (.int t)) (.val (.int m)) (.val (.list ((s.filter (bS m)).map fun _=>.int 1))) x13)=some (.ok (.list ((o.filter (bS m)).map fun _=>.int 1))):=row ho rfl rfl
 refine ⟨.val (.list ((s.filter (bS m)).map fun _=>.int 1)),.val (.list ((o.filter (bS m)).map fun _=>.int 1)),?_⟩
 show bI (dW 12 a4Y) (bI (dW 13 a4X) (dW 10 _)) _=_
 rw [aQ (ρ':=st5 ns s o x3 x4 x5 x6 x7 x8 x9 (.val (.int t)) (.val (.int m)) (.val (.list ((s.filter (bS m)).map fun _=>.int 1))) x13) (by rw [dY,k8];rfl)]
 rw [aQ (ρ':=st5 ns s o x3 x4 x5 x6 x7 x8 x9 (.val (.int t)) (.val (.int m)) (.val (.list ((s.filter (bS m)).map fun _=>.int 1))) (.val (.list ((o.filter (bS m)).map fun _=>.int 1)))) (by rw [dY,k9];rfl)]
 have one:∀ s:List Mt,qQ (.list ((s.filter (bS m)).map fun _=>.int 1))=true:=fun s=>by
  have:=a5U ((s.filter (bS m)).map fun _=>(1:Int))
  rw [qV] at this;exact this
 have n1:∀ {s:List Mt} {i:Nat} {ρ:List Ent},var i ρ=some (.ok (.list ((s.filter (bS m)).map fun _=>.int 1)))→mV neD (var i) (gP aG) ρ=some (.ok (.bool (decide (0<aS s m)))):=fun {s i ρ} h=>by
  rw [a0c,h,bV]
  show lft ((neD (.list ((s.filter (bS m)).map fun _=>.int 1)) (.list [])).map zR)=_
  rw [a9P (one s),a9K];rfl
 have an:a0l (mV neD (var 12) (gP aG)) (mV neD (var 13) (gP aG)) (st5 ns s o x3 x4 x5 x6 x7 x8 x9 (.val (.int t)) (.val (.int m)) (.val (.list ((s.filter (bS m)).map fun _=>.int 1))) (.val (.list ((o.filter (bS m)).map fun _=>.int 1))))=some (.ok (.bool (decide (0<aS s m)&&decide (0<aS o m)))):=by
  rw [a5G,n1 (s:=s) rfl,bV]
  show (if decide (0<aS s m)=true then _ else _)=_
  rw [n1 (s:=o) rfl]
  exact b0q _ _
 rw [dY,mG (x:=.int t) (y:=.int (fJ s o m)) rfl (dG (ds:=[.bool (decide (0<aS s m)&&decide (0<aS o m))]) (bD an rfl) (by
  unfold fJ
  by_cases c1:0<aS s m<;>by_cases c2:0<aS o m<;>simp [c1,c2,a5d])) rfl];rfl
end
theorem a4A (s:List Mt):eZ s []=0:=by
 unfold eZ
 have e:bG []=[]:=by decide +kernel
 rw [e]
 have:∀ l:List (Int×Int),(l.map fun p=>(([]:List (Int×Int)).map fun q=>max (min p.2 q.2 - max p.1 q.1) 0).sum).sum=0:=fun l=>by
  induction l with
  | nil=>rfl
  | cons p l ih=>rw [qG,zS,ih];rfl
 exact this _
theorem b0c {ns:List Int} {s u:List Mt} (ps:eX [dN ns,.int 0,.int 7]=some (.ok (dS s))) (S:SheetOk s) (ou:OthOk u) (po:lQ [dN ns,.int 100,dS s]=some (.ok (dS (cZ u)))):F_law [dN ns]=some (.ok (.bool true)):=by
 have few:=S.few
 have hs:RwOk s:=⟨⟨S.nodup,S.pw⟩,S.name_ok,by omega⟩
 have ho:RwOk (cZ u):=ou.rw
 have each:∀ m∈cZ u,m.1∈aV∧0≤m.2.1∧m.2.1<m.2.2∧m.2.2≤401:=fun m hm=>ou.each m ((iQ ou.nd m).mp hm)
 have ul:(cZ u).length≤10:=by rw [(rM ou.nd).length_eq];exact ou.len
 generalize cZ u=o at *
 have nmS:∀ m∈s,m.1∈aV:=fun m hm=>by
  have q:m.1∈s.map (·.1):=jP (f:=(·.1)) hm
  rw [S.names] at q
  exact zM q
 have togL:∀ {a b:List Mt},NR a→NR b→(∀ m∈a,m.1∈aV)→(∀ m∈b,m.1∈aV)→aF a b=[]→(aZ a b).length≤16:=fun {a b} ha hb na nb h=>by
  have:=tN (m:=aV) (sW ha hb h) fun x hx=>by
   obtain ⟨m,hm,rfl⟩:=qU.mp hx
   rcases rP.mp hm with z | z
   ·exact na m z
   ·exact nb m z
  rw [qD] at this
  exact ql this (by decide)
 have t0:=togL hs.nr ho.nr nmS fun m hm=>(each m hm).1
 have t0':=togL ho.nr hs.nr (fun m hm=>(each m hm).1) nmS
 have uc:=uO hs.nr ho.nr
 refine bZ rfl ?_
 show b0M [.val (dN ns),.no,.no,.no,.no,.no,.no,.no,.no,.no,.no,.no,.no,.no]=_
 unfold b0M
 rw [aQ (ρ':=[.val (dN ns),.val (dS s),.no,.no,.no,.no,.no,.no,.no,.no,.no,.no,.no,.no]) (by rw [dY,bN (ds:=[dN ns,.int 0,.int 7]) rfl ps];rfl)]
 rw [aQ (ρ':=st5 ns s o .no .no .no .no .no .no .no .no .no .no .no) (by rw [dY,bN (ds:=[dN ns,.int 100,dS s]) rfl po];rfl)]
 have k2:b0m (st5 ns s o .no .no .no .no .no .no .no .no .no .no .no)=some (.ok (.list (s.map prR))):=cK dM (fun m=>[.val (dM m)]) prR s rfl (by omega) (fun m _=>rfl) (fun m _=>rfl)
 have k1:b0o (st5 ns s o .no .no .no .no .no .no .no .no .no .no .no)=some (.ok (.list (o.map prR))):=cK dM (fun m=>[.val (dM m)]) prR o rfl (by omega) (fun m _=>rfl) (fun m _=>rfl)
 rw [aQ (ρ':=st5 ns s o (.val (aP s)) (.val (aP o)) .no .no .no .no .no .no .no .no .no) (by
  rw [b4j,wR,bD (dG (ds:=[.list (s.map prR)]) (bD k2 rfl) (b0Z hs.nr.nd (by omega))) (bD (dG (ds:=[.list (o.map prR)]) (bD k1 rfl) (b0Z ho.nr.nd (by omega))) rfl)];rfl)]
 rw [aQ (ρ':=st5 ns s o (.val (aP s)) (.val (aP o)) (.val (.list ((aF s o).map .str))) .no .no .no .no .no .no .no .no) (by rw [dY,b8B hs ho];rfl)]
 have k5:b0h (st5 ns s o (.val (aP s)) (.val (aP o)) (.val (.list ((aF s o).map .str))) .no .no .no .no .no .no .no .no)=some (.ok (.list ((cD s o).map .str))):=b7q (d:=3) (e:=4) hs _ (var 3) rfl rfl
 have k4:b0i (st5 ns s o (.val (aP s)) (.val (aP o)) (.val (.list ((aF s o).map .str))) .no .no .no .no .no .no .no .no)=some (.ok (.list ((cD o s).map .str))):=b7q (d:=4) (e:=3) ho _ (var 4) rfl rfl
 rw [aQ (ρ':=st5 ns s o (.val (aP s)) (.val (aP o)) (.val (.list ((aF s o).map .str))) (.val (.list [.list ((cD s o).map .str),.list ((cD o s).map .str)])) .no .no .no .no .no .no .no) (by
  rw [dY,b5m,bD k5 (bD k4 rfl)];rfl)]
 have t1:a9a (st5 ns s o (.val (aP s)) (.val (aP o)) (.val (.list ((aF s o).map .str))) (.val (.list [.list ((cD s o).map .str),.list ((cD o s).map .str)])) .no .no .no .no .no .no .no)=some (.ok false):=
  mS (bN (ds:=[dS s,dS o]) rfl (sB hs ho)) rfl (oN (sO hs) (sO ho) (sU hs))
 have t2:a8Z (st5 ns s o (.val (aP s)) (.val (aP o)) (.val (.list ((aF s o).map .str))) (.val (.list [.list ((cD s o).map .str),.list ((cD o s).map .str)])) .no .no .no .no .no .no .no)=some (.ok false):=by
  have e:=sB ho hs
  rw [uc] at e
  exact mS (bN (ds:=[dS o,dS s]) rfl e) rfl (oN (sO ho) (sO hs) (sU hs))
 rw [ifF t1,ifF t2]
 generalize (Ent.val (vy [.list ((cD s o).map .str),.list ((cD o s).map .str)]))=x6
 have okB:∀ m∈s.filter (fun r=>decide (r∈o)),qh m.1=true:=fun m hm=>hs.ok m (qv.mp hm).1
 have k6:b0g (st5 ns s o (.val (aP s)) (.val (aP o)) (.val (.list ((aF s o).map .str))) x6 .no .no .no .no .no .no .no)=some (.ok (.list ((s.filter fun r=>decide (r∈o)).map dM))):=
  dC dM (fun m=>[.val (dM m),.val (dS o)]) (fun r=>decide (r∈o)) dM s rfl (by omega) (fun m _=>rfl) (fun m hm=>fI (x:=dM m) (y:=dS o) rfl rfl (a6z (hs.ok m hm) ho.ok)) (fun m _ _=>rfl)
 rw [aQ (ρ':=st5 ns s o (.val (aP s)) (.val (aP o)) (.val (.list ((aF s o).map .str))) x6 (.val (dS (s.filter fun r=>decide (r∈o)))) .no .no .no .no .no .no) (by rw [dY,dG (ds:=[.list ((s.filter fun r=>decide (r∈o)).map dM)]) (bD k6 rfl) (a0I _)];rfl)]
 have nrB:=hs.nr.filter fun r=>decide (r∈o)
 have t3:a8Y (st5 ns s o (.val (aP s)) (.val (aP o)) (.val (.list ((aF s o).map .str))) x6 (.val (dS (s.filter fun r=>decide (r∈o)))) .no .no .no .no .no .no)=some (.ok false):=by
  have c2:=yR ho hs
  rw [a8x hs.nr ho.nr] at c2
  refine a0Y (mS (bN (ds:=[dS s,dS o]) rfl (yR hs ho)) rfl (by rw [a3v okB okB,decide_eq_true rfl];rfl)) (a0Y (mS (bN (ds:=[dS o,dS s]) rfl c2) rfl (by rw [a3v okB okB,decide_eq_true rfl];rfl)) (b2N (bN (ds:=[dS (s.filter fun r=>decide (r∈o))]) rfl (a3O _ ?_ (fun m hm=>S.mt m (qv.mp hm).1) nrB.nd nrB.pw))))
  have:=kJ (fun r=>decide (r∈o)) s
  omega
 rw [ifF t3]
 generalize (Ent.val (dS (s.filter fun r=>decide (r∈o))))=x7
 have em:=yQ hs ho t0
 have told:a2X dE fV [some 1,some 2] a4W (st5 ns s o (.val (aP s)) (.val (aP o)) (.val (.list ((aF s o).map .str))) x6 x7 .no .no .no .no .no .no)=some (.ok (if aF s o=[] then dS (cZ (aZ s o)) else .str "taken")):=by
  unfold a2X
  have e1:a4W (dX [some 1,some 2] (st5 ns s o (.val (aP s)) (.val (aP o)) (.val (.list ((aF s o).map .str))) x6 x7 .no .no .no .no .no .no))=some (if aF s o=[] then .ok (dS (cZ (aZ s o))) else .ex "Taken"):=a0e (ds:=[dS s,dS o]) rfl em
  rw [e1]
  by_cases h:aF s o=[]
  ·rw [if_pos h,if_pos h];rfl
  ·rw [if_neg h,if_neg h]
   show lft (if dE.contains "Taken" = true then _ else none)=_
   rw [if_pos (by decide +kernel),a8j];rfl
 rw [aQ (ρ':=st5 ns s o (.val (aP s)) (.val (aP o)) (.val (.list ((aF s o).map .str))) x6 x7 (.val (if aF s o=[] then dS (cZ (aZ s o)) else .str "taken")) .no .no .no .no .no) (by rw [dY,told];rfl)]
 obtain ⟨D,hD,hD'⟩:∃ D,a1x [.list (s.map prR++o.map prR)]=some D∧(aF s o=[]→D=aP (aZ s o)):=by
  refine ⟨_,a1w (by omega) (by omega),fun h=>?_⟩
  have a:=a1w (s:=s) (o:=o) (by omega) (by omega)
  rw [b3f hs ho h] at a
  exact (qA a).symm
 have adds:op2 cU (op1 a2q (var 3)) (op1 a2q (var 4)) (st5 ns s o (.val (aP s)) (.val (aP o)) (.val (.list ((aF s o).map .str))) x6 x7 (.val (if aF s o=[] then dS (cZ (aZ s o)) else .str "taken")) .no .no .no .no .no)=some (.ok (.list (s.map prR++o.map prR))):=by
  have i1:∀ {i:Nat} {ρ:List Ent} {u:List Mt},var i ρ=some (.ok (aP u))→op1 a2q (var i) ρ=some (.ok (.list (u.map prR))):=fun {i ρ u} h=>by rw [a9J,h,bV,b7f];rfl
  exact mG (i1 rfl) (i1 rfl) (by rw [b1z,if_pos (by rw [qD,qD];omega)])
 rw [aQ (ρ':=st5 ns s o (.val (aP s)) (.val (aP o)) (.val (.list ((aF s o).map .str))) x6 x7 (.val (if aF s o=[] then dS (cZ (aZ s o)) else .str "taken")) (.val D) .no .no .no .no) (by rw [dY,dG (ds:=[.list (s.map prR++o.map prR)]) (bD adds rfl) hD];rfl)]
 have t4:a4t (st5 ns s o (.val (aP s)) (.val (aP o)) (.val (.list ((aF s o).map .str))) x6 x7 (.val (if aF s o=[] then dS (cZ (aZ s o)) else .str "taken")) (.val D) .no .no .no .no)=some (.ok (!((aF s o).map jg).isEmpty)):=mS (x:=.list ((aF s o).map .str)) (y:=.list []) rfl rfl (a9P (nZ (sU hs)))
 have mid:ifS a4t (ifS a4s (retS (cst (.bool false))) iY) (ifS a1L (retS (cst (.bool false))) iY) (st5 ns s o (.val (aP s)) (.val (aP o)) (.val (.list ((aF s o).map .str))) x6 x7 (.val (if aF s o=[] then dS (cZ (aZ s o)) else .str "taken")) (.val D) .no .no .no .no)=some (.nx (st5 ns s o (.val (aP s)) (.val (aP o)) (.val (.list ((aF s o).map .str))) x6 x7 (.val (if aF s o=[] then dS (cZ (aZ s o)) else .str "taken")) (.val D) .no .no .no .no)):=by
  rw [nR,t4,lM]
  by_cases h:aF s o=[]
  ·have hD2:=hD' h
   subst hD2
   rw [h]
   rw [if_pos rfl]
   show ifS a1L _ _ _=_
   have nd:=sW hs.nr ho.nr h
   have tl:=t0 h
   have okT:∀ m∈cZ (aZ s o),qh m.1=true:=fun m hm=>by
    rcases rP.mp ((iQ nd m).mp hm) with z | z
    ·exact hs.ok m z
    ·exact ho.ok m z
   have hT:RwOk (cZ (aZ s o)):=⟨nE nd,okT,by rw [(rM nd).length_eq];omega⟩
   have k7:b0f (st5 ns s o (.val (aP s)) (.val (aP o)) (.val (.list (([]:List Str).map .str))) x6 x7 (.val (dS (cZ (aZ s o)))) (.val (aP (aZ s o))) .no .no .no .no)=some (.ok (.list ((cZ (aZ s o)).map dM))):=by
    have key:=cK (t:=.nm 0) (cap:=[none,some 9]) (fi:=cY (cI lF (aC (var 9) aG))) (fe:=op2 yI (var 1) (var 0)) (ρ:=st5 ns s o (.val (aP s)) (.val (aP o)) (.val (.list (([]:List Str).map .str))) x6 x7 (.val (dS (cZ (aZ s o)))) (.val (aP (aZ s o))) .no .no .no .no) jg (fun x=>[.val (.str x),.val (aP (aZ s o))]) (fun x=>dM (rowAt (aZ s o) x)) (eG ((aZ s o).map (·.1)))
     (iM (dG (ds:=[aP (aZ s o)]) rfl (a5R (by omega))) rfl) (by rw [(bP _).length_eq,qD];omega) (fun x _=>rfl) (fun x hx=>mG (x:=aP (aZ s o)) (y:=.str x) rfl rfl (a6C ((bP _).mem_iff.mp hx)))
    refine key.trans ?_
    unfold cZ
    rw [qV];rfl
   have m2:=yQ ho hs t0'
   rw [uc,if_pos h,b2m hs.nr ho.nr h] at m2
   have c3:=yR hT hs
   rw [a4J hs.nr ho.nr h] at c3
   have t6:a1L (st5 ns s o (.val (aP s)) (.val (aP o)) (.val (.list (([]:List Str).map .str))) x6 x7 (.val (dS (cZ (aZ s o)))) (.val (aP (aZ s o))) .no .no .no .no)=some (.ok false):=by
    refine a0Y (mS (x:=dS (cZ (aZ s o))) rfl (dG (ds:=[.list ((cZ (aZ s o)).map dM)]) (bD k7 rfl) (a0I _)) (by rw [a3v okT okT,decide_eq_true rfl];rfl)) (a0Y (mS (a0e (ds:=[dS o,dS s]) rfl m2) rfl (by rw [a3v okT okT,decide_eq_true rfl];rfl)) (mS (bN (ds:=[dS (cZ (aZ s o)),dS s]) rfl c3) rfl (by rw [a3v hs.ok hs.ok,decide_eq_true rfl];rfl)))
   rw [nR,t6];rfl
  ·have hb:(!((aF s o).map jg).isEmpty)=true:=by
    cases h':aF s o with
    | nil=>exact absurd h' h
    | cons _ _=>rfl
   rw [hb,if_pos rfl,if_neg h]
   have t5:a4s (st5 ns s o (.val (aP s)) (.val (aP o)) (.val (.list ((aF s o).map .str))) x6 x7 (.val (.str "taken")) (.val D) .no .no .no .no)=some (.ok false):=mS (x:=.str "taken") (y:=.str "taken") rfl rfl (by rw [b6X,decide_eq_true rfl];rfl)
   rw [nR,t5];rfl
 rw [aQ mid]
 generalize (Ent.val (if aF s o=[] then dS (cZ (aZ s o)) else .str "taken"))=x8
 rw [aQ (ρ':=st5 ns s o (.val (aP s)) (.val (aP o)) (.val (.list ((aF s o).map .str))) x6 x7 x8 (.val D) (.val (.int 0)) .no .no .no) rfl]
 generalize (Ent.val (vy ((aF s o).map .str)))=x5
 obtain ⟨ρ',el,a,b,c,rfl⟩:∃ ρ',a2t (.nm 11) (a3n (cst (.int 420))) a2M (st5 ns s o (.val (aP s)) (.val (aP o)) x5 x6 x7 x8 (.val D) (.val (.int 0)) .no .no .no)=some (.nx ρ')∧∃ a b c,ρ'=st5 ns s o (.val (aP s)) (.val (aP o)) x5 x6 x7 x8 (.val D) (.val (.int (sumF (fJ s o) 0 420))) a b c:=by
  have hr:=a5Z (fa:=cst (.int 420)) (ρ:=st5 ns s o (.val (aP s)) (.val (aP o)) x5 x6 x7 x8 (.val D) (.val (.int 0)) .no .no .no) (n:=420) rfl (by decide) (by decide)
  have rd:mD 0 (420:Int).toNat=(qd 420).map fun (k:Nat)=>jv (k:Int):=by
   unfold mD
   refine jQ fun k _=>?_
   simp
  rw [yJ,hr,lM,rd]
  obtain ⟨ρ',e1,e2⟩:=lI (t:=.nm 11) (fb:=a2M) (fun (k:Nat)=>jv (k:Int)) (fun i ρ=>∃ a b c,ρ=st5 ns s o (.val (aP s)) (.val (aP o)) x5 x6 x7 x8 (.val D) (.val (.int (sumF (fJ s o) 0 i))) a b c) (qd 420) 0 (st5 ns s o (.val (aP s)) (.val (aP o)) x5 x6 x7 x8 (.val D) (.val (.int 0)) .no .no .no) ⟨.no,.no,.no,rfl⟩ (by
   rintro j x _ hx ⟨a,b,c,rfl⟩
   obtain ⟨hj,hx'⟩:=qS.mp hx
   rw [List.getElem_range] at hx'
   subst hx'
   obtain ⟨a',b',e⟩:=b6p (ns:=ns) (s:=s) (o:=o) (by omega) (by omega) (.val (aP s)) (.val (aP o)) x5 x6 x7 x8 (.val D) b c (sumF (fJ s o) 0 (0+j)) (j:Int)
   refine ⟨st5 ns s o (.val (aP s)) (.val (aP o)) x5 x6 x7 x8 (.val D) (.val (.int (sumF (fJ s o) 0 (0+j)))) (.val (.int (j:Int))) b c,_,rfl,.inl e,.val (.int (j:Int)),a',b',?_⟩
   rw [show 0+j+1=(0+j)+1 from rfl,dJ]
   rw [show ((0:Int)+((0+j:Nat):Int))=(j:Int) by omega])
  refine ⟨ρ',e1,?_⟩
  rw [jm,vJ] at e2
  exact e2
 rw [aQ el]
 have bs:∀ m∈s,0≤m.2.1∧m.2.2≤(420:Nat):=fun m hm=>by have:=S.times m hm;omega
 have bo:∀ m∈o,0≤m.2.1∧m.2.2≤(420:Nat):=fun m hm=>by have:=each m hm;omega
 have sh1:=sC (s:=s) (o:=o) (by omega) (by omega)
 have sh2:=sC (s:=o) (o:=s) (by omega) (by omega)
 rw [a3g bs bo] at sh2
 rw [nY bs] at sh1 sh2
 have t7:a8X (st5 ns s o (.val (aP s)) (.val (aP o)) x5 x6 x7 x8 (.val D) (.val (.int (sumF (fJ s o) 0 420))) a b c)=some (.ok false):=by
  refine a0Y (mS (x:=.int (sumF (fJ s o) 0 420)) (y:=.int (sumF (fJ s o) 0 420)) (bN (ds:=[dS s,dS o]) rfl sh1) rfl (by rw [a9R];simp)) (a0Y (mS (x:=.int (sumF (fJ s o) 0 420)) (y:=.int (sumF (fJ s o) 0 420)) (bN (ds:=[dS o,dS s]) rfl sh2) rfl (by rw [a9R];simp)) ?_)
  have sh3:=sC (s:=s) (o:=[]) (by omega) (by simp)
  rw [a4A] at sh3
  exact mS (x:=.int 0) (y:=.int 0) (bN (ds:=[dS s,dS []]) rfl sh3) rfl (by rw [a9R];simp)
 rw [ifF t7]
 have w1:mV leD (aU cJ (aC (var 1) (aC (var 1) aG))) (aU iF (aC (var 1) aG)) (st5 ns s o (.val (aP s)) (.val (aP o)) x5 x6 x7 x8 (.val D) (.val (.int (sumF (fJ s o) 0 420))) a b c)=some (.ok (.bool true)):=by
  rw [a0c,bN (ds:=[dS s,dS s]) rfl (sC (by omega) (by omega)),bV,bN (ds:=[dS s]) rfl (b2Y s (by omega)),bV,b7e,decide_eq_true (a1S (n:=420) fun m hm=>by have:=S.times m hm;omega)];rfl
 have ms:=yQ hs hs (fun _=>by rw [a2Y];omega)
 rw [if_pos (uN s),a2Y,a9F hs.nr] at ms
 have w2:mV eqD (a0f fU (aC (var 1) (aC (var 1) aG))) (var 1) (st5 ns s o (.val (aP s)) (.val (aP o)) x5 x6 x7 x8 (.val D) (.val (.int (sumF (fJ s o) 0 420))) a b c)=some (.ok (.bool true)):=by
  rw [a0c,a0e (ds:=[dS s,dS s]) rfl ms,bV]
  show lft ((eqD (dS s) (dS s)).map zR)=_
  rw [a8a (a5V hs.ok) (a5V hs.ok),uE,decide_eq_true rfl];rfl
 have us:=sB hs hs
 rw [a5H,uN] at us
 have w3:mV eqD (aU bM (aC (var 1) (aC (var 1) aG))) (fN (aC (gP aG) (aC (gP aG) (aC (gP aG) aG)))) (st5 ns s o (.val (aP s)) (.val (aP o)) x5 x6 x7 x8 (.val D) (.val (.int (sumF (fJ s o) 0 420))) a b c)=some (.ok (.bool true)):=by
  rw [a0c,bN (ds:=[dS s,dS s]) rfl us,bV]
  kernel_rfl
 rw [fC,a5G,w1,bV]
 show bns (a0l _ _ _) _ _=_
 rw [a5G,w2,bV]
 show bns (mV eqD _ _ _) _ _=_
 rw [w3];rfl
theorem e_law (ns:List Int) (hl:ns.length≤63):F_law [dN ns]=some (.ok (.bool true)):=by
 have S:=a3f ns 0 (most:=7) (by decide) (by decide)
 obtain ⟨u,ou,po⟩:=b3b (s:=iK ns 0 7) S (fun k many h0 hm=>⟨_,uF ns k many h0 hm,gN ns k hm,gO ns k hm⟩) (a6J ns 100 6 (by decide) (by decide) (by decide)) (a3f ns 100 (by decide) (by decide))
 exact b0c (a6J ns 0 7 (by decide) (by decide) (by decide)) S ou po
end L2.L3
namespace L2.L3
theorem tT {α:Type} {l:List α} (h:l.length=1):∃ a,l=[a]:=by
 cases l with
 | nil=>cases h
 | cons a l=>cases l with
  | nil=>exact ⟨a,rfl⟩
  | cons b l=>simp at h
theorem b7d {α:Type} {l:List α} {n:Nat} (h:l.length=n+1):∃ a r,l=a::r∧r.length=n:=by
 cases l with
 | nil=>cases h
 | cons a r=>exact ⟨a,r,rfl,by simpa using h⟩
theorem a0v {α:Type} {l:List α} (h:l.length=2):∃ a b,l=[a,b]:=by
 obtain ⟨a,r,rfl,k⟩:=b7d h;obtain ⟨b,rfl⟩:=tT k;exact ⟨a,b,rfl⟩
theorem b5n {α:Type} {l:List α} (h:l.length=3):∃ a b c,l=[a,b,c]:=by
 obtain ⟨a,r,rfl,k⟩:=b7d h;obtain ⟨b,c,rfl⟩:=a0v k;exact ⟨a,b,c,rfl⟩
end L2.L3
namespace L2.L3
open PySem PySem.Spec PyProof.Rows
section
variable {X:Cx} {e b:Expr} {es:List Expr} {pos p p0 p1 lp sp:Pos} {x y:Str} {k k':Nat} {ps ps':List Str} {F F':List PyData→Mm PyData} {fa:AF} {fb:EF}
end
end L2.L3
namespace L2.L3
open PySem PySem.Spec PyProof.Rows
def top (i:Nat):Stmt:=PySem.Challenge.pw_daysheet_k05_whole_compared.main.body.getD i (.Pass ⟨0,0,0,0⟩)
structure Blt (mg:Str→Option Value):Prop where
 b_ValueError:mg "ValueError" = none
 b_all:mg "all" = none
 b_bool:mg "bool" = none
 b_dict:mg "dict" = none
 b_enumerate:mg "enumerate" = none
 b_int:mg "int" = none
 b_isinstance:mg "isinstance" = none
 b_len:mg "len" = none
 b_list:mg "list" = none
 b_max:mg "max" = none
 b_min:mg "min" = none
 b_range:mg "range" = none
 b_set:mg "set" = none
 b_sorted:mg "sorted" = none
 b_str:mg "str" = none
 b_sum:mg "sum" = none
 b_tuple:mg "tuple" = none
 b_zip:mg "zip" = none
 k_LAST_END:∃ t:Tok,mg "LAST_END" = some (.int 480 t)
 k_LONGEST_NAME:∃ t:Tok,mg "LONGEST_NAME" = some (.int 4 t)
 k_MOST_MEETINGS:∃ t:Tok,mg "MOST_MEETINGS" = some (.int 16 t)
section
variable {P:Program} {w:World} {K:qB} {mg:Str→Option Value} {base:Heap}
theorem fS {N P:List Str} {sc:Scope} (a:sc.kind=.function:=by rfl) (b:sc.isCoroutine=false:=by rfl) (c:sc.isGenerator=false:=by rfl) (d:N.Nodup:=by decide +kernel) (e:N.take P.length=P:=by rfl) (f:∀ x∈P,sc.names.lookup x=some .local∨sc.names.lookup x=some .cell:=by decide +kernel) (g:∀ y∈sc.names,y.2≠.free:=by decide +kernel):FnScope N P sc:=⟨a,b,c,d,e,f,g⟩
theorem hM {k j:Nat} {A:Around} (r:Room k A) (h:j≤k:=by decide):Room j A:=r.mono h
abbrev xH:Stmt:=top 35
noncomputable abbrev a9T:List Str:=["_law_script", "_law_k"]
theorem a7v:FnScope a9T ["_law_script", "_law_k"] (aD xH):=fS
theorem b1p (D:Def K mg "_law_cell" xH) (B:Blt mg) (XF:ExG dE K)  : aM P w K mg base "_law_cell" 1 ["_law_script", "_law_k"] sR:=by
 refine aT 2 2 D a7v rfl rfl (fun _ _ _ _ _ _ us hl=>by obtain ⟨_,_,rfl⟩:=a0v hl;rfl) (fun fa cdv A outer s H E hr=>?_)
 exact (aK (fL (bQ a3x (aA 1) (bL pI B.b_len boot_len (aB (aA 0) aE))) (aR (bB (dQ (aA 0) (aA 1)))) eS) (aK (fL (bQ (yO hr.units) (aA 0) (eR aE)) (aR (bB aI)) eS) (aR (bB (bC cM (bC pF (dQ (aA 0) (bC a2h (aA 1) (bL pI B.b_len boot_len (aB (aA 0) aE)))) aI) (aA 1))))))
abbrev xG:Stmt:=top 36
noncomputable abbrev a9S:List Str:=["_law_script", "_law_k", "_law_many", "_law_drawn"]
theorem a0Q:FnScope a9S ["_law_script", "_law_k", "_law_many"] (aD xG):=fS
theorem b1o (D:Def K mg "_law_pick" xG) (B:Blt mg) (XF:ExG dE K) (C_l_cell:aM P w K mg base "_law_cell" 1 ["_law_script", "_law_k"] sR):aM P w K mg base "_law_pick" 2 ["_law_script", "_law_k", "_law_many"] cG:=by
 refine aT 4 3 D a0Q rfl rfl (fun _ _ _ _ _ _ us hl=>by obtain ⟨_,_,_,rfl⟩:=b5n hl;rfl) (fun fa cdv A outer s H E hr=>?_)
 exact (aK (dF 3 a0Q.nd (bC a2h (bC pF (bC cM (aO C_l_cell (hM hr) (aB (aA 0) (aB (aA 1) aE))) (bC pF aI (bC cM (aA 1) aI))) aI) aI)) (aR (bB (bC a2h (bC a2h (bC cM (bC pF (aA 3) (aA 3)) (bC b5F (aA 3) aI)) aI) (aA 2)))))
abbrev tJ:Stmt:=top 37
noncomputable abbrev a7F:List Str:=["_law_script", "_law_at", "_law_most", "_law_span", "_law_names", "_law_made", "_law_k", "_law_begin", "_law_size"]
theorem eO:FnScope a7F ["_law_script", "_law_at", "_law_most"] (aD tJ):=fS
theorem a8t (D:Def K mg "_law_sheet" tJ) (B:Blt mg) (XF:ExG dE K) (C_l_pick:aM P w K mg base "_law_pick" 2 ["_law_script", "_law_k", "_law_many"] cG):aM P w K mg base "_law_sheet" 3 ["_law_script", "_law_at", "_law_most"] eX:=by
 refine aT 9 3 D eO rfl rfl (fun _ _ _ _ _ _ us hl=>by obtain ⟨_,_,_,rfl⟩:=b5n hl;rfl) (fun fa cdv A outer s H E hr=>?_)
 exact (aK (dF 3 eO.nd (dQ (eR (aB aI (aB aI (aB aI (aB aI aE))))) (aO C_l_pick (hM hr) (aB (aA 0) (aB (aA 1) (aB aI aE)))))) (aK (dF 4 eO.nd (eR (aB cQ (aB cQ (aB cQ (aB cQ (aB cQ (aB cQ (aB cQ (aB cQ (aB cQ (aB cQ aE)))))))))))) (aK (a5s 5 eO.nd aE) (aK (yS zq rfl (a6Q B.b_range (aO C_l_pick (hM hr) (aB (aA 0) (aB (bC cM (aA 1) aI) (aB (bC cM (aA 2) aI) aE))))) (cN 6 eO.nd) (aK (dF 7 eO.nd (aO C_l_pick (hM hr) (aB (aA 0) (aB (bC cM (bC cM (aA 1) aI) (bC pF aI (aA 6))) (aB (aA 3) aE))))) (aK (dF 8 eO.nd (bC cM aI (aO C_l_pick (hM hr) (aB (aA 0) (aB (bC cM (bC cM (aA 1) aI) (bC pF aI (aA 6))) (aB (dQ (eR (aB aI (aB aI (aB (aA 3) aE)))) (aO C_l_pick (hM hr) (aB (aA 0) (aB (bC cM (bC cM (aA 1) aI) (bC pF aI (aA 6))) (aB aI aE))))) aE)))))) (aR (b0U 5 (eJ (aB (dQ (aA 4) (aA 6)) (aB (aA 7) (aB (bC cM (aA 7) (aA 8)) aE))))))))) (uJ 5 (aR (bB (dI oY B.b_tuple boot_tuple (aB (aA 5) aE)))))))))
abbrev lH:Stmt:=top 38
noncomputable abbrev tP:List Str:=["_law_script", "_law_at", "_law_sheet_here", "_law_rows", "_law_k", "_law_name", "_law_begin", "_law_end", "_law_way"]
theorem eP:FnScope tP ["_law_script", "_law_at", "_law_sheet_here"] (aD lH):=fS
theorem a8u (D:Def K mg "_law_other" lH) (B:Blt mg) (XF:ExG dE K) (C_l_sheet:aM P w K mg base "_law_sheet" 3 ["_law_script", "_law_at", "_law_most"] eX) (C_l_pick:aM P w K mg base "_law_pick" 2 ["_law_script", "_law_k", "_law_many"] cG):aM P w K mg base "_law_other" 4 ["_law_script", "_law_at", "_law_sheet_here"] lQ:=by
 refine aT 9 3 D eP rfl rfl (fun _ _ _ _ _ _ us hl=>by obtain ⟨_,_,_,rfl⟩:=b5n hl;rfl) (fun fa cdv A outer s H E hr=>?_)
 have nd1:(["_law_row"]:List Str).Nodup:=by decide +kernel
 have nd2:(["_law_name", "_law_rows"]:List Str).Nodup:=by decide +kernel
 exact (aK (b0T 3 rfl eP.nd B.b_dict (aB (cB (N':=["_law_row"]) (cap:=[none]) rfl (bU (so:=aD lH) (NN:=tP) rfl rfl (by decide +kernel)) (bX (aO C_l_sheet (hM hr) (aB (aA 0) (aB (aA 1) (aB aI aE))))) rfl (fun _ _ _ _=>cN 0 nd1) (fun _ _ _ _=>dL) (fun _ _ _ _=>(eJ (aB (dQ (aA 0) aI) (aB (aA 0) aE))))) aE)) (aK (yS zq rfl (b1c B.b_enumerate (aA 2)) (b7s 4 rfl eP.nd (aN 5 eP.nd (aN 6 eP.nd (aN 7 eP.nd dO)))) (aK (dF 8 eP.nd (aO C_l_pick (hM hr) (aB (aA 0) (aB (bC cM (bC cM (aA 1) aI) (aA 4)) (aB aI aE))))) (aR (fL (bQ b0B (aA 8) aI) (aR (b3c 3 hr.units (eJ (aB (aA 5) (aB (aA 6) (aB (bC cM (aA 7) (dI b0w B.b_int boot_int (aB (pT (yO hr.units) (aA 8) aI) aE))) aE)))) (aA 5))) (aR (b3d 3 (aA 5))))))) (uJ 3 (aR (bB (dI oY B.b_tuple boot_tuple (aB (cB (N':=["_law_name", "_law_rows"]) (cap:=[none,some 3]) rfl (bU (so:=aD lH) (NN:=tP) rfl rfl (by decide +kernel)) (bX (bL (mX rfl) B.b_sorted boot_sorted (aB (aA 3) aE))) rfl (fun _ _ _ _=>cN 0 nd2) (fun _ _ _ _=>dL) (fun _ _ _ _=>(a2A (aA 1) (aA 0)))) aE)))))))
abbrev tK:Stmt:=top 39
noncomputable abbrev a7G:List Str:=["_law_kept", "_law_kinds", "_law_some"]
theorem gY:FnScope a7G ["_law_kept"] (aD tK):=fS
theorem a8v (D:Def K mg "_law_class" tK) (B:Blt mg) (XF:ExG dE K)  : ClsOk P w K mg base "_law_class" 1 fV:=by
 refine b3u 3 D gY rfl (fun _ _ _ _ _ _ us hl=>by obtain ⟨_,rfl⟩:=tT hl;rfl) (fun fa cdv A outer s H hr=>?_)
 exact (aK (a5s 1 gY.nd (aB (iT 0 XF B.b_isinstance) (aB (iT 0 XF B.b_isinstance) (aB (iT 0 XF B.b_isinstance) aE)))) (aK (b3e 1 (eR (aB (iT 0 XF B.b_isinstance) aE))) (uJ 1 (aK (a1v 1 gY.nd (aA 1) (eR (aB (iT 0 XF B.b_isinstance) (aB (iT 0 XF B.b_isinstance) (aB (iT 0 XF B.b_isinstance) aE))))) (uJ 1 (aK (a1v 1 gY.nd (aA 1) (eR (aB (iT 0 XF B.b_isinstance) aE))) (aK (fL (b3W (DW.dt (oU (bQ (gB hr.units) (b1g (aA 1) eF) aI) (pQ (uG (pR (b3i 0 XF B.b_isinstance B.b_ValueError))))))) (aR (bB cQ)) eS) (aK (dF 2 gY.nd (eR (aB cQ (aB cQ (aB cQ (aB cQ (aB cQ (aB cQ (aB cQ (aB cQ aE)))))))))) (uJ 1 (aR (bB (dQ (aA 2) (a8g (aA 1) eF)))))))))))))
abbrev xF:Stmt:=top 40
theorem a7u:FnScope ["_law_deed", "e"] ["_law_deed"] (aD xF):=fS
theorem b1n (D:Def K mg "_law_told" xF) (B:Blt mg) (XF:ExG dE K) (C_l_class:ClsOk P w K mg base "_law_class" 1 fV):ToldOk P w K mg base "_law_told" dE fV:=by
 obtain ⟨S,h1,h2,h3⟩:=XF.l.she
 exact a8T D a7u h1 h2 h3 C_l_class rfl (fun _ _ _ _ _ _ us hl=>by obtain ⟨_,rfl⟩:=tT hl;rfl) rfl rfl rfl rfl (by decide) (by decide) (by decide) (by decide) (by decide)
abbrev lX:Stmt:=top 20
theorem a3j:FnScope ["sheet"] ["sheet"] (aD lX):=fS
theorem a5y (D:Def K mg "names_of" lX) (B:Blt mg) (XF:ExG dE K)  : aM P w K mg base "names_of" 1 ["sheet"] cW:=by
 refine aT 1 1 D a3j rfl rfl (fun _ _ _ _ _ _ us hl=>by obtain ⟨_,rfl⟩:=tT hl;rfl) (fun fa cdv A outer s H E hr=>?_)
 have nd1:(["meeting"]:List Str).Nodup:=by decide +kernel
 exact (aR (bB (cB (N':=["meeting"]) (cap:=[none]) rfl (bU (so:=aD lX) (NN:=["sheet"]) rfl rfl (by decide +kernel)) (bX (aA 0)) rfl (fun _ _ _ _=>cN 0 nd1) (fun _ _ _ _=>dL) (fun _ _ _ _=>(dQ (aA 0) aI)))))
abbrev fX:Stmt:=top 29
theorem xB:FnScope ["one", "other"] ["one", "other"] (aD fX):=fS
theorem a0C (D:Def K mg "names_alone" fX) (B:Blt mg) (XF:ExG dE K) (C_names_of:aM P w K mg base "names_of" 1 ["sheet"] cW):aM P w K mg base "names_alone" 2 ["one", "other"] eK:=by
 refine aT 2 2 D xB rfl rfl (fun _ _ _ _ _ _ us hl=>by obtain ⟨_,_,rfl⟩:=a0v hl;rfl) (fun fa cdv A outer s H E hr=>?_)
 have nd1:(["name", "other"]:List Str).Nodup:=by decide +kernel
 exact (aR (bB (cB (N':=["name", "other"]) (cap:=[none,some 1]) rfl (bU (so:=aD fX) (NN:=["one", "other"]) rfl rfl (by decide +kernel)) (bX (aO C_names_of (hM hr) (aB (aA 0) aE))) rfl (fun _ _ _ _=>cN 0 nd1) (fun _ _ _ _=>(eM (bQ (a2e hr.units1) (aA 0) (aO C_names_of (hM hr) (aB (aA 1) aE))))) (fun _ _ _ _=>aA 0))))
abbrev fA:Stmt:=top 30
noncomputable abbrev nJ:List Str:=["one", "other", "unlike"]
theorem mR:FnScope nJ ["one", "other"] (aD fA):=fS
theorem a0g (D:Def K mg "unlike_names" fA) (B:Blt mg) (XF:ExG dE K) (C_names_of:aM P w K mg base "names_of" 1 ["sheet"] cW) (C_names_alone:aM P w K mg base "names_alone" 2 ["one", "other"] eK):aM P w K mg base "unlike_names" 3 ["one", "other"] bM:=by
 refine aT 3 2 D mR rfl rfl (fun _ _ _ _ _ _ us hl=>by obtain ⟨_,_,rfl⟩:=a0v hl;rfl) (fun fa cdv A outer s H E hr=>?_)
 have nd1:(["meeting", "other"]:List Str).Nodup:=by decide +kernel
 exact (aK (oH 2 mR.nd (N':=["meeting", "other"]) (cap:=[none,some 1]) rfl (bU (so:=aD fA) (NN:=nJ) rfl rfl (by decide +kernel)) (bX (aA 0)) rfl (fun _ _ _ _=>cN 0 nd1) (fun _ _ _ _=>(eM (DW.dt (a5r (bQ (a2e hr.units1) (aA 0) (aA 1)) (a2y (bQ (a5f hr.units1) (dQ (aA 0) aI) (aO C_names_of (hM hr) (aB (aA 1) aE)))))))) (fun _ _ _ _=>(dQ (aA 0) aI))) (aR (bB (eJ (aB (aO C_names_alone (hM hr) (aB (aA 0) (aB (aA 1) aE))) (aB (aO C_names_alone (hM hr) (aB (aA 1) (aB (aA 0) aE))) (aB (aA 2) aE)))))))
abbrev rF:Stmt:=top 31
theorem a7w:FnScope ["one", "other"] ["one", "other"] (aD rF):=fS
theorem b1r (D:Def K mg "common" rF) (B:Blt mg) (XF:ExG dE K)  : aM P w K mg base "common" 1 ["one", "other"] lT:=by
 refine aT 2 2 D a7w rfl rfl (fun _ _ _ _ _ _ us hl=>by obtain ⟨_,_,rfl⟩:=a0v hl;rfl) (fun fa cdv A outer s H E hr=>?_)
 have nd1:(["meeting", "other"]:List Str).Nodup:=by decide +kernel
 exact (aR (bB (dI oY B.b_tuple boot_tuple (aB (cB (N':=["meeting", "other"]) (cap:=[none,some 1]) rfl (bU (so:=aD rF) (NN:=["one", "other"]) rfl rfl (by decide +kernel)) (bX (aA 0)) rfl (fun _ _ _ _=>cN 0 nd1) (fun _ _ _ _=>(eM (bQ (a5f hr.units1) (aA 0) (aA 1)))) (fun _ _ _ _=>aA 0)) aE))))
abbrev nA:Stmt:=top 16
theorem a1T:FnScope ["row"] ["row"] (aD nA):=fS
theorem a4e (D:Def K mg "is_rising" nA) (B:Blt mg) (XF:ExG dE K)  : aM P w K mg base "is_rising" 1 ["row"] iU:=by
 refine aT 1 1 D a1T rfl rfl (fun _ _ _ _ _ _ us hl=>by obtain ⟨_,rfl⟩:=tT hl;rfl) (fun fa cdv A outer s H E hr=>?_)
 exact (aR (bB (pT (yO hr.units) (aA 0) (a6V rfl B.b_sorted B.b_set (aA 0)))))
abbrev oC:Stmt:=top 15
theorem a4D:FnScope ["thing"] ["thing"] (aD oC):=fS
theorem a8w (D:Def K mg "is_name" oC) (B:Blt mg) (XF:ExG dE K)  : aM P w K mg base "is_name" 1 ["thing"] lS:=by
 refine aT 1 1 D a4D rfl rfl (fun _ _ _ _ _ _ us hl=>by obtain ⟨_,rfl⟩:=tT hl;rfl) (fun fa cdv A outer s H E hr=>?_)
 have nd1:(["letter"]:List Str).Nodup:=by decide +kernel
 exact (aK (fL (DW.dt (oU (uG (pR (lL B.b_isinstance B.b_str boot_str (aA 0)))) (pQ (uG (a2z oQ oQ aI (bL pI B.b_len boot_len (aB (aA 0) aE)) (sF rfl (B.k_LONGEST_NAME))))))) (aR (bB eF)) eS) (aR (bB (bL (b1w rfl) B.b_all boot_all (aB (cB (N':=["letter"]) (cap:=[none]) rfl (bU (so:=aD oC) (NN:=["thing"]) rfl rfl (by decide +kernel)) (b5k rfl (aA 0)) rfl (fun _ _ _ _=>cN 0 nd1) (fun _ _ _ _=>dL) (fun _ _ _ _=>(b5T oQ oQ cQ (aA 0) cQ))) aE)))))
abbrev pB:Stmt:=top 14
theorem a3l:FnScope ["thing"] ["thing"] (aD pB):=fS
theorem a5A (D:Def K mg "is_whole" pB) (B:Blt mg) (XF:ExG dE K)  : aM P w K mg base "is_whole" 1 ["thing"] iG:=by
 refine aT 1 1 D a3l rfl rfl (fun _ _ _ _ _ _ us hl=>by obtain ⟨_,rfl⟩:=tT hl;rfl) (fun fa cdv A outer s H E hr=>?_)
 exact (aR (bB (pU (lL B.b_isinstance B.b_int boot_int (aA 0)) (yX (b5S (lL B.b_isinstance B.b_bool boot_bool (aA 0)))))))
abbrev nB:Stmt:=top 17
theorem a1U:FnScope ["begin", "end"] ["begin", "end"] (aD nB):=fS
theorem a4f (D:Def K mg "are_times" nB) (B:Blt mg) (XF:ExG dE K) (C_is_whole:aM P w K mg base "is_whole" 1 ["thing"] iG):aM P w K mg base "are_times" 2 ["begin", "end"] iV:=by
 refine aT 2 2 D a1U rfl rfl (fun _ _ _ _ _ _ us hl=>by obtain ⟨_,_,rfl⟩:=a0v hl;rfl) (fun fa cdv A outer s H E hr=>?_)
 exact (aR (bB (pU (aO C_is_whole (hM hr) (aB (aA 0) aE)) (pU (aO C_is_whole (hM hr) (aB (aA 1) aE)) (yX (b3j oQ a3x oQ aI (aA 0) (aA 1) (sF rfl (B.k_LAST_END))))))))
abbrev mB:Stmt:=top 18
theorem a0s:FnScope ["thing"] ["thing"] (aD mB):=fS
theorem a2K (D:Def K mg "is_meeting" mB) (B:Blt mg) (XF:ExG dE K) (C_is_name:aM P w K mg base "is_name" 1 ["thing"] lS) (C_are_times:aM P w K mg base "are_times" 2 ["begin", "end"] iV):aM P w K mg base "is_meeting" 3 ["thing"] gW:=by
 refine aT 1 1 D a0s rfl rfl (fun _ _ _ _ _ _ us hl=>by obtain ⟨_,rfl⟩:=tT hl;rfl) (fun fa cdv A outer s H E hr=>?_)
 exact (aK (fL (DW.dt (oU (uG (pR (lL B.b_isinstance B.b_tuple boot_tuple (aA 0)))) (pQ (bQ (gB hr.units) (bL pI B.b_len boot_len (aB (aA 0) aE)) aI)))) (aR (bB eF)) eS) (aR (bB (pU (aO C_is_name (hM hr) (aB (dQ (aA 0) aI) aE)) (yX (aO C_are_times (hM hr) (aB (dQ (aA 0) aI) (aB (dQ (aA 0) aI) aE))))))))
abbrev lZ:Stmt:=top 19
theorem a3m:FnScope ["thing"] ["thing"] (aD lZ):=fS
theorem a5B (D:Def K mg "is_sheet" lZ) (B:Blt mg) (XF:ExG dE K) (C_is_meeting:aM P w K mg base "is_meeting" 3 ["thing"] gW) (C_names_of:aM P w K mg base "names_of" 1 ["sheet"] cW) (C_is_rising:aM P w K mg base "is_rising" 1 ["row"] iU):aM P w K mg base "is_sheet" 4 ["thing"] iH:=by
 refine aT 1 1 D a3m rfl rfl (fun _ _ _ _ _ _ us hl=>by obtain ⟨_,rfl⟩:=tT hl;rfl) (fun fa cdv A outer s H E hr=>?_)
 have nd1:(["part"]:List Str).Nodup:=by decide +kernel
 exact (aK (fL (DW.dt (oU (uG (pR (lL B.b_isinstance B.b_tuple boot_tuple (aA 0)))) (pQ (bQ b0B (bL pI B.b_len boot_len (aB (aA 0) aE)) (sF rfl (B.k_MOST_MEETINGS)))))) (aR (bB eF)) eS) (aK (fL (uG (pR (bL (b1w rfl) B.b_all boot_all (aB (cB (N':=["part"]) (cap:=[none]) rfl (bU (so:=aD lZ) (NN:=["thing"]) rfl rfl (by decide +kernel)) (bX (aA 0)) rfl (fun _ _ _ _=>cN 0 nd1) (fun _ _ _ _=>dL) (fun _ _ _ _=>(aO C_is_meeting (hM hr) (aB (aA 0) aE)))) aE)))) (aR (bB eF)) eS) (aR (bB (aO C_is_rising (hM hr) (aB (aO C_names_of (hM hr) (aB (aA 0) aE)) aE))))))
abbrev oB:Stmt:=top 32
noncomputable abbrev a1c:List Str:=["one", "other", "together"]
theorem xE:FnScope a1c ["one", "other"] (aD oB):=fS
theorem a8r (D:Def K mg "merged" oB) (B:Blt mg) (XF:ExG dE K) (C_unlike_names:aM P w K mg base "unlike_names" 3 ["one", "other"] bM):CalleeX P w K mg base "merged" 4 ["one", "other"] fU:=by
 refine a4d 3 2 D xE rfl rfl (fun _ _ _ _ _ _ us hl=>by obtain ⟨_,_,rfl⟩:=a0v hl;rfl) (fun fa cdv A outer s H E hr=>?_)
 have nd1:(["meeting", "one"]:List Str).Nodup:=by decide +kernel
 exact (aK (fL (pR (dQ (aO C_unlike_names (hM hr) (aB (aA 0) (aB (aA 1) aE))) aI)) (aR (a1u XF.l rfl)) eS) (aK (dF 2 xE.nd (bC cM (aA 0) (dI oY B.b_tuple boot_tuple (aB (cB (N':=["meeting", "one"]) (cap:=[none,some 0]) rfl (bU (so:=aD oB) (NN:=a1c) rfl rfl (by decide +kernel)) (bX (aA 1)) rfl (fun _ _ _ _=>cN 0 nd1) (fun _ _ _ _=>(eM (bQ (a2e hr.units1) (aA 0) (aA 1)))) (fun _ _ _ _=>aA 0)) aE)))) (aK (fL (bQ b0B (bL pI B.b_len boot_len (aB (aA 2) aE)) (sF rfl (B.k_MOST_MEETINGS))) (aR (a1u XF.l rfl)) eS) (aR (bB (dI oY B.b_tuple boot_tuple (aB (bL b1K B.b_sorted boot_sorted (aB (aA 2) aE)) aE)))))))
abbrev xI:Stmt:=top 24
noncomputable abbrev a9U:List Str:=["rows", "told", "begin", "end", "many"]
theorem lG:FnScope a9U ["rows"] (aD xI):=fS
theorem b1q (D:Def K mg "joined" xI) (B:Blt mg) (XF:ExG dE K)  : aM P w K mg base "joined" 1 ["rows"] lR:=by
 refine aT 5 1 D lG rfl rfl (fun _ _ _ _ _ _ us hl=>by obtain ⟨_,rfl⟩:=tT hl;rfl) (fun fa cdv A outer s H E hr=>?_)
 exact (aK (a5s 1 lG.nd aE) (aK (yS zq rfl (bX (aA 0)) (fT rfl (aN 2 lG.nd (aN 3 lG.nd (aN 4 lG.nd dO)))) (aR (fL (b3W (DW.dt (a5r (pR (aA 1)) (a2y (bQ (yO hr.units) (dQ (dQ (aA 1) (a5u aI)) aI) (aA 4)))))) (aR (b5L 1 (eJ (aB (b7t (dQ (dQ (aA 1) (a5u aI)) aI)) (aB (aA 3) (aB (aA 4) aE)))) (a5u aI))) (aR (b0U 1 (eJ (aB (aA 2) (aB (aA 3) (aB (aA 4) aE))))))))) (uJ 1 (aR (bB (aA 1))))))
abbrev lY:Stmt:=top 21
theorem a3k:FnScope ["sheet", "moment"] ["sheet", "moment"] (aD lY):=fS
theorem a5z (D:Def K mg "names_at" lY) (B:Blt mg) (XF:ExG dE K)  : aM P w K mg base "names_at" 1 ["sheet", "moment"] mP:=by
 refine aT 2 2 D a3k rfl rfl (fun _ _ _ _ _ _ us hl=>by obtain ⟨_,_,rfl⟩:=a0v hl;rfl) (fun fa cdv A outer s H E hr=>?_)
 have nd1:(["name", "begin", "end", "moment"]:List Str).Nodup:=by decide +kernel
 exact (aR (bB (cB (N':=["name", "begin", "end", "moment"]) (cap:=[none,none,none,some 1]) rfl (bU (so:=aD lY) (NN:=["sheet", "moment"]) rfl rfl (by decide +kernel)) (bX (aA 0)) rfl (fun _ _ _ _=>(fT rfl (aN 0 nd1 (aN 1 nd1 (aN 2 nd1 dO))))) (fun _ _ _ _=>(eM (a2z oQ a3x (aA 1) (aA 3) (aA 2)))) (fun _ _ _ _=>aA 0))))
abbrev tI:Stmt:=top 23
theorem a4C:FnScope ["sheet", "moment"] ["sheet", "moment"] (aD tI):=fS
theorem a8s (D:Def K mg "load_at" tI) (B:Blt mg) (XF:ExG dE K) (C_names_at:aM P w K mg base "names_at" 1 ["sheet", "moment"] mP):aM P w K mg base "load_at" 2 ["sheet", "moment"] lO:=by
 refine aT 2 2 D a4C rfl rfl (fun _ _ _ _ _ _ us hl=>by obtain ⟨_,_,rfl⟩:=a0v hl;rfl) (fun fa cdv A outer s H E hr=>?_)
 exact (aR (bB (bL pI B.b_len boot_len (aB (aO C_names_at (hM hr) (aB (aA 0) (aB (aA 1) aE))) aE))))
abbrev oA:Stmt:=top 25
noncomputable abbrev wM:List Str:=["sheet", "begins", "ends", "cuts"]
theorem rD:FnScope wM ["sheet"] (aD oA):=fS
theorem b3x (D:Def K mg "steps" oA) (B:Blt mg) (XF:ExG dE K) (C_load_at:aM P w K mg base "load_at" 2 ["sheet", "moment"] lO) (C_joined:aM P w K mg base "joined" 1 ["rows"] lR):aM P w K mg base "steps" 3 ["sheet"] sQ:=by
 refine aT 4 1 D rD rfl rfl (fun _ _ _ _ _ _ us hl=>by obtain ⟨_,rfl⟩:=tT hl;rfl) (fun fa cdv A outer s H E hr=>?_)
 have nd1:(["name", "begin", "end"]:List Str).Nodup:=by decide +kernel
 have nd2:(["name", "begin", "end"]:List Str).Nodup:=by decide +kernel
 have nd3:(["begin", "end", "sheet"]:List Str).Nodup:=by decide +kernel
 exact (aK (oH 1 rD.nd (N':=["name", "begin", "end"]) (cap:=[none,none,none]) rfl (bU (so:=aD oA) (NN:=wM) rfl rfl (by decide +kernel)) (bX (aA 0)) rfl (fun _ _ _ _=>(fT rfl (aN 0 nd1 (aN 1 nd1 (aN 2 nd1 dO))))) (fun _ _ _ _=>dL) (fun _ _ _ _=>aA 1)) (aK (oH 2 rD.nd (N':=["name", "begin", "end"]) (cap:=[none,none,none]) rfl (bU (so:=aD oA) (NN:=wM) rfl rfl (by decide +kernel)) (bX (aA 0)) rfl (fun _ _ _ _=>(fT rfl (aN 0 nd2 (aN 1 nd2 (aN 2 nd2 dO))))) (fun _ _ _ _=>dL) (fun _ _ _ _=>aA 2)) (aK (dF 3 rD.nd (a6V rfl B.b_sorted B.b_set (bC cM (aA 1) (aA 2)))) (aR (bB (aO C_joined (hM hr) (aB (cB (N':=["begin", "end", "sheet"]) (cap:=[none,none,some 0]) rfl (bU (so:=aD oA) (NN:=wM) rfl rfl (by decide +kernel)) (b3g B.b_zip (aA 3) (b7u (aA 3) (b3l aI) b3m)) rfl (fun _ _ _ _=>(fT rfl (aN 0 nd3 (aN 1 nd3 dO)))) (fun _ _ _ _=>dL) (fun _ _ _ _=>(eJ (aB (aA 0) (aB (aA 1) (aB (aO C_load_at (hM hr) (aB (aA 2) (aB (aA 0) aE))) aE)))))) aE)))))))
abbrev xJ:Stmt:=top 26
theorem a5X:FnScope ["sheet", "rows"] ["sheet"] (aD xJ):=fS
theorem b6c (D:Def K mg "busy" xJ) (B:Blt mg) (XF:ExG dE K) (C_steps:aM P w K mg base "steps" 3 ["sheet"] sQ) (C_joined:aM P w K mg base "joined" 1 ["rows"] lR):aM P w K mg base "busy" 4 ["sheet"] a0o:=by
 refine aT 2 1 D a5X rfl rfl (fun _ _ _ _ _ _ us hl=>by obtain ⟨_,rfl⟩:=tT hl;rfl) (fun fa cdv A outer s H E hr=>?_)
 have nd1:(["begin", "end", "many"]:List Str).Nodup:=by decide +kernel
 have nd2:(["begin", "end", "some"]:List Str).Nodup:=by decide +kernel
 exact (aK (dF 1 a5X.nd (aO C_joined (hM hr) (aB (cB (N':=["begin", "end", "many"]) (cap:=[none,none,none]) rfl (bU (so:=aD xJ) (NN:=["sheet", "rows"]) rfl rfl (by decide +kernel)) (bX (aO C_steps (hM hr) (aB (aA 0) aE))) rfl (fun _ _ _ _=>(fT rfl (aN 0 nd1 (aN 1 nd1 (aN 2 nd1 dO))))) (fun _ _ _ _=>dL) (fun _ _ _ _=>(eJ (aB (aA 0) (aB (aA 1) (aB (bL (a9X rfl) B.b_min boot_min (aB (aA 2) (aB aI aE))) aE)))))) aE))) (aR (bB (cB (N':=["begin", "end", "some"]) (cap:=[none,none,none]) rfl (bU (so:=aD xJ) (NN:=["sheet", "rows"]) rfl rfl (by decide +kernel)) (bX (aA 1)) rfl (fun _ _ _ _=>(fT rfl (aN 0 nd2 (aN 1 nd2 (aN 2 nd2 dO))))) (fun _ _ _ _=>(eM (bQ (yO hr.units) (aA 2) aI))) (fun _ _ _ _=>(eJ (aB (aA 0) (aB (aA 1) aE))))))))
abbrev fW:Stmt:=top 33
noncomputable abbrev oO:List Str:=["one", "other", "told", "begin", "end"]
theorem dZ:FnScope oO ["one", "other"] (aD fW):=fS
theorem a0B (D:Def K mg "shared_time" fW) (B:Blt mg) (XF:ExG dE K) (C_busy:aM P w K mg base "busy" 4 ["sheet"] a0o):aM P w K mg base "shared_time" 5 ["one", "other"] cJ:=by
 refine aT 5 2 D dZ rfl rfl (fun _ _ _ _ _ _ us hl=>by obtain ⟨_,_,rfl⟩:=a0v hl;rfl) (fun fa cdv A outer s H E hr=>?_)
 have nd1:(["first", "last", "begin", "end"]:List Str).Nodup:=by decide +kernel
 exact (aK (dF 2 dZ.nd aI) (aK (yS zq rfl (bX (aO C_busy (hM hr) (aB (aA 0) aE))) (fT rfl (aN 3 dZ.nd (aN 4 dZ.nd dO))) (aR (b5M 2 dZ.nd (bL (a9b rfl) B.b_sum boot_sum (aB (cB (N':=["first", "last", "begin", "end"]) (cap:=[none,none,some 3,some 4]) rfl (bU (so:=aD fW) (NN:=oO) rfl rfl (by decide +kernel)) (bX (aO C_busy (hM hr) (aB (aA 1) aE))) rfl (fun _ _ _ _=>(fT rfl (aN 0 nd1 (aN 1 nd1 dO)))) (fun _ _ _ _=>dL) (fun _ _ _ _=>(bL (a9Y rfl) B.b_max boot_max (aB (bC a9d (bL (a9X rfl) B.b_min boot_min (aB (aA 3) (aB (aA 1) aE))) (bL (a9Y rfl) B.b_max boot_max (aB (aA 2) (aB (aA 0) aE)))) (aB aI aE))))) aE))))) (aR (bB (aA 2)))))
abbrev lW:Stmt:=top 27
theorem a3i:FnScope ["sheet"] ["sheet"] (aD lW):=fS
theorem a5x (D:Def K mg "worth_of" lW) (B:Blt mg) (XF:ExG dE K)  : aM P w K mg base "worth_of" 1 ["sheet"] iF:=by
 refine aT 1 1 D a3i rfl rfl (fun _ _ _ _ _ _ us hl=>by obtain ⟨_,rfl⟩:=tT hl;rfl) (fun fa cdv A outer s H E hr=>?_)
 have nd1:(["name", "begin", "end"]:List Str).Nodup:=by decide +kernel
 exact (aR (bB (bL (a9b rfl) B.b_sum boot_sum (aB (cB (N':=["name", "begin", "end"]) (cap:=[none,none,none]) rfl (bU (so:=aD lW) (NN:=["sheet"]) rfl rfl (by decide +kernel)) (bX (aA 0)) rfl (fun _ _ _ _=>(fT rfl (aN 0 nd1 (aN 1 nd1 (aN 2 nd1 dO))))) (fun _ _ _ _=>dL) (fun _ _ _ _=>(bC a9d (aA 2) (aA 1)))) aE))))
abbrev fB:Stmt:=top 41
noncomputable abbrev nK:List Str:=["_law_script", "_law_one", "_law_other_here", "_law_mine", "_law_yours", "_law_unlike", "_law_alone", "_law_both", "_law_told_here", "_law_due", "_law_many", "_law_moment", "_law_first", "_law_last"]
theorem eN:FnScope nK ["_law_script"] (aD fB):=fS
theorem b7x {fa c T:Addr} {fd:FuncData} (Fu:Fun K "law" "law" fB fa fd) (B:Blt mg) (kb:K.In base) (nb:base.Ns mainGlobals mg) (M:BM mg base) (hmg:mg "law" = some (.ref fa)) (ht:jq K "law" = some (c,T)) (hC:zI K c T=true) (XF:ExG dE K) (C_l_sheet:aM P w K mg base "_law_sheet" 3 ["_law_script", "_law_at", "_law_most"] eX) (C_l_other:aM P w K mg base "_law_other" 4 ["_law_script", "_law_at", "_law_sheet_here"] lQ) (C_unlike_names:aM P w K mg base "unlike_names" 3 ["one", "other"] bM) (C_common:aM P w K mg base "common" 1 ["one", "other"] lT) (C_is_sheet:aM P w K mg base "is_sheet" 4 ["thing"] iH) (C_mergedX:CalleeX P w K mg base "merged" 4 ["one", "other"] fU) (C_l_told:ToldOk P w K mg base "_law_told" dE fV) (C_shared_time:aM P w K mg base "shared_time" 5 ["one", "other"] cJ) (C_worth_of:aM P w K mg base "worth_of" 1 ["sheet"] iF):FnOk P w K mg base CX0 8 fa fd ["_law_script"] (spD K fun ds d=>F_law ds=some (.ok d)):=by
 refine b2T 14 1 Fu eN rfl rfl kb nb hmg ht (fun A outer s H E hr=>?_)
 have nd1:(["_law_row"]:List Str).Nodup:=by decide +kernel
 have nd2:(["_law_row"]:List Str).Nodup:=by decide +kernel
 have nd3:(["_law_name", "_law_mine", "_law_yours"]:List Str).Nodup:=by decide +kernel
 have nd4:(["_law_name", "_law_mine"]:List Str).Nodup:=by decide +kernel
 have nd5:(["_law_name", "_law_yours"]:List Str).Nodup:=by decide +kernel
 have nd6:(["_law_row", "_law_other_here"]:List Str).Nodup:=by decide +kernel
 have nd7:(["_law_one", "_law_other_here"]:List Str).Nodup:=by decide +kernel
 have nd8:(["_law_name", "_law_due"]:List Str).Nodup:=by decide +kernel
 have nd9:(["_law_name", "_law_begin", "_law_end", "_law_moment"]:List Str).Nodup:=by decide +kernel
 have nd10:(["_law_name", "_law_begin", "_law_end", "_law_moment"]:List Str).Nodup:=by decide +kernel
 exact (aK (dF 1 eN.nd (aO C_l_sheet (hM hr) (aB (aA 0) (aB aI (aB aI aE))))) (aK (dF 2 eN.nd (aO C_l_other (hM hr) (aB (aA 0) (aB aI (aB (aA 1) aE))))) (aK (b5K (eJ (aB (dI (a6P rfl) B.b_dict boot_dict (aB (cB (N':=["_law_row"]) (cap:=[none]) rfl (bU (so:=aD fB) (NN:=nK) rfl rfl (by decide +kernel)) (bX (aA 1)) rfl (fun _ _ _ _=>cN 0 nd2) (fun _ _ _ _=>dL) (fun _ _ _ _=>(eJ (aB (dQ (aA 0) aI) (aB (aA 0) aE))))) aE)) (aB (dI (a6P rfl) B.b_dict boot_dict (aB (cB (N':=["_law_row"]) (cap:=[none]) rfl (bU (so:=aD fB) (NN:=nK) rfl rfl (by decide +kernel)) (bX (aA 2)) rfl (fun _ _ _ _=>cN 0 nd1) (fun _ _ _ _=>dL) (fun _ _ _ _=>(eJ (aB (dQ (aA 0) aI) (aB (aA 0) aE))))) aE)) aE))) (fT rfl (aN 3 eN.nd (aN 4 eN.nd dO)))) (aK (oH 5 eN.nd (N':=["_law_name", "_law_mine", "_law_yours"]) (cap:=[none,some 3,some 4]) rfl (bU (so:=aD fB) (NN:=nK) rfl rfl (by decide +kernel)) (bX (bL (mX rfl) B.b_sorted boot_sorted (aB (aA 3) aE))) rfl (fun _ _ _ _=>cN 0 nd3) (fun _ _ _ _=>(eM (DW.dt (a5r (b5J hr.units (aA 0) (aA 2)) (a2y (bQ (gB hr.units) (a2A (aA 1) (aA 0)) (a2A (aA 2) (aA 0)))))))) (fun _ _ _ _=>aA 0)) (aK (dF 6 eN.nd (eR (aB (cB (N':=["_law_name", "_law_yours"]) (cap:=[none,some 4]) rfl (bU (so:=aD fB) (NN:=nK) rfl rfl (by decide +kernel)) (bX (bL (mX rfl) B.b_sorted boot_sorted (aB (aA 3) aE))) rfl (fun _ _ _ _=>cN 0 nd5) (fun _ _ _ _=>(eM (a6M hr.units (aA 0) (aA 1)))) (fun _ _ _ _=>aA 0)) (aB (cB (N':=["_law_name", "_law_mine"]) (cap:=[none,some 3]) rfl (bU (so:=aD fB) (NN:=nK) rfl rfl (by decide +kernel)) (bX (bL (mX rfl) B.b_sorted boot_sorted (aB (aA 4) aE))) rfl (fun _ _ _ _=>cN 0 nd4) (fun _ _ _ _=>(eM (a6M hr.units (aA 0) (aA 1)))) (fun _ _ _ _=>aA 0)) aE)))) (aK (fL (bQ (gB hr.units) (aO C_unlike_names (hM hr) (aB (aA 1) (aB (aA 2) aE))) (eJ (aB (dQ (aA 6) aI) (aB (dQ (aA 6) aI) (aB (aA 5) aE))))) (aR (bB eF)) eS) (aK (fL (bQ (gB hr.units) (aO C_unlike_names (hM hr) (aB (aA 2) (aB (aA 1) aE))) (eJ (aB (dQ (aA 6) aI) (aB (dQ (aA 6) aI) (aB (aA 5) aE))))) (aR (bB eF)) eS) (aK (dF 7 eN.nd (dI oY B.b_tuple boot_tuple (aB (cB (N':=["_law_row", "_law_other_here"]) (cap:=[none,some 2]) rfl (bU (so:=aD fB) (NN:=nK) rfl rfl (by decide +kernel)) (bX (aA 1)) rfl (fun _ _ _ _=>cN 0 nd6) (fun _ _ _ _=>(eM (bQ (a5f hr.units1) (aA 0) (aA 1)))) (fun _ _ _ _=>aA 0)) aE))) (aK (fL (DW.dt (oU (bQ (gB hr.units) (aO C_common (hM hr) (aB (aA 1) (aB (aA 2) aE))) (aA 7)) (oU (bQ (gB hr.units) (aO C_common (hM hr) (aB (aA 2) (aB (aA 1) aE))) (aA 7)) (pQ (a0z (aO C_is_sheet (hM hr) (aB (aA 7) aE))))))) (aR (bB eF)) eS) (aK (dF 8 eN.nd (b3h (q := "law") (k:=4) (N':=["_law_one", "_law_other_here"]) (cap:=[some 1,some 2]) C_l_told (by unfold gD;simp) ht rfl rfl hC M (hM hr) (bU (so:=aD fB) (NN:=nK) rfl rfl (by decide +kernel)) (by decide +kernel) (fun f c cl A outer s H E hr=>(yZ C_mergedX (hM hr) (aB (aA 0) (aB (aA 1) aE)))))) (aK (dF 9 eN.nd (dI (b1a rfl) B.b_dict boot_dict (aB (bC cM (a3S rfl (aA 3) B.b_list) (a3S rfl (aA 4) B.b_list)) aE))) (aK (fL (bQ (gB hr.units) (aA 5) (eR aE)) (aR (fL (bQ (gB hr.units) (aA 8) cQ) (aR (bB eF)) eS)) (aR (fL (DW.dt (oU (bQ (gB hr.units) (aA 8) (dI oY B.b_tuple boot_tuple (aB (cB (N':=["_law_name", "_law_due"]) (cap:=[none,some 9]) rfl (bU (so:=aD fB) (NN:=nK) rfl rfl (by decide +kernel)) (bX (bL (mX rfl) B.b_sorted boot_sorted (aB (aA 9) aE))) rfl (fun _ _ _ _=>cN 0 nd8) (fun _ _ _ _=>dL) (fun _ _ _ _=>(a2A (aA 1) (aA 0)))) aE))) (oU (bQ (gB hr.units) (yZ C_mergedX (hM hr) (aB (aA 2) (aB (aA 1) aE))) (aA 8)) (pQ (bQ (gB hr.units) (aO C_common (hM hr) (aB (aA 8) (aB (aA 1) aE))) (aA 1)))))) (aR (bB eF)) eS))) (aK (dF 10 eN.nd aI) (aK (yS zq rfl (a6Q B.b_range aI) (cN 11 eN.nd) (aK (oH 12 eN.nd (N':=["_law_name", "_law_begin", "_law_end", "_law_moment"]) (cap:=[none,none,none,some 11]) rfl (bU (so:=aD fB) (NN:=nK) rfl rfl (by decide +kernel)) (bX (aA 1)) rfl (fun _ _ _ _=>(fT rfl (aN 0 nd9 (aN 1 nd9 (aN 2 nd9 dO))))) (fun _ _ _ _=>(eM (a2z oQ a3x (aA 1) (aA 3) (aA 2)))) (fun _ _ _ _=>aI)) (aK (oH 13 eN.nd (N':=["_law_name", "_law_begin", "_law_end", "_law_moment"]) (cap:=[none,none,none,some 11]) rfl (bU (so:=aD fB) (NN:=nK) rfl rfl (by decide +kernel)) (bX (aA 2)) rfl (fun _ _ _ _=>(fT rfl (aN 0 nd10 (aN 1 nd10 (aN 2 nd10 dO))))) (fun _ _ _ _=>(eM (a2z oQ a3x (aA 1) (aA 3) (aA 2)))) (fun _ _ _ _=>aI)) (aR (dF 10 eN.nd (bC cM (aA 10) (dI b0w B.b_int boot_int (aB (pU (pT (gB hr.units) (aA 12) (eR aE)) (yX (pT (gB hr.units) (aA 13) (eR aE)))) aE)))))))) (aK (fL (DW.dt (oU (bQ (gB hr.units) (aO C_shared_time (hM hr) (aB (aA 1) (aB (aA 2) aE))) (aA 10)) (oU (bQ (gB hr.units) (aO C_shared_time (hM hr) (aB (aA 2) (aB (aA 1) aE))) (aA 10)) (pQ (bQ (gB hr.units) (aO C_shared_time (hM hr) (aB (aA 1) (aB (eJ aE) aE))) aI))))) (aR (bB eF)) eS) (aR (bB (pU (pT oQ (aO C_shared_time (hM hr) (aB (aA 1) (aB (aA 1) aE))) (aO C_worth_of (hM hr) (aB (aA 1) aE))) (pU (pT (yO hr.units) (yZ C_mergedX (hM hr) (aB (aA 1) (aB (aA 1) aE))) (aA 1)) (yX (pT (yO hr.units) (aO C_unlike_names (hM hr) (aB (aA 1) (aB (aA 1) aE))) (eJ (aB (eR aE) (aB (eR aE) (aB (eR aE) aE)))))))))))))))))))))))))
end
theorem blt_mk {K:qB} {h:Heap} {mg:Str→Option Value} {t0:Tok} {t1:Tok} {t2:Tok} (X:K.In h) (G:h.Ns mainGlobals mg) (z0:qp K mainGlobals "ValueError" = some none) (z1:qp K mainGlobals "all" = some none) (z2:qp K mainGlobals "bool" = some none) (z3:qp K mainGlobals "dict" = some none) (z4:qp K mainGlobals "enumerate" = some none) (z5:qp K mainGlobals "int" = some none) (z6:qp K mainGlobals "isinstance" = some none) (z7:qp K mainGlobals "len" = some none) (z8:qp K mainGlobals "list" = some none) (z9:qp K mainGlobals "max" = some none) (z10:qp K mainGlobals "min" = some none) (z11:qp K mainGlobals "range" = some none) (z12:qp K mainGlobals "set" = some none) (z13:qp K mainGlobals "sorted" = some none) (z14:qp K mainGlobals "str" = some none) (z15:qp K mainGlobals "sum" = some none) (z16:qp K mainGlobals "tuple" = some none) (z17:qp K mainGlobals "zip" = some none) (y0:qp K mainGlobals "LAST_END" = some (some (.int 480 t0))) (y1:qp K mainGlobals "LONGEST_NAME" = some (some (.int 4 t1))) (y2:qp K mainGlobals "MOST_MEETINGS" = some (some (.int 16 t2))):Blt mg:=
 ⟨qb X G z0,qb X G z1,qb X G z2,qb X G z3,qb X G z4,qb X G z5,qb X G z6,qb X G z7,qb X G z8,qb X G z9,qb X G z10,qb X G z11,qb X G z12,qb X G z13,qb X G z14,qb X G z15,qb X G z16,qb X G z17,⟨_,kP X G y0⟩,⟨_,kP X G y1⟩,⟨_,kP X G y2⟩⟩
theorem law_mk {l:PySem.W.OpenLaw} {w:World} {K:qB} {h:Heap} {mg:Str→Option Value} {fa f4:Addr} (X:K.In h) (G:h.Ns mainGlobals mg) (hfa:mg "law" = some (.ref fa)) {od4 an4:Option Addr} {sl4:Array (Option Value)} {oc4 kV4 dc4 pm4 cd4 ct4:Value}
  (B:Blt mg) (XF:ExG dE K) (D0:Def K mg "_law_cell" xH) (D1:Def K mg "_law_pick" xG) (D2:Def K mg "_law_sheet" tJ) (D3:Def K mg "_law_other" lH) (D4:Def K mg "_law_class" tK) (D5:Def K mg "_law_told" xF) (D6:Def K mg "names_of" lX) (D7:Def K mg "names_alone" fX) (D8:Def K mg "unlike_names" fA) (D9:Def K mg "common" rF) (D10:Def K mg "is_rising" nA) (D11:Def K mg "is_name" oC) (D12:Def K mg "is_whole" pB) (D13:Def K mg "are_times" nB) (D14:Def K mg "is_meeting" mB) (D15:Def K mg "is_sheet" lZ) (D16:Def K mg "merged" oB) (D17:Def K mg "joined" xI) (D18:Def K mg "names_at" lY) (D19:Def K mg "load_at" tI) (D20:Def K mg "steps" oA) (D21:Def K mg "busy" xJ) (D22:Def K mg "shared_time" fW) (D23:Def K mg "worth_of" lW) (tb0:jq K "law" = some (269,267)) (hC0:zI K 269 267=true)
  (a4:qp K mainGlobals "law" = some (some (.ref f4))) (l4:K.lookup f4=some ⟨oc4,od4,.func (jd "law" "law" (fH fB) (cA fB) (aD fB) .none kV4 dc4 pm4 an4 cd4 ct4),sl4⟩) (c4:zj K cd4 "law" = true) (k4:ju K (.ref f4)=true) :
  ∃ fd:FuncData,(∀ (s:Shared) (v:Value),BindsTo s fd ⟨[v],[]⟩ [("_law_script", v)])∧∀ base:Heap,K.In base→base.Ns mainGlobals mg→BM mg base→FnOk l.prog w K mg base CX0 8 fa fd ["_law_script"] (spD K fun ds d=>F_law ds=some (.ok d)):=by
 have e:=hfa.symm.trans (kP X G a4)
 cases e
 refine ⟨jd "law" "law" (fH fB) (cA fB) (aD fB) .none kV4 dc4 pm4 an4 cd4 ct4,fun s v=>.of_eq rfl,fun base kb nb M=>?_⟩
 have C_l_cell:=b1p (P:=l.prog) (w:=w) (base:=base) D0 B XF
 have C_l_pick:=b1o (P:=l.prog) (w:=w) (base:=base) D1 B XF C_l_cell
 have C_l_sheet:=a8t (P:=l.prog) (w:=w) (base:=base) D2 B XF C_l_pick
 have C_l_other:=a8u (P:=l.prog) (w:=w) (base:=base) D3 B XF C_l_sheet C_l_pick
 have C_l_class:=a8v (P:=l.prog) (w:=w) (base:=base) D4 B XF
 have C_l_told:=b1n (P:=l.prog) (w:=w) (base:=base) D5 B XF C_l_class
 have C_names_of:=a5y (P:=l.prog) (w:=w) (base:=base) D6 B XF
 have C_names_alone:=a0C (P:=l.prog) (w:=w) (base:=base) D7 B XF C_names_of
 have C_unlike_names:=a0g (P:=l.prog) (w:=w) (base:=base) D8 B XF C_names_of C_names_alone
 have C_common:=b1r (P:=l.prog) (w:=w) (base:=base) D9 B XF
 have C_is_rising:=a4e (P:=l.prog) (w:=w) (base:=base) D10 B XF
 have C_is_name:=a8w (P:=l.prog) (w:=w) (base:=base) D11 B XF
 have C_is_whole:=a5A (P:=l.prog) (w:=w) (base:=base) D12 B XF
 have C_are_times:=a4f (P:=l.prog) (w:=w) (base:=base) D13 B XF C_is_whole
 have C_is_meeting:=a2K (P:=l.prog) (w:=w) (base:=base) D14 B XF C_is_name C_are_times
 have C_is_sheet:=a5B (P:=l.prog) (w:=w) (base:=base) D15 B XF C_is_meeting C_names_of C_is_rising
 have C_mergedX:=a8r (P:=l.prog) (w:=w) (base:=base) D16 B XF C_unlike_names
 have C_joined:=b1q (P:=l.prog) (w:=w) (base:=base) D17 B XF
 have C_names_at:=a5z (P:=l.prog) (w:=w) (base:=base) D18 B XF
 have C_load_at:=a8s (P:=l.prog) (w:=w) (base:=base) D19 B XF C_names_at
 have C_steps:=b3x (P:=l.prog) (w:=w) (base:=base) D20 B XF C_load_at C_joined
 have C_busy:=b6c (P:=l.prog) (w:=w) (base:=base) D21 B XF C_steps C_joined
 have C_shared_time:=a0B (P:=l.prog) (w:=w) (base:=base) D22 B XF C_busy
 have C_worth_of:=a5x (P:=l.prog) (w:=w) (base:=base) D23 B XF
 exact b7x (b0I (st:=fB) l4 c4 k4) B kb nb M hfa tb0 hC0 XF C_l_sheet C_l_other C_unlike_names C_common C_is_sheet C_mergedX C_l_told C_shared_time C_worth_of
end L2.L3
open PySem PySem.W PyProof.Rows
namespace PySem.W.Fast
theorem tw18041964232776595799:True:=⟨⟩
theorem tw15554302807309894068:True:=⟨⟩
theorem tw8687969689046060754:True:=⟨⟩
theorem tw3698476949383856367:True:=⟨⟩
theorem tw14800027364827204389:True:=⟨⟩
theorem tw16559700355065686309:True:=⟨⟩
theorem tw6027160737088703573:True:=⟨⟩
theorem tw10850966084542133577:True:=⟨⟩
theorem tw18106309098270787012:True:=⟨⟩
theorem tw15016787595801524353:True:=⟨⟩
theorem tw8901021462605671664:True:=⟨⟩
theorem tw11534887220257687469:True:=⟨⟩
theorem tw15306795853857348897:True:=⟨⟩
theorem tw5019873313715354539:True:=⟨⟩
theorem tw13594768693665534161:True:=⟨⟩
theorem tw1795286674989578308:True:=⟨⟩
theorem tw12200291272255258268:True:=⟨⟩
theorem tw16555307439653030035:True:=⟨⟩
theorem tw8566104225050530012:True:=⟨⟩
theorem tw3225923398853782978:True:=⟨⟩
theorem tw4401282076474328094:True:=⟨⟩
theorem tw1569053412889887371:True:=⟨⟩
theorem tw5570588804355088218:True:=⟨⟩
theorem tw15441645098933107060:True:=⟨⟩
theorem tw8930969135080028127:True:=⟨⟩
theorem tw2674795870815819552:True:=⟨⟩
theorem tw9074702298848239241:True:=⟨⟩
theorem tw5152730619867887830:True:=⟨⟩
theorem tw11948485626044895465:True:=⟨⟩
theorem tw2707873113893030019:True:=⟨⟩
theorem tw15643738786973161238:True:=⟨⟩
theorem tw7420782407578293628:True:=⟨⟩
theorem tw4151364231403509308:True:=⟨⟩
theorem tw16681086708879315574:True:=⟨⟩
theorem tw9082452589549761245:True:=⟨⟩
theorem tw15995845159469672226:True:=⟨⟩
theorem tw15706070661562322877:True:=⟨⟩
theorem tw6857668636456726568:True:=⟨⟩
theorem tw902389381018679749:True:=⟨⟩
theorem tw901821047429123109:True:=⟨⟩
theorem tw17060700819726915693:True:=⟨⟩
theorem tw5187798700480770436:True:=⟨⟩
theorem tw2029722561072573642:True:=⟨⟩
theorem tw12167519427541952907:True:=⟨⟩
theorem tw16540143164607324576:True:=⟨⟩
theorem tw12190808837111960917:True:=⟨⟩
theorem tw12051283400482343254:True:=⟨⟩
theorem tw15746932383290177178:True:=⟨⟩
theorem tw4558060073074013683:True:=⟨⟩
theorem tw2515506640965161965:True:=⟨⟩
theorem tw11658576513265724424:True:=⟨⟩
theorem tw11690368626837913820:True:=⟨⟩
theorem tw14533556487866186582:True:=⟨⟩
theorem tw12064411515952323625:True:=⟨⟩
theorem tw7825621283603736156:True:=⟨⟩
end PySem.W.Fast
set_option maxRecDepth 100000 in
set_option maxHeartbeats 0 in
theorem PySem.Challenge.cw_daysheet_k05_whole_compared_holds : PySem.Challenge.rw_daysheet_k05_whole_compared.Holds := by
 w_on;o_law;k_head;(case hw=>w_witness2)
 k_fill
 refine L2.L3.walkL (l:=zo) (k:=8) (F:=L2.L3.F_law) (x := "_law_script") [(267,L2.L3.lamQ "law")] rfl rfl ⟨rfl,by decide,by decide⟩ (fun w h Y=>PySem.W.km_in_of Y) (fun w h Y=>PySem.W.km_tabs_of Y) ?cd ?ts ?F (fun ns hl=>L2.L3.e_law ns hl)
 case cd=>exact fun w=>L2.L3.all_cons ⟨⟨269,by kernel_rfl⟩,by kernel_rfl⟩ (fun _ h=>nomatch h)
 case ts=>exact fun w=>L2.L3.lam_all (by kernel_rfl)
 case F=>
  intro w mg fa h KX G hmg
  refine' L2.L3.law_mk KX G hmg ?B ?XF ?D0 ?D1 ?D2 ?D3 ?D4 ?D5 ?D6 ?D7 ?D8 ?D9 ?D10 ?D11 ?D12 ?D13 ?D14 ?D15 ?D16 ?D17 ?D18 ?D19 ?D20 ?D21 ?D22 ?D23 ?tb0 ?hC0 ?a4 ?l4 ?c4 ?k4
  (case XF=>exact ⟨by kernel_rfl⟩)
  (case tb0=>kernel_rfl);(case hC0=>kernel_rfl)
  (case a4=>k_is);(case l4=>k_is);(case c4=>k_is);(case k4=>k_is)
  (case B=>(refine' L2.L3.blt_mk KX G ?z0 ?z1 ?z2 ?z3 ?z4 ?z5 ?z6 ?z7 ?z8 ?z9 ?z10 ?z11 ?z12 ?z13 ?z14 ?z15 ?z16 ?z17 ?y0 ?y1 ?y2;(case z0=>k_is);(case z1=>k_is);(case z2=>k_is);(case z3=>k_is);(case z4=>k_is);(case z5=>k_is);(case z6=>k_is);(case z7=>k_is);(case z8=>k_is);(case z9=>k_is);(case z10=>k_is);(case z11=>k_is);(case z12=>k_is);(case z13=>k_is);(case z14=>k_is);(case z15=>k_is);(case z16=>k_is);(case z17=>k_is);(case y0=>k_is);(case y1=>k_is);(case y2=>k_is)))
  (case D0 | D1 | D2 | D3 | D4 | D5 | D6 | D7 | D8 | D9 | D10 | D11 | D12 | D13 | D14 | D15 | D16 | D17 | D18 | D19 | D20 | D21 | D22 | D23=>(refine' L2.L3.def_mk KX G ?a ?l ?c ?k;(case a=>k_is);(case l=>k_is);(case c=>k_is);(case k=>k_is)))

