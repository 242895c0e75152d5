import PyProof.Rows.All
import Wide.All
import OpenK.AllK
import Wide.FinOn
import Lean
import PyProof.EqAt
import PyProof.EqKinds
import PyProof.TupleCall
import PySem.Challenge.RW_daysheet_k84_binders_refused
set_option Elab.async false
set_option linter.all false
set_option maxRecDepth 100000
set_option maxHeartbeats 4000000
open Option.some renaming inj→qA
open PySem.W renaming Frag→qB,findIn→qm,nsIn→qp,kia_one→qy,mg_none_of→qz,keepIn→jC,fnOf→jE,emptyDict→jR,tabIn→jc,instObj→jg,mg_of→jl,subIn→jy,codeIn→jz,callWith_K→kF,cellsFrom_some→kO,kitOne→kT,plainGet→kW,codeHdIn→kX,hideAll_none→kc,hasDictIn→zA,isFn→zK,hideAll→zL,tabObj→zT,lookIn→zU,plainGet_of→zY,hideAll_get→zZ,of_hideAll→zg,codeRec_of→zh,plainOver→zo,methodObj→zp,kitx_list→zq,kitx_dict→zr
open PySem.Heap renaming get?_push_of_some→qC,lt_size→qG,get?_push_size→qK,get?_update_other→qY,size_push→jJ,get?_update_self→jj,SameBut→jk,get?_update_ne→jt,get?_none_of_le→zx
open Option renaming map_eq_some_iff→qD,isSome_map→zt
open List renaming mem_cons_of_mem→qE,map_cons→qF,size_toArray→qI,getElem?_map→qJ,mem_cons→qM,getElem?_eq_getElem→qN,length_map→qQ,getElem?_eq_some_iff→qS,replicate→qV,mem_append_right→qW,length_cons→qb,getElem?_append_left→qc,mem_cons_self→qd,flatten_cons→qe,mem_append→qg,mem_singleton→qh,filter_cons_of_pos→ql,getElem?_set_ne→qt,getElem?_append_right→qw,filter_cons_of_neg→qx,getElem?_eq_none→jB,mem_append_left→jD,pairwise_cons→jF,ext_getElem?→jH,getElem?_replicate→jL,getElem_mem→jM,all_eq_true→jN,getD_eq_getElem?_getD→jO,range→jS,map_map→jT,length_append→jU,any_cons→jV,replicate_succ→jZ,lookup_cons→jb,mem_map→je,nodup_append→jh,getElem?_set→ji,getElem?_set_self→jn,nodup_cons→jv,find?_cons→jw,append_nil→jx,not_mem_nil→kA,getElem?_take_of_lt→kD,nil_append→kH,map_append→kI,length_eq_zero_iff→kJ,lookup→kR,length_take→kZ,mem_iff_getElem→kd,of_mem_zip→kj,flatten_append→kl,lookup_append→ku,length_range→zB,all_cons→zD,flatten_nil→zH,getElem?_toArray→zN,getD→zO,foldl→zR,mem_range→zV,toList_toArray→za,getElem?_range→zb,filterMap_cons→zc,mem_filterMap→zi,getElem?_drop→zj,eraseIdx_eq_take_drop_succ→zu,append_assoc→zw,mem_flatten→vF
open Bool renaming and_eq_true→qH,false_ne_true→qT,false_eq_true→jp,or_eq_true→kM,noConfusion→ka,eq_iff_iff→kq,not_eq_true'→zC,or_false→zm
open Nat renaming le_refl→qO,lt_of_lt_of_le→qP,ne_of_lt→qU,le_trans→qj,le_of_lt→qv,zero_le→jA,lt_irrefl→jG,lt_succ_of_lt→jY,lt_of_le_of_lt→jd,le_succ→ju,ne_of_gt→kC,lt_succ_self→kY,not_lt_of_lt→vD
open Array renaming length_toList→qR,getElem?_eq_getElem→qo,getElem?_toList→jK,getD→kS,getElem?_eq_some_iff→kr,any_toList→zI,toList→vB
open PySem.SetTable renaming below→qX,grown→kE
open PySem renaming mem_of_lookup→qZ,strKind→kh
open PySem.SeqAt renaming shaped→qa,canLay_of_shaped→zX
open Or renaming inr→qf,inl→qu
open PySem.Value renaming ref→qi,bool→jQ,none→jf,type→kN,str→zd,int→ze
open False renaming elim→qk
open Ne renaming symm→qr
open Int renaming toNat_natCast→jI,emod_lt_of_pos→jo,emod_nonneg→kK,le_refl→kn,le_of_lt→zy
open PySem.Builtin.List renaming listExtendWith→jP,listTooLong→kQ
open PySem.PyData renaming eqv→jW,eqvAll→jq,canLay0→ki,strOk→zE,depth→zF,bool→vC
open PySem.Obj renaming mapSeq→jX,data_mapFields→zG
open PySem.Around renaming under_plainId→ja
open True renaming intro→jm
open PySem.NameKind renaming free→jr,cell→zS
open PySem.Calls renaming spliced_nil→kB,spliced_cons→kU,callWith_builtin→ke,evalArgs_plain→ky,call_function_entry→zJ
open PySem.F renaming plainAttrs_list→kG,called_set→kP,slot_dict_get→zM,slot_list_count→zP,plain_list_iadd→zQ,slot_int_rmul→zl
open PySem.SetTable.below renaming go→kg
open List.cons renaming injEq→km
open PySem.Challenge renaming rw_daysheet_k84_binders_refused→kz
open Sum renaming inr→zW
open PySem.Str renaming ofString→zf
open PySem.SeqAt.EqAt renaming bool_bool→zn
open PyProof.Rows.F renaming plain_set_update_loop→vA
namespace L2
open PySem PySem.Spec PyProof.Rows
abbrev Key:=Sum Int Str
def uQ:Key→Value→Bool
 | .inl k,v=>Value.isInt k v
 | .inr x,v=>Value.isStrOf x v
def b8k (w:World):Key→Int
 | .inl k=>hashInt k
 | .inr x=>hashStr w x
theorem cD:∀ {k:Key} {v:Value},uQ k v=true→(∃ i t,k=Sum.inl i∧v=ze i t)∨(∃ x t,k=zW x∧v=zd x t)
 | .inl i,v,h=>by
  obtain ⟨t,e⟩:=Value.isInt_shape (k:=i) (v:=v) h
  exact .inl ⟨i,t,rfl,e⟩
 | .inr x,v,h=>by
  obtain ⟨t,e⟩:=Value.isStrOf_shape (x:=x) (v:=v) h
  exact .inr ⟨x,t,rfl,e⟩
theorem a6O (i:Int) (t:Tok):uQ (.inl i) (.int i t)=true:=by simp [uQ,Value.isInt]
theorem a6N (x:Str) (t:Tok):uQ (.inr x) (.str x t)=true:=by simp [uQ,Value.isStrOf]
theorem b4S (a b:Int):decide ((Sum.inl a:Key)=Sum.inl b)=(a==b):=by
 by_cases e:a=b
 ·subst e;simp
 ·have h:¬(Sum.inl a:Key)=Sum.inl b:=fun q=>e (Sum.inl.inj q)
  rw [decide_eq_false h]
  exact (beq_eq_false_iff_ne.mpr e).symm
theorem b4P (a b:Str):decide ((zW a:Key)=zW b)=decide (a=b):=by
 by_cases e:a=b
 ·subst e;simp
 ·have h:¬(zW a:Key)=zW b:=fun q=>e (Sum.inr.inj q)
  rw [decide_eq_false h,decide_eq_false e]
theorem b4R (a:Int) (b:Str):decide ((Sum.inl a:Key)=zW b)=false:=decide_eq_false (fun q=>nomatch q)
theorem b4Q (a:Str) (b:Int):decide ((zW a:Key)=Sum.inl b)=false:=decide_eq_false (fun q=>nomatch q)
def bR (prog:Program) (w:World):PySem.KeyKind prog w Key where
 is:=uQ
 hash:=b8k w
 inj:=fun v a b ha hb=>by
  rcases cD ha with ⟨i,t,rfl,rfl⟩ | ⟨x,t,rfl,rfl⟩
  ·rcases cD hb with ⟨j,u,rfl,e⟩ | ⟨y,u,rfl,e⟩
   ·injection e with e1 _;rw [e1]
   ·exact nomatch e
  ·rcases cD hb with ⟨j,u,rfl,e⟩ | ⟨y,u,rfl,e⟩
   ·exact nomatch e
   ·injection e with e1 _;rw [e1]
 byValue:=fun k v h=>by
  rcases cD h with ⟨i,t,rfl,rfl⟩ | ⟨x,t,rfl,rfl⟩<;>rfl
 pyHash:=fun hv h=>by
  rcases cD hv with ⟨i,t,rfl,rfl⟩ | ⟨x,t,rfl,rfl⟩
  ·exact wpAny_pyHash_int h
  ·exact wpAny_pyHash_str h
 eqBool:=fun hu hv h=>by
  rcases cD hu with ⟨i,t,rfl,rfl⟩ | ⟨x,t,rfl,rfl⟩
  ·rcases cD hv with ⟨j,u,rfl,rfl⟩ | ⟨y,u,rfl,rfl⟩
   ·rw [b4S] at h;exact wpAny_eqBool_int h
   ·rw [b4R] at h;exact SeqAt.EqAt.int_str i t y u _ _ _ _ h
  ·rcases cD hv with ⟨j,u,rfl,rfl⟩ | ⟨y,u,rfl,rfl⟩
   ·rw [b4Q] at h;exact SeqAt.EqAt.str_int x t j u _ _ _ _ h
   ·rw [b4P] at h;exact wpAny_eqBool_str h
 «strs»:=fun k x t v h=>by
  rcases cD h with ⟨i,u,rfl,e⟩ | ⟨y,u,rfl,e⟩
  ·exact nomatch e
  ·injection e with e1 _
   subst e1
   cases v<;>rfl
theorem a4c (prog:Program) (w:World) (k:Key) (v:Value):(bR prog w).is k v=uQ k v:=rfl
theorem uL (prog:Program) (w:World) (i:Int) (t:Tok):(bR prog w).is (.inl i) (.int i t)=true:=a6O i t
theorem uK (prog:Program) (w:World) (x:Str) (t:Tok):(bR prog w).is (.inr x) (.str x t)=true:=a6N x t
inductive V where
 | non | bl (b:Bool) | int (i:Int) | str (x:Str) | byt (b:Array UInt8) | flt (b:UInt64) | ref (a:Addr) | ty (n:String)
 deriving DecidableEq
def RelV:V→Value→Prop
 | .non,u=>u=jf
 | .bl b,u=>u=jQ b
 | .int i,u=>∃ t,u=ze i t
 | .str x,u=>∃ t,u=zd x t
 | .byt b,u=>∃ t,u=Value.bytes b t
 | .flt b,u=>∃ t,u=Value.float b t
 | .ref a,u=>u=qi a
 | .ty n,u=>u=kN n
abbrev aX:List V→List Value→Prop:=Paired RelV
theorem aX.length {xs:List V} {us:List Value} (r:aX xs us):xs.length=us.length:=Paired.length r
theorem aX.get:∀ {xs:List V} {us:List Value} {i:Nat} {x:V},aX xs us→xs[i]?=some x→∃ u,us[i]?=some u∧RelV x u
 | _,_,_,_,.nil,e=>by simp at e
 | _,_,0,_,.cons r _,e=>by simp at e;subst e;exact ⟨_,rfl,r⟩
 | _,_,i+1,x,.cons _ t,e=>by
  obtain ⟨u,h1,h2⟩:=aX.get (i:=i) (x:=x) t (by simpa using e)
  exact ⟨u,by simpa using h1,h2⟩
theorem aX.append:∀ {xs ys:List V} {us ws:List Value},aX xs us→aX ys ws→aX (xs++ys) (us++ws)
 | _,_,_,_,.nil,s=>s
 | _,_,_,_,.cons r t,s=>.cons r (aX.append t s)
def oA:Option V→Option Value→Prop
 | some v,some u=>RelV v u
 | none,none=>True
 | _,_=>False
def KV {κ:Type}:List (κ×V)→List (κ×Value)→Prop:=Paired fun (p:κ×V) (q:κ×Value)=>p.1=q.1∧RelV p.2 q.2
def kV:Key→V
 | .inl i=>.int i
 | .inr x=>.str x
inductive HO where
 | lst (xs:List V)
 | tup (xs:List V)
 | dK (kvs:List (Key×V)) | dT (kvs:List (List Key×V))
 | set (S:Int→Bool) (n:Nat)
 | ins (C dx:Addr) (fs:List (Str×V))
 | own (x:Addr)
 | xd (fs:List (Str×V))
 | met (f x:Addr)
 | rng (lo hi:Int)
 | frz (o:Obj) (u:HO)
 | tbl (ps:Str×Array Value)
 | ext (φ:Heap→Prop)
abbrev Hp:=Addr→Option HO
def upd (H:Hp) (a:Addr) (o:HO):Hp:=fun b=>if b=a then some o else H b
theorem aJ {H:Hp} {a:Addr} {o:HO}:upd H a o a=some o:=by unfold upd;rw [if_pos rfl]
theorem aG {H:Hp} {a b:Addr} {o:HO} (h:b≠a):upd H a o b=H b:=by unfold upd;rw [if_neg h]
theorem bZ {H:Hp} {a b:Addr} {o u:HO} (h:H a=some o) (h':H b=some u) (d:o≠u):a≠b:=by
 intro e;subst e;rw [h] at h';exact d (qA h')
theorem aL {H:Hp} {a b:Addr} {o:HO} (h:H a=some o) (h':H b=none):a≠b:=by
 intro e;subst e;rw [h] at h';cases h'
section
variable (P:Program) (w:World)
def cG (H:Hp) (h:Heap) (a:Addr):HO→Prop
 | .lst xs=>xs.length≤sizeLine∧∃ (its:List Value) (n:Nat),aX xs its∧h.get? a=some { cls:=.type "list", data:=.seq its.toArray n }
 | .tup xs=>xs.length≤sizeLine∧∃ its:List Value,aX xs its∧IsTup h a its.toArray
 | .dK kvs=>kvs.length≤sizeLine∧(a==sysModules)=false∧∃ vs,KV kvs vs∧h.DictOf (bR P w) a vs
 | .dT kvs=>kvs.length≤sizeLine∧(a==sysModules)=false∧∃ xs:List (List Key×Addr×Value),
   Paired (fun (p:List Key×V) (q:List Key×Addr×Value)=>p.1=q.1∧H q.2.1=some (.tup (p.1.map kV))∧RelV p.2 q.2.2) kvs xs ∧
   ∃ o es ep,h.get? a=some o∧o.ExactDict∧o.data=.dict es ep∧es.toList=xs.map (entryOfKey (tupleKind (bR P w)))∧(xs.map (·.1)).Nodup
 | .set S n=>h.SetOf (intKind P w) a S n
 | .ins C dx fs=>H dx=some (.own a)∧fs.length≤1000∧dx≠a∧h.get? a=some (jg C dx) ∧
   ∃ mA,h.Ns1 dx mA∧(∀ f,oA (fs.lookup f) (mA f))∧PySem.Within mA (fs.map (·.1))
 | .own _=>∃ o,h.get? a=some o
 | .xd fs=>∃ mA,h.Ns1 a mA∧∀ f,oA (fs.lookup f) (mA f)
 | .rng lo hi=>∃ t u v,h.get? a=some { cls:=.type "range", data:=.fields #[.int lo t,.int hi u,.int 1 v] }
 | .frz o u=>h.get? a=some o∧cG H h a u
 | .tbl ps=>h.get? a=some { cls:=.none,data:=.fields ps.2 }
 | .met f x=>h.get? a=some (zp (.ref f) (.ref x))
 | .ext φ=>φ h∧(∃ o,h.get? a=some o)∧∀ h1 h2:Heap,φ h1→(∀ o,h1.get? a=some o→h2.get? a=some o)→φ h2
def HOk (H:Hp) (h:Heap):Prop:=∀ a o,H a=some o→cG P w H h a o
end
section
variable {P:Program} {w:World} {H H':Hp} {h h':Heap} {a:Addr} {o:HO}
theorem cG.lt (x:cG P w H h a o):a<h.objs.size:=by
 cases o with
 | lst xs=>obtain ⟨_,_,_,_,e⟩:=x;exact qG e
 | tup xs=>obtain ⟨_,_,_,p⟩:=x;exact p.lt
 | dK kvs=>obtain ⟨_,_,_,_,o,_,_,e,_⟩:=x;exact qG e
 | dT kvs=>obtain ⟨_,_,_,_,o,_,_,e,_⟩:=x;exact qG e
 | set S n=>obtain ⟨o,_,_,_,e,_⟩:=x;exact qG e
 | ins C dx fs=>obtain ⟨_,_,_,e,_⟩:=x;exact qG e
 | own y=>obtain ⟨_,e⟩:=x;exact qG e
 | xd fs=>obtain ⟨_,⟨_,_,_,e,_⟩,_⟩:=x;exact qG e
 | rng lo hi=>obtain ⟨_,_,_,e⟩:=x;exact qG e
 | frz ob u=>obtain ⟨e,_⟩:=x;exact qG e
 | tbl ps=>exact qG (show h.get? a=some _ from x)
 | met f y=>exact qG (show h.get? a=some _ from x)
 | ext φ=>obtain ⟨_,⟨_,e⟩,_⟩:=x;exact qG e
theorem Paired.mapP {α β:Type} {F G:α→β→Prop}:∀ {l₁:List α} {l₂:List β},Paired F l₁ l₂→(∀ a b,F a b→G a b)→Paired G l₁ l₂
 | _,_,.nil,_=>.nil
 | _,_,.cons r t,f=>.cons (f _ _ r) (Paired.mapP t f)
theorem cG.stay (x:cG P w H h a o) (k:∀ b u,(b=a∨H b=some (.own a))→h.get? b=some u→h'.get? b=some u)
  (ho:∀ b,H b=some (.own a)→H' b=some (.own a)) (ht:∀ b xs,H b=some (.tup xs)→H' b=some (.tup xs)):cG P w H' h' a o:=by
 induction o with
 | lst xs=>obtain ⟨z,its,n,r,e⟩:=x;exact ⟨z,its,n,r,k _ _ (.inl rfl) e⟩
 | tup xs=>obtain ⟨z,its,r,ob,e,c⟩:=x;exact ⟨z,its,r,ob,k _ _ (.inl rfl) e,c⟩
 | dK kvs=>obtain ⟨z,y,vs,r,ob,es,ep,e,c⟩:=x;exact ⟨z,y,vs,r,ob,es,ep,k _ _ (.inl rfl) e,c⟩
 | dT kvs=>
  obtain ⟨z,y,xs,r,ob,es,ep,e,c⟩:=x
  exact ⟨z,y,xs,Paired.mapP r fun p q z=>⟨z.1,ht _ _ z.2.1,z.2.2⟩,ob,es,ep,k _ _ (.inl rfl) e,c⟩
 | set S n=>obtain ⟨ob,es,ep,t,e,c⟩:=x;exact ⟨ob,es,ep,t,k _ _ (.inl rfl) e,c⟩
 | ins C dx fs=>
  obtain ⟨d,z,ne,e,mA,⟨od,es,ep,e2,c⟩,r⟩:=x
  exact ⟨ho _ d,z,ne,k _ _ (.inl rfl) e,mA,⟨od,es,ep,k _ _ (.inr d) e2,c⟩,r⟩
 | own y=>obtain ⟨ob,e⟩:=x;exact ⟨ob,k _ _ (.inl rfl) e⟩
 | xd fs=>obtain ⟨mA,⟨od,es,ep,e,c⟩,r⟩:=x;exact ⟨mA,⟨od,es,ep,k _ _ (.inl rfl) e,c⟩,r⟩
 | rng lo hi=>obtain ⟨t,u,v,e⟩:=x;exact ⟨t,u,v,k _ _ (.inl rfl) e⟩
 | frz ob u ih=>obtain ⟨e,q⟩:=x;exact ⟨k _ _ (.inl rfl) e,ih q⟩
 | tbl ps=>
  have e:h.get? a=some { cls:=.none,data:=.fields ps.2 }:=x
  show h'.get? a=some { cls:=.none,data:=.fields ps.2 }
  exact k a _ (.inl rfl) e
 | met f y=>
  have e:h.get? a=some (zp (.ref f) (.ref y)):=x
  show h'.get? a=some (zp (.ref f) (.ref y))
  exact k a _ (.inl rfl) e
 | ext φ=>obtain ⟨p,⟨o,e⟩,st⟩:=x;exact ⟨st _ _ p fun o q=>k _ _ (.inl rfl) q,⟨o,k _ _ (.inl rfl) e⟩,st⟩
theorem HOk.lt (x:HOk P w H h) (e:H a=some o):a<h.objs.size:=(x a o e).lt
theorem HOk.fresh (x:HOk P w H h) (e:h.objs.size≤a):H a=none:=by
 cases q:H a with
 | none=>rfl
 | some u=>exact absurd (qP (x.lt q) e) (jG _)
theorem HOk.kept (x:HOk P w H h) (k:∀ b u,h.get? b=some u→h'.get? b=some u):HOk P w H h':=fun a o e=>
 (x a o e).stay (fun b u _ q=>k b u q) (fun _ q=>q) fun _ _ q=>q
theorem HOk.laid (x:HOk P w H h) (k:∀ b u,h.get? b=some u→h'.get? b=some u) (hp:h.objs.size≤a) (new:cG P w (upd H a o) h' a o):HOk P w (upd H a o) h':=fun b u e=>by
 have hn:=x.fresh hp
 by_cases hb:b=a
 ·subst hb;rw [aJ] at e;cases e;exact new
 ·rw [aG hb] at e
  exact (x b u e).stay (fun c v _ q=>k c v q) (fun c q=>by rw [aG (aL q hn)];exact q) fun c xs q=>by rw [aG (aL q hn)];exact q
end
def Rd (H:Hp) (a:Addr) (u:HO):Prop:=H a=some u∨∃ o,H a=some (.frz o u)
theorem Rd.ok {P:Program} {w:World} {H:Hp} {h:Heap} {a:Addr} {u:HO} (r:Rd H a u) (x:HOk P w H h):cG P w H h a u:=by
 rcases r with r | ⟨o,r⟩
 ·exact x a u r
 ·obtain ⟨_,q⟩:=x a _ r
  exact q
def Mut:Option HO→Prop
 | some (.lst _)=>True
 | some (.dK _)=>True
 | some (.dT _)=>True
 | some (.set _ _)=>True
 | some (.ins _ _ _)=>True
 | some (.ext _)=>True
 | _=>False
section
variable {P:Program} {w:World} {H:Hp} {h h':Heap} {x e:Addr} {o':HO}
theorem HOk.write (ok:HOk P w H h) (mu:Mut (H x)) (he:e=x∨H e=some (.own x)) (k:∀ b u,b≠e→h.get? b=some u→h'.get? b=some u) (heo:∃ u,h'.get? e=some u)
  (new:cG P w (upd H x o') h' x o'):HOk P w (upd H x o') h':=fun b u q=>by
 have nown:∀ c y,H c=some (.own y)→c≠x:=fun c y r z=>by subst z;rw [r] at mu;exact mu
 have ntup:∀ c xs,H c=some (.tup xs)→c≠x:=fun c xs r z=>by subst z;rw [r] at mu;exact mu
 by_cases hb:b=x
 ·subst hb;rw [aJ] at q;cases q;exact new
 ·rw [aG hb] at q
  by_cases hbe:b=e
  ·have q':H b=some (.own x):=by
    rcases he with z | z
    ·exact absurd (hbe.trans z) hb
    ·rw [hbe];exact z
   rw [q] at q';cases q'
   obtain ⟨v,hv⟩:=heo
   exact ⟨v,by rw [hbe];exact hv⟩
  ·refine (ok b u q).stay (fun c v hc r=>k c v ?_ r) (fun c r=>by rw [aG (nown c b r)];exact r) fun c xs r=>by rw [aG (ntup c xs r)];exact r
   rcases hc with rfl | hc
   ·exact hbe
   ·rintro rfl
    rcases he with z | z
    ·exact nown c b hc z
    ·rw [hc] at z;cases z;exact hb rfl
end
structure Un (fs ex:List Addr) (H H':Hp) (h h':Heap):Prop where
 keep:∀ b o,h.get? b=some o→H b=none→b∉fs→b∉ex→h'.get? b=some o
 slot:∀ b o,h.get? b=some o→H b=none→b∈fs→b∉ex→∃ sl,h'.get? b=some { o with slots:=sl }
 free:∀ b o,h.get? b=some o→H b=none→b∉ex→H' b=none
 there:∀ b o,h.get? b=some o→b∉ex→∃ o',h'.get? b=some o'
 tups:∀ b xs,H b=some (.tup xs)→H' b=some (.tup xs)
 frzs:∀ b o u,H b=some (.frz o u)→H' b=some (.frz o u)
 tbls:∀ b ps,H b=some (.tbl ps)→∃ more,H' b=some (.tbl (ps.1,ps.2++more))
section
variable {fs fs' ex ex':List Addr} {H H1 H2:Hp} {h h1 h2 h':Heap} {a x e:Addr} {o:HO}
theorem Un.any (u:Un fs ex H H1 h h1) {b:Addr} {ob:Obj} (q:h.get? b=some ob) (n:H b=none) (hx:b∉ex):∃ sl,h1.get? b=some { ob with slots:=sl }:=by
 by_cases hb:b∈fs
 ·exact u.slot b ob q n hb hx
 ·exact ⟨ob.slots,u.keep b ob q n hb hx⟩
theorem Un.trans (a:Un fs ex H H1 h h1) (b:Un fs ex H1 H2 h1 h2):Un fs ex H H2 h h2 where
 keep:=fun c ob q n hc hx=>b.keep c ob (a.keep c ob q n hc hx) (a.free c ob q n hx) hc hx
 slot:=fun c ob q n hc hx=>by
  obtain ⟨sl,e1⟩:=a.slot c ob q n hc hx
  obtain ⟨sl',e2⟩:=b.slot c _ e1 (a.free c ob q n hx) hc hx
  exact ⟨sl',e2⟩
 free:=fun c ob q n hx=>by
  obtain ⟨o',e1⟩:=a.there c ob q hx
  exact b.free c o' e1 (a.free c ob q n hx) hx
 there:=fun c ob q hx=>by
  obtain ⟨o',e1⟩:=a.there c ob q hx
  exact b.there c o' e1 hx
 tups:=fun c xs q=>b.tups c xs (a.tups c xs q)
 frzs:=fun c ob xs q=>b.frzs c ob xs (a.frzs c ob xs q)
 tbls:=fun c ps q=>by
  obtain ⟨m1,e1⟩:=a.tbls c ps q
  obtain ⟨m2,e2⟩:=b.tbls c _ e1
  exact ⟨m1++m2,by rw [e2];simp [Array.append_assoc]⟩
theorem Un.kept (k:∀ b u,h.get? b=some u→h'.get? b=some u):Un fs ex H H h h':=
 ⟨fun b ob q _ _ _=>k b ob q,fun b ob q _ _ _=>⟨ob.slots,k b ob q⟩,fun _ _ _ n _=>n,fun b ob q _=>⟨ob,k b ob q⟩,fun _ _ q=>q,fun _ _ _ q=>q,fun _ ps q=>⟨#[],by rw [q];simp⟩⟩
theorem Un.refl:Un fs ex H H h h:=Un.kept fun _ _ q=>q
theorem Un.laid (k:∀ b u,h.get? b=some u→h'.get? b=some u) (hp:h.objs.size≤a) (hn:H a=none):Un fs ex H (upd H a o) h h' where
 keep:=fun b u q _ _ _=>k b u q
 slot:=fun b u q _ _ _=>⟨u.slots,k b u q⟩
 free:=fun b u q n _=>by rw [aG (qU (qP (qG q) hp))];exact n
 there:=fun b u q _=>⟨u,k b u q⟩
 tups:=fun b xs q=>by rw [aG (aL q hn)];exact q
 frzs:=fun b u xs q=>by rw [aG (aL q hn)];exact q
 tbls:=fun b ps q=>⟨#[],by rw [aG (aL q hn),q];simp⟩
theorem Un.write (mu:Mut (H x)) (he:e=x∨H e=some (.own x)) (k:∀ b u,b≠e→h.get? b=some u→h'.get? b=some u) (heo:∃ u,h'.get? e=some u):Un fs ex H (upd H x o) h h':=by
 have hx:∀ b,H b=none→b≠x:=fun b n z=>by subst z;rw [n] at mu;exact mu
 have hb:∀ b,H b=none→b≠e:=fun b n z=>by
  subst z
  rcases he with r | r
  ·exact hx b n r
  ·rw [n] at r;cases r
 have hm:∀ b u,H b=some u→¬Mut (some u)→b≠x:=fun b u q nm z=>by subst z;rw [q] at mu;exact nm mu
 refine ⟨fun b u q n _ _=>k b u (hb b n) q,fun b u q n _ _=>⟨u.slots,k b u (hb b n) q⟩,fun b u q n _=>by rw [aG (hx b n)];exact n,fun b u q _=>?_,
  fun b xs q=>by rw [aG (hm b _ q fun z=>z)];exact q,fun b u xs q=>by rw [aG (hm b _ q fun z=>z)];exact q,fun b ps q=>⟨#[],by rw [aG (hm b _ q fun z=>z),q];simp⟩⟩
 by_cases hbe:b=e
 ·subst hbe;exact heo
 ·exact ⟨u,k b u hbe q⟩
theorem Un.mono (u:Un fs ex H H1 h h1) (hs:∀ b∈fs,b∈fs') (hx:∀ b∈ex,b∈ex'):Un fs' ex' H H1 h h1:=
 ⟨fun b ob q n hb he=>u.keep b ob q n (fun z=>hb (hs b z)) fun z=>he (hx b z),fun _ _ q n _ he=>u.any q n fun z=>he (hx _ z),fun b ob q n he=>u.free b ob q n fun z=>he (hx b z),fun b ob q he=>u.there b ob q fun z=>he (hx b z),u.tups,u.frzs,u.tbls⟩
end
def trk (h:Heap) (H:Hp):List Addr:=(jS h.objs.size).filter fun a=>(H a).isSome
def yR (h:Heap) (H:Hp):Heap:=zL h (trk h H)
theorem a6P (h:Heap) (H:Hp):(yR h H).objs.size=h.objs.size:=PySem.W.hideAll_size _ _
theorem a9l {h:Heap} {H:Hp} {b:Addr} {o:Obj} (e:h.get? b=some o) (n:H b=none):(yR h H).get? b=some o:=
 zZ _ e fun hm=>by
  have q:(H b).isSome=true:=(List.mem_filter.mp hm).2
  rw [n] at q;simp at q
theorem b1g {h:Heap} {H:Hp} {b:Addr} {o:Obj} (e:(yR h H).get? b=some o):h.get? b=some o∧H b=none:=by
 have e':h.get? b=some o:=zg (trk h H) e
 refine ⟨e',?_⟩
 cases q:H b with
 | none=>rfl
 | some x=>
  have hm:b∈trk h H:=List.mem_filter.mpr ⟨zV.mpr (qG e'),by simp [q]⟩
  have z:(yR h H).get? b=none:=kc (trk h H) hm
  rw [z] at e;cases e
def b2E (g h:Heap) (L:Addr):List (Addr×Obj):=(jS h.objs.size).filterMap fun a=>if a=L∨(g.get? a).isSome=true then none else (h.get? a).map fun o=>(a,o)
def rest (g h:Heap) (L d:Addr):List (Addr×Obj):=(b2E g h L).filter fun p=>decide (p.1≠d)
structure Mod (K:qB) (mg:Str→Option Value) (base:Heap):Prop where
 kin:K.In base
 glob:base.Ns mainGlobals mg
 blt:∃ mb,base.Ns builtinsNs mb∧∀ x:Str,x ≠ "__name__" → mb x=bootBuiltins x
 nolimit:base.NoLimit
structure Cx where
 prog:Program
 w:World
 K:qB
 mg:Str→Option Value
 base:Heap
 A:Around
 N:List Str
 s₀:Shared
 H₀:Hp
 env:Env
 outer:List Env
 stack:List Env
 ex:List Addr
 fn:Str→Bool
 calm:Bool
 pn:List (Addr×Obj)
 xe:Value→Shared→Prop
def frs (l:List Env):List Addr:=l.filterMap (·.frame)
abbrev Cx.fs (X:Cx):List Addr:=frs X.outer
def Vis (sc:Scope) (x:Str):Prop:=sc.names.lookup x=some .local∨sc.names.lookup x=some .cell∨sc.names.lookup x=some .free
def Loc (sc:Scope) (x:Str):Prop:=sc.names.lookup x=some .local∨sc.names.lookup x=some .cell
def Look (env:Env) (h:Heap) (m:Str→Option Value) (x:Str) (u:Value):Prop:=
 (env.kindOf x=some .local∧m x=some u)∨((env.kindOf x=some .cell∨env.kindOf x=some .free)∧∃ c,env.cells.lookup x=some c∧h.IsCell c (some u))
structure Cx.Ok (X:Cx):Prop where
 mod:Mod X.K X.mg X.base
 kind:X.env.scope.kind=.function
 glob:X.env.globals=mainGlobals
 blt:X.env.builtins=builtinsNs
 above:X.s₀.heap.objs.size≤X.env.locals
 inj:∀ x y c,X.env.cells.lookup x=some c→X.env.cells.lookup y=some c→x=y
 has:∀ x,(X.env.kindOf x=some .cell∨X.env.kindOf x=some .free)→∃ c,X.env.cells.lookup x=some c
 cab:∀ x c,X.fn x=true→X.env.cells.lookup x=some c→X.s₀.heap.objs.size≤c
 hd:X.calm=true→X.A.handled=none
 frames:X.A.frames=some X.stack
 stk:X.stack=X.outer∨(X.stack=X.env::X.outer∧X.env.frame=some X.env.locals)
 exf:∀ b∈X.ex,b≠X.env.locals∧∀ x c,X.env.cells.lookup x=some c→c≠b
 bs:∀ b o,X.base.get? b=some o→X.s₀.heap.get? b=some o∧X.H₀ b=none
 bsz:X.base.objs.size≤X.s₀.heap.objs.size
 noex:∀ b o,X.base.get? b=some o→b∉X.ex
 exfs:∀ b∈X.ex,b∉X.fs
 funs:X.s₀.heap.FunFrames X.base X.outer
 frf:∀ b∈X.fs,X.H₀ b=none
structure Inv (X:Cx) (pins:List (Addr×Obj)) (σ:List (Option V)) (H:Hp) (s:Shared):Prop where
 ok:X.Ok
 os:s.os=X.s₀.os
 bare:AllBare s.gens
 base:Un X.fs X.ex X.H₀ H X.s₀.heap s.heap
 loc:∃ m,s.heap.Ns X.env.locals m∧∀ (i:Nat) (x:Str) (v:V),X.N[i]?=some x→σ[i]?=some (some v)→Vis X.env.scope x→∃ u,RelV v u∧Look X.env s.heap m x u
 cell:∀ x c,X.env.cells.lookup x=some c→∃ v,s.heap.IsCell c v
 free:H X.env.locals=none
 freeC:∀ x c,X.env.cells.lookup x=some c→H c=none
 pin:∀ p∈X.pn++pins,s.heap.get? p.1=some p.2∧H p.1=none∧p.1≠X.env.locals∧p.1∉X.fs∧∀ v,p.2.data≠.cell v
 hok:HOk X.prog X.w H s.heap
 len:σ.length=X.N.length
section
variable {X:Cx} {pins:List (Addr×Obj)} {σ:List (Option V)} {H H':Hp} {s:Shared} {h':Heap}
theorem Cx.Ok.nofr (ok:X.Ok) {b:Addr} {o:Obj} (e:X.base.get? b=some o):b∉X.fs:=fun hb=>by
 have:=(ok.funs.mem hb).1
 rw [e] at this;cases this
theorem Inv.bs (I:Inv X pins σ H s):∀ b o,X.base.get? b=some o→s.heap.get? b=some o∧H b=none:=fun b o e=>
 ⟨I.base.keep b o (I.ok.bs b o e).1 (I.ok.bs b o e).2 (I.ok.nofr e) (I.ok.noex b o e),I.base.free b o (I.ok.bs b o e).1 (I.ok.bs b o e).2 (I.ok.noex b o e)⟩
theorem Inv.bk (I:Inv X pins σ H s):∀ b o,X.base.get? b=some o→s.heap.get? b=some o:=fun b o e=>(I.bs b o e).1
theorem Inv.mod (I:Inv X pins σ H s):Mod X.K X.mg X.base:=I.ok.mod
theorem Inv.kIn (I:Inv X pins σ H s):X.K.In s.heap:=I.ok.mod.kin.keeps I.bk
theorem Inv.lt (I:Inv X pins σ H s):X.env.locals<s.heap.objs.size:=let ⟨_,hn,_⟩:=I.loc;hn.lt
theorem Inv.sz (I:Inv X pins σ H s):X.s₀.heap.objs.size≤s.heap.objs.size:=qj I.ok.above (qv I.lt)
theorem Inv.nofs (I:Inv X pins σ H s) {a:Addr} (h:s.heap.objs.size≤a):a∉X.fs:=fun hb=>by
 obtain ⟨_,o,ho,_⟩:=I.ok.funs.mem hb
 exact absurd (qP (qG ho) (qj I.sz h)) (jG _)
theorem Inv.cne (I:Inv X pins σ H s):∀ x c,X.env.cells.lookup x=some c→c≠X.env.locals:=fun x c e z=>by
 obtain ⟨v,o,ho,hd⟩:=I.cell x c e
 obtain ⟨m,⟨o',es,ep,ho',hd',_⟩,_⟩:=I.loc
 rw [z,ho'] at ho;cases ho;rw [hd'] at hd;cases hd
theorem Inv.funs (I:Inv X pins σ H s):s.heap.FunFrames X.base X.outer:=by
 have all:∀ (l:List Env),(∀ b∈frs l,b∈X.fs)→X.s₀.heap.FunFrames X.base l→s.heap.FunFrames X.base l:=by
  intro l
  induction l with
  | nil=>intro _ _;trivial
  | cons env r ih=>
   intro hs hl
   obtain ⟨hk,⟨L,o,hf,hn,ho,hd⟩,hr⟩:=hl
   have hL:L∈X.fs:=hs L (by unfold frs;rw [zc,hf];exact qd)
   obtain ⟨sl,e⟩:=I.base.slot L o ho (I.ok.frf L hL) hL fun z=>I.ok.exfs L z hL
   exact ⟨hk,⟨L,_,hf,hn,e,hd⟩,ih (fun b hb=>hs b (by unfold frs;rw [zc,hf];exact qE _ hb)) hr⟩
 exact all X.outer (fun _ hb=>hb) I.ok.funs
theorem Inv.stack (I:Inv X pins σ H s):s.heap.FunFrames X.base X.stack:=by
 rcases I.ok.stk with e | ⟨e,hf⟩
 ·rw [e];exact I.funs
 ·rw [e]
  obtain ⟨m,hn,_⟩:=I.loc
  refine .cons (by rw [I.ok.kind];decide) hf hn ?_ I.funs
  exact zx (qj I.ok.bsz I.ok.above)
theorem Inv.stkSub (I:Inv X pins σ H s):∀ b∈frs X.stack,b∈X.env.locals::X.fs:=fun b hb=>by
 rcases I.ok.stk with e | ⟨e,hf⟩
 ·rw [e] at hb;exact qE _ hb
 ·rw [e] at hb
  unfold frs at hb
  rw [zc,hf] at hb
  exact hb
theorem Inv.stkFree (I:Inv X pins σ H s):∀ b∈frs X.stack,H b=none:=fun b hb=>by
 rcases qM.mp (I.stkSub b hb) with e | hb
 ·rw [e];exact I.free
 ·obtain ⟨_,o,ho,_⟩:=I.ok.funs.mem hb
  exact I.base.free b o ho (I.ok.frf b hb) fun z=>I.ok.exfs b z hb
theorem Inv.step {g':Array GenState} {t':Nat} {d':Drawn} {ch:List Addr} (I:Inv X pins σ H s)
  (hch:∀ b∈ch,(b∈X.ex∨X.s₀.heap.objs.size≤b)∧b≠X.env.locals∧(∀ x c,X.env.cells.lookup x=some c→c≠b)∧∀ p∈X.pn++pins,p.1≠b)
  (keep:∀ b o,b≠X.env.locals→b∉X.fs→b∉ch→s.heap.get? b=some o→H b=none→h'.get? b=some o)
  (slot:∀ b o,b≠X.env.locals→b∈X.fs→b∉ch→s.heap.get? b=some o→H b=none→∃ sl,h'.get? b=some { o with slots:=sl }) (free:∀ b o,b∉ch→s.heap.get? b=some o→H b=none→H' b=none)
  (there:∀ b o,b∉ch→s.heap.get? b=some o→∃ o',h'.get? b=some o')
  (tups:∀ b xs,H b=some (.tup xs)→H' b=some (.tup xs)) (frzs:∀ b o u,H b=some (.frz o u)→H' b=some (.frz o u)) (tbls:∀ b ps,H b=some (.tbl ps)→∃ more,H' b=some (.tbl (ps.1,ps.2++more)))
  (ns:∀ m,s.heap.Ns X.env.locals m→h'.Ns X.env.locals m) (hok:HOk X.prog X.w H' h') (hg:AllBare g') :
  Inv X pins σ H' { s with heap:=h',gens:=g',drawn:=d',toks:=t' }:=by
 have neL:∀ b o,X.s₀.heap.get? b=some o→b≠X.env.locals:=fun b o e=>qU (qP (qG e) I.ok.above)
 have neC:∀ b o,X.s₀.heap.get? b=some o→b∉X.ex→b∉ch:=fun b o e hx hb=>by
  rcases (hch b hb).1 with z | z
  ·exact hx z
  ·exact absurd (qP (qG e) z) (jG _)
 have cellK:∀ x c,X.env.cells.lookup x=some c→∀ v,s.heap.IsCell c v→h'.IsCell c v:=fun x c e v ⟨o,ho,hd⟩=>by
  have nch:c∉ch:=fun z=>(hch c z).2.2.1 x c e rfl
  by_cases hc:c∈X.fs
  ·obtain ⟨sl,q⟩:=slot c o (I.cne x c e) hc nch ho (I.freeC x c e)
   exact ⟨_,q,hd⟩
  ·exact ⟨o,keep c o (I.cne x c e) hc nch ho (I.freeC x c e),hd⟩
 refine ⟨I.ok,I.os,hg,⟨fun b o e n hb hx=>?_,fun b o e n hb hx=>?_,fun b o e n hx=>?_,fun b o e hx=>?_,fun b xs e=>tups b xs (I.base.tups b xs e),fun b o xs e=>frzs b o xs (I.base.frzs b o xs e),fun b ps e=>?_⟩,?_,fun x c e=>?_,?_,fun x c e=>?_,fun p hp=>?_,hok,I.len⟩
 ·exact keep b o (neL b o e) hb (neC b o e hx) (I.base.keep b o e n hb hx) (I.base.free b o e n hx)
 ·obtain ⟨sl,e1⟩:=I.base.slot b o e n hb hx
  obtain ⟨sl',e2⟩:=slot b _ (neL b o e) hb (neC b o e hx) e1 (I.base.free b o e n hx)
  exact ⟨sl',e2⟩
 ·obtain ⟨o',e1⟩:=I.base.there b o e hx
  exact free b o' (neC b o e hx) e1 (I.base.free b o e n hx)
 ·obtain ⟨o',e1⟩:=I.base.there b o e hx
  exact there b o' (neC b o e hx) e1
 ·obtain ⟨m1,e1⟩:=I.base.tbls b ps e
  obtain ⟨m2,e2⟩:=tbls b _ e1
  exact ⟨m1++m2,by rw [e2];simp [Array.append_assoc]⟩
 ·obtain ⟨m,hn,hl⟩:=I.loc
  refine ⟨m,ns m hn,fun i x v e1 e2 e3=>?_⟩
  obtain ⟨u,r,l⟩:=hl i x v e1 e2 e3
  refine ⟨u,r,?_⟩
  rcases l with l | ⟨k,c,e,z⟩
  ·exact .inl l
  ·exact .inr ⟨k,c,e,cellK x c e _ z⟩
 ·obtain ⟨v,z⟩:=I.cell x c e
  exact ⟨v,cellK x c e v z⟩
 ·obtain ⟨m,⟨o,_,_,ho,_⟩,_⟩:=I.loc
  exact free _ o (fun z=>(hch _ z).2.1 rfl) ho I.free
 ·obtain ⟨v,o,ho,hd⟩:=I.cell x c e
  exact free c o (fun z=>(hch c z).2.2.1 x c e rfl) ho (I.freeC x c e)
 ·obtain ⟨e,n,ne,nf,d⟩:=I.pin p hp
  have nch:p.1∉ch:=fun z=>(hch p.1 z).2.2.2 p hp rfl
  exact ⟨keep p.1 p.2 ne nf nch e n,free p.1 p.2 nch e n,ne,nf,d⟩
theorem Inv.un {t':Nat} (I:Inv X pins σ H s) (u:Un X.fs [] H H' s.heap h') (hok:HOk X.prog X.w H' h'):Inv X pins σ H' { s with heap:=h',toks:=t' }:=by
 obtain ⟨m,⟨o,es,ep,ho,r⟩,_⟩:=id I.loc
 obtain ⟨sl,hL⟩:=u.any ho I.free (by simp)
 exact I.step (g':=s.gens) (d':=s.drawn) (ch:=[]) (fun _ z=>nomatch z) (fun b o _ hb _ e n=>u.keep b o e n hb (by simp)) (fun b o _ hb _ e n=>u.slot b o e n hb (by simp)) (fun b o _ e n=>u.free b o e n (by simp)) (fun b o _ e=>u.there b o e (by simp)) u.tups u.frzs u.tbls (fun m' hm=>by
  obtain ⟨o',es',ep',ho',r'⟩:=hm
  rw [ho] at ho';cases ho'
  exact ⟨_,es',ep',hL,r'⟩) hok I.bare
theorem Inv.call {g':Array GenState} {t':Nat} {d':Drawn} {ch:List Addr} (I:Inv X pins σ H s) (u:Un (frs X.stack) ch H H' s.heap h') (hok:HOk X.prog X.w H' h') (hg:AllBare g')
  (hch:∀ b∈ch,(b∈X.ex∨X.s₀.heap.objs.size≤b)∧b≠X.env.locals∧(∀ x c,X.env.cells.lookup x=some c→c≠b)∧∀ p∈X.pn++pins,p.1≠b) :
  Inv X pins σ H' { s with heap:=h',gens:=g',drawn:=d',toks:=t' }:=by
 obtain ⟨m,⟨o,es,ep,ho,r⟩,_⟩:=id I.loc
 obtain ⟨sl,hL⟩:=u.any ho I.free fun z=>(hch _ z).2.1 rfl
 exact I.step (ch:=ch) hch (fun b o hL hb hc e n=>u.keep b o e n (fun z=>(qM.mp (I.stkSub b z)).elim hL hb) hc) (fun b o _ _ hc e n=>u.any e n hc) (fun b o hc e n=>u.free b o e n hc) (fun b o hc e=>u.there b o e hc) u.tups u.frzs u.tbls (fun m' hm=>by
  obtain ⟨o',es',ep',ho',r'⟩:=hm
  rw [ho] at ho';cases ho'
  exact ⟨_,es',ep',hL,r'⟩) hok hg
theorem Inv.turned {t':Nat} {it:Addr} (I:Inv X pins σ H s) (k:∀ b o,b≠it→s.heap.get? b=some o→h'.get? b=some o) (hn:H it=none) (hL:it≠X.env.locals)
  (h1:it∈X.ex∨X.s₀.heap.objs.size≤it) (h2:∀ x c,X.env.cells.lookup x=some c→c≠it) (h3:∀ p∈X.pn++pins,p.1≠it):Inv X pins σ H { s with heap:=h',toks:=t' }:=by
 have nit:∀ b u,H b=some u→b≠it:=fun b u e z=>by rw [z,hn] at e;cases e
 refine I.step (g':=s.gens) (d':=s.drawn) (ch:=[it]) (fun b hb=>?_) (fun b o _ _ hc e _=>k b o (fun z=>hc (by simp [z])) e) (fun b o _ _ hc e _=>⟨o.slots,k b o (fun z=>hc (by simp [z])) e⟩) (fun _ _ _ _ n=>n)
  (fun b o hc e=>⟨o,k b o (fun z=>hc (by simp [z])) e⟩) (fun _ _ e=>e) (fun _ _ _ e=>e) (fun b ps e=>⟨#[],by rw [e];simp⟩) (fun m hm=>?_) (fun b u e=>?_) I.bare
 ·have e:b=it:=by simpa using hb
  subst e
  exact ⟨h1,hL,h2,h3⟩
 ·obtain ⟨o,es,ep,ho,r⟩:=hm
  exact ⟨o,es,ep,k _ o (qr hL) ho,r⟩
 ·refine (I.hok b u e).stay (fun c v hc q=>k c v ?_ q) (fun _ q=>q) fun _ _ q=>q
  rcases hc with z | z
  ·rw [z];exact nit b u e
  ·exact nit c _ z
theorem Inv.tok (I:Inv X pins σ H s) (t:Nat):Inv X pins σ H { s with toks:=t }:=I.un (h':=s.heap) (t':=t) Un.refl I.hok
theorem Inv.kept {t':Nat} (I:Inv X pins σ H s) (k:∀ b u,s.heap.get? b=some u→h'.get? b=some u):Inv X pins σ H { s with heap:=h',toks:=t' }:=I.un (Un.kept k) (I.hok.kept k)
theorem Inv.laid {a:Addr} {o:HO} {t':Nat} (I:Inv X pins σ H s) (k:∀ b u,s.heap.get? b=some u→h'.get? b=some u) (hp:s.heap.objs.size≤a) (new:cG X.prog X.w (upd H a o) h' a o) :
  Inv X pins σ (upd H a o) { s with heap:=h',toks:=t' }:=I.un (Un.laid k hp (I.hok.fresh hp)) (I.hok.laid k hp new)
theorem Inv.write {x e:Addr} {o:HO} {t':Nat} (I:Inv X pins σ H s) (mu:Mut (H x)) (he:e=x∨H e=some (.own x)) (k:∀ b u,b≠e→s.heap.get? b=some u→h'.get? b=some u) (heo:∃ u,h'.get? e=some u)
  (new:cG X.prog X.w (upd H x o) h' x o):Inv X pins σ (upd H x o) { s with heap:=h',toks:=t' }:=I.un (Un.write mu he k heo) (I.hok.write mu he k heo new)
theorem Inv.pins_of {pins':List (Addr×Obj)} (I:Inv X pins σ H s) (h:∀ p∈pins',s.heap.get? p.1=some p.2∧H p.1=none∧p.1≠X.env.locals∧p.1∉X.fs∧∀ v,p.2.data≠.cell v):Inv X pins' σ H s:=
 ⟨I.ok,I.os,I.bare,I.base,I.loc,I.cell,I.free,I.freeC,fun p hp=>(qg.mp hp).elim (fun z=>I.pin p (jD _ z)) (h p),I.hok,I.len⟩
theorem wV {N:List Str} (hN:N.Nodup) {i j:Nat} {x:Str} (a:N[i]?=some x) (b:N[j]?=some x):i=j:=by
 obtain ⟨h1,e1⟩:=qS.mp a
 obtain ⟨h2,e2⟩:=qS.mp b
 exact (List.getElem_inj hN).mp (e1.trans e2.symm)
theorem a0d {M:Model} {A:Around} {E:Value→Shared→Prop} {i:Nat} {x:Str} {v:V} {u:Value} {Q:Unit→Shared→Prop} (I:Inv X pins σ H s) (hN:X.N.Nodup) (hi:X.N[i]?=some x) (hx:Loc X.env.scope x) (r:RelV v u)
  (h:∀ s',Inv X pins (σ.set i (some v)) H s'→(∃ a,jk a s.heap s'.heap∧(a=X.env.locals∨X.env.cells.lookup x=some a))→Q () s') (hf:X.fn x=true∨X.env.scope.names.lookup x=some .local:=by first | exact .inl rfl | exact .inr rfl | assumption):wpAny M A (storeName X.env x u) Q E s:=by
 obtain ⟨m,hn,hl⟩:=id I.loc
 have hcls:(X.env.scope.kind==.class || (X.env.scope.kind==.module&&X.env.locals != X.env.globals))=false:=by rw [I.ok.kind];rfl
 have hiσ:i<σ.length:=by rw [I.len];exact (qS.mp hi).1
 have cne:=I.cne
 have tracked:∀ {a:Addr} {h':Heap},(∃ o,s.heap.get? a=some o∧H a=none)→jk a s.heap h'→HOk X.prog X.w H h':=fun {a h'} ha hs b ob e=>by
  obtain ⟨_,_,hfree⟩:=ha
  refine (I.hok b ob e).stay (fun c w' hc q=>(hs.2 c ?_).trans q) (fun _ q=>q) fun _ _ q=>q
  rintro rfl
  rcases hc with rfl | hc
  ·rw [hfree] at e;cases e
  ·rw [hfree] at hc;cases hc
 rcases hx with hk | hk
 ·refine wpAny_storeName_local hk hn (fun h' hn' hs=>?_) hcls
  obtain ⟨oL,_,_,hoL,_⟩:=id hn
  refine h _ ⟨I.ok,I.os,I.bare,⟨fun b o e n hb hx=>?_,fun b o e n hb hx=>?_,I.base.free,fun b o e hx=>?_,I.base.tups,I.base.frzs,I.base.tbls⟩,⟨_,hn',fun j y v' e1 e2 e3=>?_⟩,fun y c e=>?_,I.free,I.freeC,fun p hp=>?_,tracked ⟨oL,hoL,I.free⟩ hs,by simpa using I.len⟩ ⟨_,hs,.inl rfl⟩
  ·exact (hs.2 b (qU (qP (qG e) I.ok.above))).trans (I.base.keep b o e n hb hx)
  ·obtain ⟨sl,e1⟩:=I.base.slot b o e n hb hx
   exact ⟨sl,(hs.2 b (qU (qP (qG e) I.ok.above))).trans e1⟩
  ·obtain ⟨o',e1⟩:=I.base.there b o e hx
   exact ⟨o',(hs.2 b (qU (qP (qG e) I.ok.above))).trans e1⟩
  ·by_cases hj:j=i
   ·subst hj
    rw [hi] at e1;cases e1
    rw [jn hiσ] at e2
    cases e2
    exact ⟨u,r,.inl ⟨hk,by simp⟩⟩
   ·rw [qt (qr hj)] at e2
    obtain ⟨u',r',q⟩:=hl j y v' e1 e2 e3
    refine ⟨u',r',?_⟩
    rcases q with ⟨k,e⟩ | ⟨k,c,e,z⟩
    ·refine .inl ⟨k,?_⟩
     have:y≠x:=fun e=>hj (wV hN e1 (e▸hi))
     simp [this,e]
    ·exact .inr ⟨k,c,e,z.sameBut hs (cne y c e)⟩
  ·obtain ⟨w',z⟩:=I.cell y c e
   exact ⟨w',z.sameBut hs (cne y c e)⟩
  ·obtain ⟨e,n,ne,nf,d⟩:=I.pin p hp
   exact ⟨(hs.2 p.1 ne).trans e,n,ne,nf,d⟩
 ·have hfn:X.fn x=true:=by
   rcases hf with z | z
   ·exact z
   ·rw [z] at hk;cases hk
  obtain ⟨c,hc⟩:=I.ok.has x (.inl hk)
  obtain ⟨w',z⟩:=I.cell x c hc
  refine wpAny_storeName_cell I.ok.kind hk hc z (fun h' hc' hs=>?_)
  obtain ⟨oc,hoc,hocd⟩:=id z
  refine h { s with heap:=h' } ⟨I.ok,I.os,I.bare,⟨fun b o e n hb hx=>?_,fun b o e n hb hx=>?_,I.base.free,fun b o e hx=>?_,I.base.tups,I.base.frzs,I.base.tbls⟩,⟨m,hn.sameBut hs (qr (cne x c hc)),fun j y v' e1 e2 e3=>?_⟩,fun y c' e=>?_,I.free,I.freeC,fun p hp=>?_,tracked ⟨oc,hoc,I.freeC x c hc⟩ hs,by simpa using I.len⟩ ⟨c,hs,.inr hc⟩
  ·exact (hs.2 b (qU (qP (qG e) (I.ok.cab x c hfn hc)))).trans (I.base.keep b o e n hb hx)
  ·obtain ⟨sl,e1⟩:=I.base.slot b o e n hb hx
   exact ⟨sl,(hs.2 b (qU (qP (qG e) (I.ok.cab x c hfn hc)))).trans e1⟩
  ·obtain ⟨o',e1⟩:=I.base.there b o e hx
   exact ⟨o',(hs.2 b (qU (qP (qG e) (I.ok.cab x c hfn hc)))).trans e1⟩
  ·by_cases hj:j=i
   ·subst hj
    rw [hi] at e1;cases e1
    rw [jn hiσ] at e2
    cases e2
    exact ⟨u,r,.inr ⟨.inl hk,c,hc,hc'⟩⟩
   ·rw [qt (qr hj)] at e2
    obtain ⟨u',r',q⟩:=hl j y v' e1 e2 e3
    refine ⟨u',r',?_⟩
    rcases q with q | ⟨k,c',e,z'⟩
    ·exact .inl q
    ·refine .inr ⟨k,c',e,z'.sameBut hs ?_⟩
     rintro rfl
     exact hj (wV hN e1 (I.ok.inj _ _ _ e hc▸hi))
  ·by_cases hcc:c'=c
   ·subst hcc;exact ⟨_,hc'⟩
   ·obtain ⟨w2,z2⟩:=I.cell y c' e
    exact ⟨w2,z2.sameBut hs hcc⟩
  ·obtain ⟨e,n,ne,nf,d⟩:=I.pin p hp
   refine ⟨(hs.2 p.1 ?_).trans e,n,ne,nf,d⟩
   intro q
   rw [q,hoc] at e
   have q':oc=p.2:=qA e
   exact d w' (by rw [←q'];exact hocd)
theorem vW {M:Model} {A:Around} {E:Value→Shared→Prop} {i:Nat} {x:Str} {v:V} {u:Value} {Q:Unit→Shared→Prop} (I:Inv X pins σ H s) (hN:X.N.Nodup) (hi:X.N[i]?=some x) (hx:Loc X.env.scope x) (r:RelV v u)
  (h:∀ s',Inv X pins (σ.set i (some v)) H s'→Q () s') (hf:X.fn x=true∨X.env.scope.names.lookup x=some .local:=by first | exact .inl rfl | exact .inr rfl | assumption):wpAny M A (storeName X.env x u) Q E s:=
 a0d I hN hi hx r (fun s' I' _=>h s' I') hf
theorem Inv.call' {s':Shared} {ch:List Addr} (I:Inv X pins σ H s) (ho:s'.os=s.os) (u:Un (frs X.stack) ch H H' s.heap s'.heap) (hok:HOk X.prog X.w H' s'.heap) (hg:AllBare s'.gens)
  (hch:∀ b∈ch,(b∈X.ex∨X.s₀.heap.objs.size≤b)∧b≠X.env.locals∧(∀ x c,X.env.cells.lookup x=some c→c≠b)∧∀ p∈X.pn++pins,p.1≠b):Inv X pins σ H' s':=by
 obtain ⟨h',g',d',t',o'⟩:=s'
 have e:o'=s.os:=ho
 subst e
 exact I.call (g':=g') (t':=t') (d':=d') u hok hg hch
end
abbrev XK:=Value→Option Addr→Hp→Prop
abbrev St:=List (Option V)
abbrev VK:=V→Hp→Prop
abbrev TE:=St→Hp→VK→Prop
abbrev TT:=St→Hp→(Bool→Hp→Prop)→Prop
abbrev TA:=St→Hp→(List V→Hp→Prop)→Prop
structure Ends where
 nx:St→Hp→Prop
 rt:VK
 bk:St→Hp→Prop:=fun _ _=>False
 ct:St→Hp→Prop:=fun _ _=>False
abbrev TS:=Ends→St→Hp→Prop
def EP (X:Cx) (pins:List (Addr×Obj)) (σ:St) (Q:VK) (u:Value) (s':Shared):Prop:=∃ v H',Inv X pins σ H' s'∧RelV v u∧Q v H'
def TP (X:Cx) (pins:List (Addr×Obj)) (σ:St) (Q:Bool→Hp→Prop) (b:Bool) (s':Shared):Prop:=∃ H',Inv X pins σ H' s'∧Q b H'
def AP (X:Cx) (pins:List (Addr×Obj)) (σ:St) (Q:List V→Hp→Prop) (us:List Value) (s':Shared):Prop:=∃ vs H',Inv X pins σ H' s'∧aX vs us∧Q vs H'
def SP (X:Cx) (pins:List (Addr×Obj)) (D:Ends) (f:Flow) (s':Shared):Prop:=
 match f with
 | .next=>∃ σ' H',Inv X pins σ' H' s'∧D.nx σ' H'
 | .brk=>∃ σ' H',Inv X pins σ' H' s'∧D.bk σ' H'
 | .cont=>∃ σ' H',Inv X pins σ' H' s'∧D.ct σ' H'
 | .ret u=>∃ v σ' H',Inv X pins σ' H' s'∧RelV v u∧D.rt v H'
def PE (X:Cx) (e:Expr) (t:TE):Prop:=
 ∀ (pins:List (Addr×Obj)) (s:Shared) (σ:St) (H:Hp) (Q:VK),Inv X pins σ H s→t σ H Q→wpAny (model X.prog X.w) X.A (eval e X.env) (EP X pins σ Q) X.xe s
def PT (X:Cx) (e:Expr) (t:TT):Prop:=
 ∀ (pins:List (Addr×Obj)) (s:Shared) (σ:St) (H:Hp) (Q:Bool→Hp→Prop),Inv X pins σ H s→t σ H Q→wpAny (model X.prog X.w) X.A (isTrue e X.env (eval e X.env)) (TP X pins σ Q) X.xe s
def PW (X:Cx) (e:Expr) (t:TT):Prop:=
 ∀ (whole:Sem Value) (pins:List (Addr×Obj)) (s:Shared) (σ:St) (H:Hp) (Q:Bool→Hp→Prop),Inv X pins σ H s→t σ H Q→wpAny (model X.prog X.w) X.A (isTrue e X.env whole) (TP X pins σ Q) X.xe s
def PA (X:Cx) (es:List Expr) (t:TA):Prop:=
 ∀ (pos:Pos) (pins:List (Addr×Obj)) (s:Shared) (σ:St) (H:Hp) (Q:List V→Hp→Prop),Inv X pins σ H s→t σ H Q→wpAny (model X.prog X.w) X.A (spliced (backTo pos (starEach es X.env))) (AP X pins σ Q) X.xe s
def PS (X:Cx) (st:Stmt) (t:TS):Prop:=
 ∀ (pins:List (Addr×Obj)) (s:Shared) (σ:St) (H:Hp) (D:Ends),Inv X pins σ H s→t D σ H→wpAny (model X.prog X.w) X.A (exec st X.env) (SP X pins D) X.xe s
def PSs (X:Cx) (st:List Stmt) (t:TS):Prop:=
 ∀ (pins:List (Addr×Obj)) (s:Shared) (σ:St) (H:Hp) (D:Ends),Inv X pins σ H s→t D σ H→wpAny (model X.prog X.w) X.A (execs st X.env) (SP X pins D) X.xe s
theorem thn {α:Type} {t:Sem α} {Q Q':α→Shared→Prop} {M:Model} {A:Around} {E:Value→Shared→Prop} {s:Shared} (h:wpAny M A t Q E s) (hQ:∀ a s,Q a s→Q' a s):wpAny M A t Q' E s:=wpAny_mono h hQ fun _ _ x=>x
section
variable {X:Cx}
def b6b (i:Nat):TE:=fun σ H Q=>∃ v,σ[i]?=some (some v)∧Q v H
def tC (v:V):TE:=fun _ H Q=>Q v H
theorem cB {i:Nat} {x:Str} {pos:Pos} (hN:X.N[i]?=some x) (hv:Vis X.env.scope x) (hd:(x==("__debug__" : Str))=false:=by decide) (hcd:(x==("__classdict__" : Str))=false:=by decide):PE X (.Name x pos) (b6b i):=by
 intro pins s σ H Q I h
 obtain ⟨v,e,h⟩:=h
 obtain ⟨m,hn,hl⟩:=I.loc
 obtain ⟨u,r,l⟩:=hl i x v hN e hv
 have fin:EP X pins σ Q u s:=⟨v,H,I,r,h⟩
 rcases l with ⟨hk,hm⟩ | ⟨hk,c,hc,hcell⟩
 ·exact wpAny_Name (wpAny_loadName_local I.ok.kind hk hn hm fin) hd
 ·rcases hk with hk | hk
  ·exact wpAny_Name (wpAny_loadName_cell I.ok.kind hk hc hcell fin) hd
  ·exact wpAny_Name (wpAny_loadName_free I.ok.kind hk hc hcell fin hcd) hd
theorem b3S {i j pos}:PE X (.Constant (.int i) j pos) (tC (.int i)):=fun _ _ _ H _ I h=>wpAny_Constant_int ⟨.int i,H,I.tok _,⟨_,rfl⟩,h⟩
theorem b6y {b j pos}:PE X (.Constant (.bool b) j pos) (tC (.bl b)):=fun _ _ _ H _ I h=>Constant_bool ⟨.bl b,H,I,rfl,h⟩
theorem b3R {j pos}:PE X (.Constant .none j pos) (tC .non):=fun _ _ _ H _ I h=>Constant_none ⟨.non,H,I,rfl,h⟩
theorem a8o {x j pos}:PE X (.Constant (.str x) j pos) (tC (.str x)):=fun _ _ _ H _ I h=>Calls.Constant_str ⟨.str x,H,I.tok _,⟨_,rfl⟩,h⟩
def Gl (X:Cx) (x:Str):Prop:=X.env.kindOf x=some .globalImplicit
theorem iT {E:Value→Shared→Prop} {pins:List (Addr×Obj)} {s:Shared} {σ:St} {H:Hp} {x:Str} {u:Value} {pos:Pos} {Q:Value→Shared→Prop} (I:Inv X pins σ H s) (hg:Gl X x) (hm:X.mg x=some u) (h:Q u s)
  (hd:(x==("__debug__" : Str))=false:=by decide):wpAny (model X.prog X.w) X.A (eval (.Name x pos) X.env) Q E s:=
 Calls.Name_function_global I.ok.kind hg (Calls.loadGlobal_global (by rw [I.ok.glob];exact I.mod.glob.keeps I.bk) hm h) hd
theorem tP {E:Value→Shared→Prop} {pins:List (Addr×Obj)} {s:Shared} {σ:St} {H:Hp} {x:Str} {u:Value} {pos:Pos} {Q:Value→Shared→Prop} (I:Inv X pins σ H s) (hg:Gl X x) (hm:X.mg x=none) (hv:bootBuiltins x=some u) (h:Q u s)
  (hn:x ≠ "__name__":=by decide) (hd:(x==("__debug__" : Str))=false:=by decide):wpAny (model X.prog X.w) X.A (eval (.Name x pos) X.env) Q E s:=by
 obtain ⟨mb,h1,h2⟩:=I.mod.blt
 exact Calls.Name_function_global I.ok.kind hg (Calls.loadGlobal_builtin (by rw [I.ok.glob];exact I.mod.glob.keeps I.bk) hm (by rw [I.ok.blt];exact h1.keeps I.bk) ((h2 x hn).trans hv) h) hd
theorem a5g {x:Str} {v:V} {u:Value} {pos:Pos} (hg:Gl X x) (hm:X.mg x=some u) (r:RelV v u) (hd:(x==("__debug__" : Str))=false:=by decide):PE X (.Name x pos) (tC v):=
 fun _ _ _ H _ I h=>iT I hg hm ⟨v,H,I,r,h⟩ hd
theorem a5k {x:Str} {v:V} {u:Value} {pos:Pos} (hg:Gl X x) (hm:X.mg x=none) (hv:bootBuiltins x=some u) (r:RelV v u) (hn:x ≠ "__name__":=by decide) (hd:(x==("__debug__" : Str))=false:=by decide):PE X (.Name x pos) (tC v):=
 fun _ _ _ H _ I h=>tP I hg hm hv ⟨v,H,I,r,h⟩ hn hd
variable {a b:Expr} {ta tb:TE} {pos:Pos}
def PC (X:Cx) (op:CmpOp) (a b:Expr) (t:TE):Prop:=
 ∀ (pins:List (Addr×Obj)) (s:Shared) (σ:St) (H:Hp) (Q:VK),Inv X pins σ H s→t σ H Q →
  wpAny (model X.prog X.w) X.A (eval a X.env) (fun v s₁=>wpAny (model X.prog X.w) X.A (eval b X.env) (fun u s₂=>wpAny (model X.prog X.w) X.A (compareOp op v u) (EP X pins σ Q) X.xe s₂) X.xe s₁) X.xe s
theorem a2P (b:Expr) {op:CmpOp} (h:op≠.In) (h2:op≠.NotIn):behindInMarks op b=false:=by
 have e1:(op==CmpOp.In)=false:=by cases op<;>first | rfl | exact absurd rfl h
 have e2:(op==CmpOp.NotIn)=false:=by cases op<;>first | rfl | exact absurd rfl h2
 cases b<;>simp [behindInMarks,e1,e2]
def tB (t:TE):TT:=fun σ H Q=>t σ H fun x H1=>∃ c,x=.bl c∧Q c H1
theorem b3T {op:CmpOp} {t:TE} (h:PC X op a b t) (h1:behindInMarks op b=false:=by first | exact a2P _ (by decide) (by decide) | rfl):PE X (.Compare a [op] [b] pos) t:=fun pins s σ H Q I hw=>wpAny_Compare1 (h pins s σ H Q I hw) h1
theorem b3O {op:CmpOp} {t:TE} (h:PC X op a b t) (h1:behindInMarks op b=false:=by first | exact a2P _ (by decide) (by decide) | rfl):PT X (.Compare a [op] [b] pos) (tB t):=by
 intro pins s σ H Q I hw
 refine wpAny_isTrue_Compare1 (thn (h pins s σ H _ I hw) fun v s1 h1=>thn h1 fun u s2 h2=>thn h2 fun c s3 ⟨x,H1,I1,r1,q1⟩=>?_) h1
 obtain ⟨d,rfl,q⟩:=q1
 cases r1
 exact wpAny_truthy_bool ⟨H1,I1,q⟩
variable {tA tB':TT} {rest:List Expr}
def b7J (t u:TT):TT:=fun σ H Q=>t σ H fun c H1=>if c=true then u σ H1 Q else Q false H1
def tOr (t u:TT):TT:=fun σ H Q=>t σ H fun c H1=>if c=true then Q true H1 else u σ H1 Q
def b7C (t:TT):TT:=fun σ H Q=>t σ H fun c H1=>Q (!c) H1
theorem b0G (ha:PT X a tA):PW X (.BoolOp .And [a] pos) tA:=by
 intro wh pins s σ H Q I h
 refine isTrue_and (thn (ha pins s σ H Q I h) fun c s1 e=>?_)
 cases c with
 | true=>exact isTrue_and_nil e
 | false=>exact e
theorem a8b (ha:PT X a tA):PW X (.BoolOp .Or [a] pos) tA:=by
 intro wh pins s σ H Q I h
 refine isTrue_or (thn (ha pins s σ H Q I h) fun c s1 e=>?_)
 cases c with
 | false=>exact isTrue_or_nil e
 | true=>exact e
theorem b3K (ha:PT X a tA) (hb:PW X (.BoolOp .And (b::rest) pos) tB'):PW X (.BoolOp .And (a::b::rest) pos) (b7J tA tB'):=by
 intro wh pins s σ H Q I h
 refine isTrue_and (thn (ha pins s σ H _ I h) fun c s1 ⟨H1,I1,q1⟩=>?_)
 cases c with
 | true=>exact hb wh pins s1 σ H1 Q I1 q1
 | false=>exact ⟨H1,I1,q1⟩
theorem b2M (ha:PT X a tA) (hb:PW X (.BoolOp .Or (b::rest) pos) tB'):PW X (.BoolOp .Or (a::b::rest) pos) (tOr tA tB'):=by
 intro wh pins s σ H Q I h
 refine isTrue_or (thn (ha pins s σ H _ I h) fun c s1 ⟨H1,I1,q1⟩=>?_)
 cases c with
 | true=>exact ⟨H1,I1,q1⟩
 | false=>exact hb wh pins s1 σ H1 Q I1 q1
theorem a8e (ha:PT X a tA):PT X (.UnaryOp .Not a pos) (b7C tA):=by
 intro pins s σ H Q I h
 exact isTrue_not (ha pins s σ H (fun c H1=>Q (!c) H1) I h)
def b6i (ta tb:TE):TE:=fun σ H Q=>ta σ H fun x H1=>∃ c,x=.bl c∧if c=true then tb σ H1 Q else Q (.bl false) H1
def b6e (ta:TE):TE:=fun σ H Q=>ta σ H fun x H1=>∃ c,x=.bl c∧Q (.bl (!c)) H1
theorem a8p {op} {t:TE} (h:PE X a t):PE X (.BoolOp op [a] pos) t:=fun pins s σ H Q I hw=>BoolOp_one (h pins s σ H Q I hw)
theorem a8v (ha:PE X a ta) (hb:PE X (.BoolOp .And (b::rest) pos) tb):PE X (.BoolOp .And (a::b::rest) pos) (b6i ta tb):=by
 intro pins s σ H Q I h
 refine BoolOp_and (thn (ha pins s σ H _ I h) fun v s1 ⟨x,H1,I1,r1,q1⟩=>?_)
 obtain ⟨c,rfl,q1⟩:=q1
 cases r1
 refine wpAny_truthy_bool ?_
 cases c with
 | true=>exact hb pins s1 σ H1 Q I1 q1
 | false=>exact ⟨.bl false,H1,I1,rfl,q1⟩
theorem b3Q (ha:PE X a ta):PE X (.UnaryOp .Not a pos) (b6e ta):=by
 intro pins s σ H Q I h
 refine UnaryOp_ (thn (ha pins s σ H _ I h) fun v s1 ⟨x,H1,I1,r1,q1⟩=>?_)
 obtain ⟨c,rfl,q1⟩:=q1
 cases r1
 exact not_of (wpAny_truthy_bool ⟨.bl (!c),H1,I1,rfl,q1⟩)
end
def SqL (K:qB) (H:Hp) (a:Addr) (xs:List V):Prop:=
 Rd H a (.lst xs) ∨
  ∃ (o:Obj) (its:Array Value) (n:Nat),K.lookup a=some o∧o.cls=.type "list" ∧ o.dict=none∧o.data=.seq its n∧its.size≤sizeLine∧aX xs its.toList
def SqT (K:qB) (H:Hp) (a:Addr) (xs:List V):Prop:=
 Rd H a (.tup xs) ∨
  ∃ (o:Obj) (its:Array Value) (n:Nat),K.lookup a=some o∧o.cls=.type "tuple" ∧ o.data=.seq its n∧its.size≤sizeLine∧aX xs its.toList
def b8G:Value→Option V
 | .none=>some .non
 | .bool b=>some (.bl b)
 | .int i _=>some (.int i)
 | .str x _=>some (.str x)
 | .bytes b _=>some (.byt b)
 | .float b _=>some (.flt b)
 | .ref a=>some (.ref a)
 | .type n=>some (.ty n)
 | _=>none
theorem RelV.abs {x:V} {u:Value} (r:RelV x u):b8G u=some x:=by
 cases x with
 | non=>cases r;rfl
 | bl _=>cases r;rfl
 | int _=>obtain ⟨t,rfl⟩:=r;rfl
 | str _=>obtain ⟨t,rfl⟩:=r;rfl
 | byt _=>obtain ⟨t,rfl⟩:=r;rfl
 | flt _=>obtain ⟨t,rfl⟩:=r;rfl
 | ref _=>cases r;rfl
 | ty _=>cases r;rfl
theorem RelV.inj {x y:V} {u:Value} (r:RelV x u) (q:RelV y u):x=y:=qA (r.abs.symm.trans q.abs)
theorem aX.inj:∀ {xs ys:List V} {us:List Value},aX xs us→aX ys us→xs=ys
 | _,_,_,.nil,.nil=>rfl
 | _,_,_,.cons r t,.cons r' t'=>by rw [r.inj r',aX.inj t t']
section
variable {X:Cx} {pins:List (Addr×Obj)} {σ:St} {H:Hp} {s:Shared} {a:Addr} {xs ys:List V}
theorem SqL.of {K:qB} (h:H a=some (.lst xs)):SqL K H a xs:=.inl (.inl h)
theorem SqT.of {K:qB} (h:H a=some (.tup xs)):SqT K H a xs:=.inl (.inl h)
theorem Inv.list (I:Inv X pins σ H s) (h:SqL X.K H a xs):∃ its:List Value,aX xs its∧PlainL s.heap a its.toArray∧xs.length≤sizeLine:=by
 rcases h with h | ⟨o,its,n,hk,hc,hd,hs,hz,r⟩
 ·obtain ⟨z,its,n,r,e⟩:=h.ok I.hok
  exact ⟨its,r,⟨_,n,e,rfl,rfl,rfl⟩,z⟩
 ·refine ⟨its.toList,r,⟨o,n,I.kIn a o hk,hc,hd,by simpa using hs⟩,?_⟩
  have e:=r.length
  simp only [qR] at e
  omega
theorem Inv.tuple (I:Inv X pins σ H s) (h:SqT X.K H a xs):∃ its:List Value,aX xs its∧IsTup s.heap a its.toArray∧xs.length≤sizeLine:=by
 rcases h with h | ⟨o,its,n,hk,hc,hs,hz,r⟩
 ·obtain ⟨z,its,r,p⟩:=h.ok I.hok
  exact ⟨its,r,p,z⟩
 ·refine ⟨its.toList,r,⟨o,I.kIn a o hk,hc,n,by simpa using hs⟩,?_⟩
  have e:=r.length
  simp only [qR] at e
  omega
theorem Inv.list_inj (I:Inv X pins σ H s) (h:SqL X.K H a xs) (h':SqL X.K H a ys):xs=ys:=by
 obtain ⟨its,r,⟨o,n,e,_,_,d⟩,_⟩:=I.list h
 obtain ⟨its',r',⟨o',n',e',_,_,d'⟩,_⟩:=I.list h'
 rw [e] at e';cases e'
 rw [d] at d'
 injection d' with d1 _
 have:its=its':=by simpa using congrArg vB d1
 subst this
 exact r.inj r'
theorem Inv.tuple_inj (I:Inv X pins σ H s) (h:SqT X.K H a xs) (h':SqT X.K H a ys):xs=ys:=by
 obtain ⟨its,r,⟨o,e,_,n,d⟩,_⟩:=I.tuple h
 obtain ⟨its',r',⟨o',e',_,n',d'⟩,_⟩:=I.tuple h'
 rw [e] at e';cases e'
 rw [d] at d'
 injection d' with d1 _
 have:its=its':=by simpa using congrArg vB d1
 subst this
 exact r.inj r'
end
abbrev Cx.wish (X:Cx) (E:Value→Shared→Prop):Cx:={ X with xe:=E }
abbrev Cx.nox (X:Cx):Cx:=X.wish fun _ _=>False
theorem Cx.Ok.wish {X:Cx} (ok:X.Ok) (E:Value→Shared→Prop):(X.wish E).Ok:=
 ⟨ok.mod,ok.kind,ok.glob,ok.blt,ok.above,ok.inj,ok.has,ok.cab,ok.hd,ok.frames,ok.stk,ok.exf,ok.bs,ok.bsz,ok.noex,ok.exfs,ok.funs,ok.frf⟩
theorem Cx.Ok.unwish {X:Cx} {E:Value→Shared→Prop} (ok:(X.wish E).Ok):X.Ok:=
 ⟨ok.mod,ok.kind,ok.glob,ok.blt,ok.above,ok.inj,ok.has,ok.cab,ok.hd,ok.frames,ok.stk,ok.exf,ok.bs,ok.bsz,ok.noex,ok.exfs,ok.funs,ok.frf⟩
section
variable {X:Cx} {pins:List (Addr×Obj)} {σ:St} {H:Hp} {s:Shared} {E:Value→Shared→Prop}
theorem Inv.wish (I:Inv X pins σ H s) (E:Value→Shared→Prop):Inv (X.wish E) pins σ H s:=⟨I.ok.wish E,I.os,I.bare,I.base,I.loc,I.cell,I.free,I.freeC,I.pin,I.hok,I.len⟩
theorem Inv.unwish (I:Inv (X.wish E) pins σ H s):Inv X pins σ H s:=⟨I.ok.unwish,I.os,I.bare,I.base,I.loc,I.cell,I.free,I.freeC,I.pin,I.hok,I.len⟩
theorem SP.unwish {D:Ends} {f:Flow} {s':Shared} (h:SP (X.wish E) pins D f s'):SP X pins D f s':=by
 cases f with
 | next=>obtain ⟨σ',H',I,q⟩:=h;exact ⟨σ',H',I.unwish,q⟩
 | brk=>obtain ⟨σ',H',I,q⟩:=h;exact ⟨σ',H',I.unwish,q⟩
 | cont=>obtain ⟨σ',H',I,q⟩:=h;exact ⟨σ',H',I.unwish,q⟩
 | ret u=>obtain ⟨v,σ',H',I,r,q⟩:=h;exact ⟨v,σ',H',I.unwish,r,q⟩
theorem PSs.nox {st:List Stmt} {t:TS} (h:PSs X.nox st t):PSs X st t:=fun pins s σ H D I hw=>
 wpAny_mono (h pins s σ H D (I.wish _) hw) (fun _ _ q=>q.unwish) fun _ _ z=>qk z
end
section
variable {X:Cx} {st:Stmt} {rest:List Stmt} {t u:TS} {e:Expr} {te:TE} {pos:Pos}
def b6f:TS:=fun D σ H=>D.nx σ H
def b7A (t u:TS):TS:=fun D σ H=>t { D with nx:=u D } σ H
theorem a5a:PSs X [] b6f:=fun _ _ σ H _ I h=>wpAny_execs_nil ⟨σ,H,I,h⟩
theorem a2F (h1:PS X st t) (h2:PSs X rest u):PSs X (st::rest) (b7A t u):=by
 intro pins s σ H D I h
 refine wpAny_execs_cons (thn (h1 pins s σ H { D with nx:=u D } I h) fun f s1 q=>?_)
 cases f with
 | next=>
  obtain ⟨σ',H',I',q⟩:=q
  exact h2 pins s1 σ' H' D I' q
 | ret v=>exact q
 | brk=>exact q
 | cont=>exact q
theorem a1r (h1:PS X st t):PSs X [st] t:=by
 intro pins s σ H D I h
 refine wpAny_execs_cons (thn (h1 pins s σ H D I h) fun f s1 q=>?_)
 cases f with
 | next=>exact wpAny_execs_nil q
 | ret v=>exact q
 | brk=>exact q
 | cont=>exact q
theorem Inv.quiet {pins:List (Addr×Obj)} {σ:St} {H:Hp} {s:Shared} (I:Inv X pins σ H s):interactive X.env=false:=by simp [interactive,I.ok.kind]
def b6g (te:TE):TS:=fun D σ H=>te σ H fun _ H1=>D.nx σ H1
theorem oG (he:PE X e te) (hs:swapsWith e none pos.line X.env=pure false:=by rfl):PS X (.Expr e pos) (b6g te):=by
 intro pins s σ H D I h
 exact wpAny_Expr_any (thn (he pins s σ H _ I h) fun v s1 ⟨x,H1,I1,r1,q1⟩=>⟨σ,H1,I1,q1⟩) I.quiet hs
def b7B (te:TE):TS:=fun D σ H=>te σ H D.rt
theorem a8h (he:PE X e te):PS X (.Return (some e) pos) (b7B te):=by
 intro pins s σ H D I h
 exact wpAny_Return_some (thn (he pins s σ H _ I h) fun v s1 ⟨x,H1,I1,r1,q1⟩=>⟨x,σ,H1,I1,r1,q1⟩)
def b7E (c:TT) (t u:TS):TS:=fun D σ H=>c σ H fun b H1=>if b=true then t D σ H1 else u D σ H1
theorem b2N {c:Expr} {a b:List Stmt} {tc:TT} (hc:PT X c tc) (ha:PSs X a t) (hb:PSs X b u):PS X (.If c a b pos) (b7E tc t u):=by
 intro pins s σ H D I h
 refine wpAny_If (thn (hc pins s σ H _ I h) fun d s1 ⟨H1,I1,q1⟩=>?_)
 cases d with
 | true=>exact ha pins s1 σ H1 D I1 q1
 | false=>exact hb pins s1 σ H1 D I1 q1
end
abbrev TG:=V→St→Hp→(St→Hp→Prop)→Prop
abbrev TGs:=List V→St→Hp→(St→Hp→Prop)→Prop
def PG (X:Cx) (target:Expr) (t:TG):Prop:=
 ∀ (pins:List (Addr×Obj)) (s:Shared) (σ:St) (H:Hp) (v:V) (u:Value) (Q:St→Hp→Prop),Inv X pins σ H s→RelV v u→t v σ H Q →
  wpAny (model X.prog X.w) X.A (assign target X.env u) (fun _ s'=>∃ σ' H',Inv X pins σ' H' s'∧Q σ' H') X.xe s
def PGs (X:Cx) (ts:List Expr) (t:TGs):Prop:=
 ∀ (pins:List (Addr×Obj)) (s:Shared) (σ:St) (H:Hp) (vs:List V) (us:List Value) (Q:St→Hp→Prop),Inv X pins σ H s→aX vs us→t vs σ H Q →
  wpAny (model X.prog X.w) X.A (assignInOrder ((assignEach ts X.env).map (·.2)) us) (fun _ s'=>∃ σ' H',Inv X pins σ' H' s'∧Q σ' H') X.xe s
section
variable {X:Cx} {pos:Pos}
def a9v (i:Nat):TG:=fun v σ H Q=>Q (σ.set i (some v)) H
theorem a5d {i:Nat} {x:Str} (hN:X.N.Nodup) (hi:X.N[i]?=some x) (hx:Loc X.env.scope x) (hf:X.fn x=true∨X.env.scope.names.lookup x=some .local:=by first | exact .inl rfl | exact .inr rfl | assumption):PG X (.Name x pos) (a9v i):=by
 intro pins s σ H v u Q I r h
 exact wpAny_assign_Name (vW I hN hi hx r (fun s' I'=>⟨_,H,I',h⟩) hf)
def b8w:TGs:=fun vs σ H Q=>vs=[]∧Q σ H
def b7b (t:TG) (u:TGs):TGs:=fun vs σ H Q=>∃ v r,vs=v::r∧t v σ H fun σ' H'=>u r σ' H' Q
theorem b0O:PGs X [] b8w:=by
 intro pins s σ H vs us Q I r h
 obtain ⟨e,h⟩:=h
 subst e
 cases r
 exact assignInOrder_nil ⟨σ,H,I,h⟩
theorem a2I {e:Expr} {es:List Expr} {t:TG} {u:TGs} (h1:PG X e t) (h2:PGs X es u)
  (hs:(assignEach (e::es) X.env).map (·.2)=assign e X.env::(assignEach es X.env).map (·.2):=by rfl):PGs X (e::es) (b7b t u):=by
 intro pins s σ H vs us Q I r h
 obtain ⟨v,vr,e1,h⟩:=h
 subst e1
 cases r with
 | cons r rr=>
  rw [hs]
  refine assignInOrder_cons (thn (h1 pins s σ H _ _ _ I r h) fun _ s1 ⟨σ1,H1,I1,q1⟩=>?_)
  exact h2 pins s1 σ1 H1 _ _ Q I1 rr q1
def b7a (K:qB) (n:Nat) (t:TGs):TG:=fun v σ H Q=>∃ a xs,v=.ref a∧SqT K H a xs∧xs.length=n∧t xs σ H Q
theorem a8n {es:List Expr} {k:Nat} {t:TGs} {n:Nat} (hc:X.calm=true) (h:PGs X es t)
  (hn:(assignEach es X.env).length=n:=by rfl) (hst:(assignEach es X.env).findIdx? (·.1)=none:=by rfl):PG X (.Tuple es k pos) (b7a X.K n t):=by
 intro pins s σ H v u Q I r hw
 obtain ⟨a,xs,e1,hq,hl,hw⟩:=hw
 subst e1
 cases r
 obtain ⟨its,rv,ht,hz⟩:=I.tuple hq
 refine assign_Tuple_tuple (I.ok.hd hc) ht (by simp [hn,←hl,rv.length]) hst fun h' hx=>?_
 have I1:Inv X pins σ H { s with heap:=h' }:=I.kept (t':=s.toks) fun b o e=>hx b o (qU (qG e)) e
 exact h pins _ σ H xs _ Q I1 (by simpa using rv) hw
def b0u (te:TE) (g:TG):TS:=fun D σ H=>te σ H fun x H1=>g x σ H1 D.nx
theorem a8j {tg e:Expr} {te:TE} {g:TG} (he:PE X e te) (hg:PG X tg g) (hs:swapsWithSole [tg] e pos.line X.env=pure false:=by rfl) (hw:swappedStores [tg] e X.env=pure none:=by rfl)
  (h1:(assignEach [tg] X.env).map (·.2)=[assign tg X.env]:=by rfl):PS X (.Assign [tg] e pos) (b0u te g):=by
 intro pins s σ H D I h
 refine wpAny_Assign_stores (thn (he pins s σ H _ I h) fun v s1 ⟨x,H1,I1,r1,q1⟩=>?_) hs hw
 rw [h1]
 exact thn (hg pins s1 σ H1 x v _ I1 r1 q1) fun _ s2 q=>q
theorem wO {i:Nat} {x:Str} {e:Expr} {te:TE} {pos':Pos} (hN:X.N.Nodup) (hi:X.N[i]?=some x) (hx:Loc X.env.scope x) (he:PE X e te) (hs:swapsWith e (some (.Name x pos')) pos.line X.env=pure false:=by rfl) (hf:X.fn x=true∨X.env.scope.names.lookup x=some .local:=by first | exact .inl rfl | exact .inr rfl | assumption) :
  PS X (.Assign [.Name x pos'] e pos) (b0u te (a9v i)):=by
 intro pins s σ H D I h
 refine wpAny_Assign_Name (thn (he pins s σ H _ I h) fun v s1 ⟨y,H1,I1,r1,q1⟩=>?_) hs
 exact vW I1 hN hi hx r1 (fun s2 I2=>⟨_,H1,I2,q1⟩) hf
end
section
variable {X:Cx} {pos:Pos}
end
structure It where
 go:Nat→Hp→Prop
 yld:Nat→Hp→V→Hp→Prop
 stop:Nat→Hp→Prop
def uF (X:Cx) (pins:List (Addr×Obj)) (H:Hp) (b:Addr):Prop:=
 H b=none∧b≠X.env.locals∧b∉X.fs∧(b∈X.ex∨X.s₀.heap.objs.size≤b)∧(∀ x c,X.env.cells.lookup x=some c→c≠b)∧∀ p∈X.pn++pins,p.1≠b
theorem Inv.fpOk {X:Cx} {pins:List (Addr×Obj)} {σ:St} {H H':Hp} {s:Shared} {b:Addr} (I:Inv X pins σ H s) (hb:s.heap.objs.size≤b) (hn:H' b=none):uF X pins H' b:=by
 refine ⟨hn,kC (qP I.lt hb),I.nofs hb,.inr (qj I.sz hb),fun x c e z=>?_,fun p hp z=>?_⟩
 ·obtain ⟨v,q⟩:=I.cell x c e
  exact absurd (qP q.lt (by rw [z];exact hb)) (jG _)
 ·exact absurd (qP (qG (I.pin p hp).1) (by rw [z];exact hb)) (jG _)
structure Turn (P:Program) (w:World) (K:qB) (tg:Expr) (J:It) (fp:List Addr) (it:Addr) (tn:Nat→Heap→Prop):Prop where
 mem:it∈fp
 obj:∀ i h,tn i h→∀ b∈fp,∃ o,h.get? b=some o∧∀ v,o.data≠.cell v
 keep:∀ i h h',tn i h→(∀ b∈fp,∀ o,h.get? b=some o→h'.get? b=some o)→tn i h'
 item:∀ (X:Cx),X.prog=P→X.w=w→X.K=K→X.calm=true→∀ (i:Nat) (pins:List (Addr×Obj)) (s:Shared) (σ:St) (H:Hp) (E:Value→Shared→Prop),Inv X pins σ H s→(∀ b∈fp,uF X pins H b)→tn i s.heap→J.go i H →
  wpAny (model P w) X.A (pyNext (.ref it)) (fun r s1=>∃ u,r=some u ∧
   wpAny (model P w) X.A (letOwnedTupleGo tg (.ref it) u) (fun _ s2=>∃ x H',Inv X pins σ H' s2∧RelV x u∧J.yld i H x H'∧tn (i+1) s2.heap∧∀ b∈fp,H' b=none) E s1) E s
 done:∀ (X:Cx),X.prog=P→X.w=w→X.K=K→X.calm=true→∀ (i:Nat) (pins:List (Addr×Obj)) (s:Shared) (σ:St) (H:Hp) (E:Value→Shared→Prop),Inv X pins σ H s→(∀ b∈fp,uF X pins H b)→tn i s.heap→J.stop i H →
  wpAny (model P w) X.A (pyNext (.ref it)) (fun r s1=>r=none∧Inv X pins σ H s1) E s
 self:∀ (A:Around) (i:Nat) (s:Shared) (Q:Value→Shared→Prop) (E:Value→Shared→Prop),tn i s.heap→Q (.ref it) s→wpAny (model P w) A (pyIter (.ref it)) Q E s
abbrev TI:=St→Hp→(It→Hp→Prop)→Prop
def PIE (X:Cx) (pins:List (Addr×Obj)) (σ:St) (tg:Expr) (R:It→Hp→Prop) (itv:Value) (s2:Shared):Prop:=
 ∃ (it:Addr) (fp:List Addr) (tn:Nat→Heap→Prop) (J:It) (H':Hp),itv=.ref it∧Inv X pins σ H' s2∧Turn X.prog X.w X.K tg J fp it tn∧tn 0 s2.heap∧(∀ b∈fp,uF X pins H' b)∧R J H'
def PI (X:Cx) (tg iter:Expr) (wi:TI):Prop:=
 ∀ (pins:List (Addr×Obj)) (s:Shared) (σ:St) (H:Hp) (R:It→Hp→Prop),Inv X pins σ H s→wi σ H R →
  wpAny (model X.prog X.w) X.A (eval iter X.env) (fun v s1=>wpAny (model X.prog X.w) X.A (pyIter v) (PIE X pins σ tg R) X.xe s1) X.xe s
theorem a9q {M:Model} {A:Around} {E:Value→Shared→Prop} {s:Shared} {tg:Expr} {it:Addr} {u:Value} {o:Obj} {n:String} {vs:Array Value} {Q:Unit→Shared→Prop} (ho:s.heap.get? it=some o) (hc:o.cls=.type n) (hd:o.data=.fields vs)
  (hn:["enumerate", "zip", "dict_itemiterator", "dict_reverseitemiterator", "odict_iterator", "itertools.zip_longest", "itertools.pairwise"].contains n=false) (hQ:Q () s):wpAny M A (letOwnedTupleGo tg (.ref it) u) Q E s:=by
 unfold letOwnedTupleGo
 cases tg<;>first
  | exact wpAny_pure hQ
  | (cases u<;>first
    | exact wpAny_pure hQ
    | (refine wpAny_bind (wpAny_load ho ?_);rw [hc,hd];show wpAny M A (if (["enumerate", "zip", "dict_itemiterator", "dict_reverseitemiterator", "odict_iterator", "itertools.zip_longest", "itertools.pairwise"].contains n&&vs[0]?==some (rawInt _))=true then _ else _) Q E s;rw [if_neg (by intro h;rw [hn,Bool.false_and] at h;cases h)];exact wpAny_pure hQ))
def Itl (K:qB) (a:Addr):It:=
 ⟨fun i H=>∃ xs x,SqL K H a xs∧xs[i]?=some x,fun i H x H'=>H'=H∧∀ xs,SqL K H a xs→xs[i]?=some x,fun i H=>∃ xs,SqL K H a xs∧xs.length≤i⟩
def Itt (K:qB) (a:Addr):It:=
 ⟨fun i H=>∃ xs x,SqT K H a xs∧xs[i]?=some x,fun i H x H'=>H'=H∧∀ xs,SqT K H a xs→xs[i]?=some x,fun i H=>∃ xs,SqT K H a xs∧xs.length≤i⟩
def Itr (lo:Int) (n:Nat):It:=⟨fun i _=>i<n,fun i H x H'=>H'=H∧x=.int (lo+i),fun i _=>n≤i⟩
theorem a5Z {P:Program} {w:World} {K:qB} {tg:Expr} (a it:Addr):Turn P w K tg (Itl K a) [it] it (fun i h=>h.IsListIter it a i) where
 mem:=by simp
 obj:=fun i h st b hb=>by
  have e:b=it:=by simpa using hb
  subst e
  obtain ⟨o,e,c,d⟩:=st
  exact ⟨o,e,fun v z=>by rw [d] at z;cases z⟩
 keep:=fun i h h' st k=>st.at fun o e=>k it (by simp) o e
 item:=by
  intro X hP hw hK hc i pins s σ H E I hf st hg
  subst hP hw hK
  obtain ⟨xs,x,hq,hx⟩:=hg
  obtain ⟨its,rv,p,hz⟩:=I.list hq
  obtain ⟨u,hu,ru⟩:=rv.get hx
  obtain ⟨f0,f1,f2,f3,f4,f5⟩:=hf it (by simp)
  refine wpAny_pyNext_list_item st p.isList (x:=u) (by simpa using hu) fun h' st' sb=>?_
  have I1:Inv X pins σ H { s with heap:=h' }:=I.turned (t':=s.toks) (fun b o hb e=>(sb.2 b hb).trans e) f0 f1 f3 f4 f5
  obtain ⟨o,e,c,d⟩:=id st'
  exact ⟨u,rfl,a9q (s:={ s with heap:=h' }) e c d (by decide) ⟨x,H,I1,ru,⟨rfl,fun ys hy=>by rw [I.list_inj hy hq];exact hx⟩,st',fun b hb=>(hf b hb).1⟩⟩
 done:=by
  intro X hP hw hK hc i pins s σ H E I hf st hg
  subst hP hw hK
  obtain ⟨xs,hq,hx⟩:=hg
  obtain ⟨its,rv,p,hz⟩:=I.list hq
  obtain ⟨f0,f1,f2,f3,f4,f5⟩:=hf it (by simp)
  have hl:=rv.length
  exact wpAny_pyNext_list_end (I.ok.hd hc) st p.isList (by simp;omega) fun h' eb=>⟨rfl,I.turned (t':=s.toks) (fun b o hb e=>eb b o hb e) f0 f1 f3 f4 f5⟩
 self:=fun _ _ _ _ _ st h=>wpAny_pyIter_listiter st h
theorem a3B {P:Program} {w:World} {K:qB} {tg:Expr} (a it:Addr):Turn P w K tg (Itt K a) [it] it (fun i h=>h.IsTupleIter it a i) where
 mem:=by simp
 obj:=fun i h st b hb=>by
  have e:b=it:=by simpa using hb
  subst e
  obtain ⟨o,e,c,d⟩:=st
  exact ⟨o,e,fun v z=>by rw [d] at z;cases z⟩
 keep:=fun i h h' st k=>st.at fun o e=>k it (by simp) o e
 item:=by
  intro X hP hw hK hc i pins s σ H E I hf st hg
  subst hP hw hK
  obtain ⟨xs,x,hq,hx⟩:=hg
  obtain ⟨its,rv,p,hz⟩:=I.tuple hq
  obtain ⟨u,hu,ru⟩:=rv.get hx
  obtain ⟨f0,f1,f2,f3,f4,f5⟩:=hf it (by simp)
  refine wpAny_pyNext_tuple_item st (show s.heap.IsTuple a its.toArray from p) (x:=u) (by simpa using hu) fun h' st' sb=>?_
  have I1:Inv X pins σ H { s with heap:=h' }:=I.turned (t':=s.toks) (fun b o hb e=>(sb.2 b hb).trans e) f0 f1 f3 f4 f5
  obtain ⟨o,e,c,d⟩:=id st'
  exact ⟨u,rfl,a9q (s:={ s with heap:=h' }) e c d (by decide) ⟨x,H,I1,ru,⟨rfl,fun ys hy=>by rw [I.tuple_inj hy hq];exact hx⟩,st',fun b hb=>(hf b hb).1⟩⟩
 done:=by
  intro X hP hw hK hc i pins s σ H E I hf st hg
  subst hP hw hK
  obtain ⟨xs,hq,hx⟩:=hg
  obtain ⟨its,rv,p,hz⟩:=I.tuple hq
  obtain ⟨f0,f1,f2,f3,f4,f5⟩:=hf it (by simp)
  have hl:=rv.length
  exact wpAny_pyNext_tuple_end (I.ok.hd hc) st (show s.heap.IsTuple a its.toArray from p) (by simp;omega) fun h' eb=>⟨rfl,I.turned (t':=s.toks) (fun b o hb e=>eb b o hb e) f0 f1 f3 f4 f5⟩
 self:=fun _ _ _ _ _ st h=>wpAny_pyIter_tupleiter st h
theorem a3C {P:Program} {w:World} {K:qB} {tg:Expr} (it:Addr) (lo:Int) (n:Nat):Turn P w K tg (Itr lo n) [it] it (fun i h=>IsRangeIter h it (lo+(i:Nat)*1) ((n:Int) - (i:Nat)) 1) where
 mem:=by simp
 obj:=fun i h st b hb=>by
  have e:b=it:=by simpa using hb
  subst e
  exact ⟨_,st,fun v z=>by
   have z':Data.fields _=Data.cell v:=z
   cases z'⟩
 keep:=fun i h h' st k=>k it (by simp) _ st
 item:=by
  intro X hP hw hK hc i pins s σ H E I hf st hg
  subst hP hw hK
  obtain ⟨f0,f1,f2,f3,f4,f5⟩:=hf it (by simp)
  have W:=Walks.range (prog:=X.prog) (w:=X.w) (I.ok.hd hc) it lo 1 n
  refine W.item i s _ _ hg st fun v h' tk hv st' kk=>?_
  obtain ⟨t,rfl⟩:=hv
  have I1:Inv X pins σ H { s with heap:=h',toks:=tk }:=I.turned (fun b o hb e=>kk b o (by simpa using hb) e) f0 f1 f3 f4 f5
  refine ⟨_,rfl,a9q (s:={ s with heap:=h',toks:=tk }) (n := "range_iterator") st' rfl rfl (by decide) ⟨.int (lo+i),H,I1,⟨t,?_⟩,⟨rfl,rfl⟩,st',fun b hb=>(hf b hb).1⟩⟩
  rw [Int.mul_one]
 done:=by
  intro X hP hw hK hc i pins s σ H E I hf st hg
  subst hP hw hK
  obtain ⟨f0,f1,f2,f3,f4,f5⟩:=hf it (by simp)
  exact wpAny_pyNext_range_end (I.ok.hd hc) st (by have:n≤i:=hg;omega) fun h' eb=>⟨rfl,I.turned (t':=s.toks) (fun b o hb e=>eb b o hb e) f0 f1 f3 f4 f5⟩
 self:=fun _ _ _ _ _ st h=>wpAny_pyIter_rangeiter st h
section
variable {X:Cx} {tg:Expr}
def b6W (K:qB) (tl:TE):TI:=fun σ H R=>tl σ H fun x H1=>∃ a,x=.ref a∧(∃ xs,SqL K H1 a xs)∧R (Itl K a) H1
def b8v (K:qB) (tl:TE):TI:=fun σ H R=>tl σ H fun x H1=>∃ a,x=.ref a∧(∃ xs,SqT K H1 a xs)∧R (Itt K a) H1
theorem a1u {l:Expr} {tl:TE} (hl:PE X l tl):PI X tg l (b6W X.K tl):=by
 intro pins s σ H R I h
 refine thn (hl pins s σ H _ I h) fun v s1 ⟨x,H1,I1,r1,q1⟩=>?_
 obtain ⟨a,e,⟨xs,hq⟩,q⟩:=q1
 subst e
 cases r1
 obtain ⟨its,rv,p,hz⟩:=I1.list hq
 refine wpAny_pyIter_list p.isList ?_
 refine ⟨s1.heap.objs.size,[s1.heap.objs.size],_,_,H1,rfl,I1.kept (t':=s1.toks) fun b o e=>qC _ e,a5Z a _,⟨_,qK _ rfl,rfl,rfl⟩,fun b hb=>?_,q⟩
 have e:b=s1.heap.objs.size:=by simpa using hb
 subst e
 exact I1.fpOk (qO _) (I1.hok.fresh (qO _))
theorem b3P {l:Expr} {tl:TE} (hl:PE X l tl):PI X tg l (b8v X.K tl):=by
 intro pins s σ H R I h
 refine thn (hl pins s σ H _ I h) fun v s1 ⟨x,H1,I1,r1,q1⟩=>?_
 obtain ⟨a,e,⟨xs,hq⟩,q⟩:=q1
 subst e
 cases r1
 obtain ⟨its,rv,p,hz⟩:=I1.tuple hq
 refine wpAny_pyIter_tuple (show s1.heap.IsTuple a its.toArray from p) ?_
 refine ⟨s1.heap.objs.size,[s1.heap.objs.size],_,_,H1,rfl,I1.kept (t':=s1.toks) fun b o e=>qC _ e,a3B a _,⟨_,qK _ rfl,rfl,rfl⟩,fun b hb=>?_,q⟩
 have e:b=s1.heap.objs.size:=by simpa using hb
 subst e
 exact I1.fpOk (qO _) (I1.hok.fresh (qO _))
theorem a8a {pins:List (Addr×Obj)} {σ:St} {H:Hp} {s:Shared} {R:It→Hp→Prop} {E:Value→Shared→Prop} {lo hi:Int} {t u v:Tok} {tk:Nat} (I:Inv X pins σ H s) (h1:-(2 ^ 62)≤lo) (h2:lo<2 ^ 62) (h3:-(2 ^ 62)≤hi) (h4:hi<2 ^ 62)
  (q:R (Itr lo (hi - lo).toNat) H):wpAny (model X.prog X.w) X.A (pyIter (.ref s.heap.objs.size)) (PIE X pins σ tg R) E { s with heap:=s.heap.push { cls:=.type "range", data:=.fields #[.int lo t,.int hi u,.int 1 v] },toks:=tk }:=by
 refine wpAny_pyIter_range (IsRange.new ..) (small_one h1 h2 h3 h4) ?_
 have I1:Inv X pins σ H { s with heap:=s.heap.push { cls:=.type "range", data:=.fields #[.int lo t,.int hi u,.int 1 v] },toks:=tk }:=I.kept fun b o e=>qC _ e
 refine ⟨(s.heap.push { cls:=.type "range", data:=.fields #[.int lo t,.int hi u,.int 1 v] }).objs.size,[(s.heap.push { cls:=.type "range", data:=.fields #[.int lo t,.int hi u,.int 1 v] }).objs.size],_,_,H,rfl,
  I1.kept (t':=tk) fun b o e=>qC _ e,a3C _ lo (hi - lo).toNat,?_,fun b hb=>?_,q⟩
 ·have e1:lo+((0:Nat):Int)*1=lo:=by simp
  have e2:(((hi - lo).toNat:Nat):Int) - ((0:Nat):Int)=Builtin.Range.rangeSize lo hi 1:=by rw [rangeSize_one];split<;>omega
  show IsRangeIter _ _ (lo+((0:Nat):Int)*1) ((((hi - lo).toNat:Nat):Int) - ((0:Nat):Int)) 1
  rw [e1,e2]
  exact qK _ rfl
 ·have e:b=(s.heap.push { cls:=.type "range", data:=.fields #[.int lo t,.int hi u,.int 1 v] }).objs.size:=by simpa using hb
  subst e
  exact I1.fpOk (qO _) (I1.hok.fresh (qO _))
def b6V (ta:TA):TI:=fun σ H R=>ta σ H fun vs H1=>∃ j:Int,vs=[.int j]∧-(2 ^ 62)≤j∧j<2 ^ 62∧R (Itr 0 j.toNat) H1
theorem a6w {a:Expr} {ta:TA} {p pos:Pos} (hg:Gl X "range") (hm:X.mg "range" = none) (ha:PA X [a] ta) (hs:starEach [a] X.env=[(false,eval a X.env)]:=by rfl):PI X tg (.Call (.Name "range" p) [a] [] pos) (b6V ta):=by
 intro pins s σ H R I h
 refine Call_ (tP I hg hm boot_range (PyProof.Rows.callWith_type1 (thn (ha pos pins s σ H _ I h) fun us s1 ⟨vs,H1,I1,r1,q1⟩=>?_) hs rfl))
 obtain ⟨j,e,q1,q2,q⟩:=q1
 subst e
 cases r1 with
 | cons r rr=>
  cases rr
  obtain ⟨t,rfl⟩:=r
  exact call_range_1 (a8a I1 (by omega) (by omega) q1 q2 (by simpa using q))
def b7F (wi:TI) (g:TG) (tb:TS):TS:=fun D σ H=>wi σ H fun J H1=>∃ W:Nat→Nat→St→Hp→Prop,(∃ m,W 0 m σ H1)∧∀ i m σ H,W i m σ H →
 (J.stop i H∧D.nx σ H)∨(J.go i H∧∃ N:St→Hp→Prop,(∀ σ' H',N σ' H'→∃ m',m'<m∧W (i+1) m' σ' H')∧∀ x H',J.yld i H x H'→g x σ H' fun σ2 H2=>tb { D with nx:=N,ct:=N,bk:=D.nx } σ2 H2)
def wP (fp:List Addr) (h:Heap):List (Addr×Obj):=fp.filterMap fun b=>(h.get? b).map fun o=>(b,o)
theorem mQ {fp:List Addr} {h:Heap} {b:Addr} {o:Obj} (hb:b∈fp) (e:h.get? b=some o):(b,o)∈wP fp h:=zi.mpr ⟨b,hb,by rw [e];rfl⟩
theorem a6A {fp:List Addr} {h:Heap} {p:Addr×Obj} (hp:p∈wP fp h):p.1∈fp∧h.get? p.1=some p.2:=by
 obtain ⟨b,hb,e⟩:=zi.mp hp
 cases q:h.get? b with
 | none=>rw [q] at e;cases e
 | some o=>
  rw [q] at e
  have e':(b,o)=p:=qA e
  subst e'
  exact ⟨hb,q⟩
theorem Inv.pinned {pins:List (Addr×Obj)} {σ:St} {H:Hp} {s:Shared} {fp:List Addr} (I:Inv X pins σ H s) (hf:∀ b∈fp,uF X pins H b) (ho:∀ b∈fp,∃ o,s.heap.get? b=some o∧∀ v,o.data≠.cell v):Inv X (pins++wP fp s.heap) σ H s:=
 I.pins_of fun p hp=>(qg.mp hp).elim (fun z=>I.pin p (qW _ z)) fun z=>by
  obtain ⟨hb,e⟩:=a6A z
  obtain ⟨f0,f1,f2,_⟩:=hf p.1 hb
  obtain ⟨o,e',d⟩:=ho p.1 hb
  rw [e] at e';cases e'
  exact ⟨e,f0,f1,f2,d⟩
theorem Inv.unpinned {pins pl:List (Addr×Obj)} {σ:St} {H:Hp} {s:Shared} (I:Inv X (pins++pl) σ H s):Inv X pins σ H s:=I.pins_of fun p hp=>I.pin p (qW _ (jD _ hp))
theorem a8i {iter:Expr} {body:List Stmt} {wi:TI} {g:TG} {tb:TS} {pos:Pos} (hp:PassesOwn (model X.prog X.w) X.A X.env X.xe) (hc:X.calm=true) (hi:PI X tg iter wi) (hg:PG X tg g) (hb:PSs X body tb)
  (hs:∀ x,foldedSetIterable iter X.env x=pure x:=by intro _;rfl):PS X (.For tg iter body [] pos) (b7F wi g tb):=by
 intro pins s σ H D I h
 refine wpAny_For (thn (hi pins s σ H _ I h) fun v s1 h1=>thn h1 fun itv s2 h2=>?_) hs
 obtain ⟨it,fp,tn,J,H2,e,I2,T,st2,f2,W,⟨m0,w0⟩,turn⟩:=h2
 subst e
 -- what stays true of the iterator's objects through the loop
 have stat:∀ {H':Hp},(∀ b∈fp,H' b=none)→∀ b∈fp,uF X pins H' b:=fun hn b hb=>⟨hn b hb,(f2 b hb).2⟩
 refine codeAny_forLoop_any (fun n s'=>∃ i σ' H',Inv X pins σ' H' s'∧tn i s'.heap∧(∀ b∈fp,H' b=none)∧W i n σ' H') ?_ m0 ⟨0,σ,H2,I2,st2,fun b hb=>(f2 b hb).1,w0⟩
 rintro n s3 ⟨i,σ3,H3,I3,st3,fr3,w3⟩
 rcases turn i n σ3 H3 w3 with ⟨stop,qn⟩ | ⟨go,N,hN,step⟩
 ·refine wpAny_passesOwn hp (thn (T.done X rfl rfl rfl hc i pins s3 σ3 H3 X.xe I3 (stat fr3) st3 stop) fun r s4 ⟨hr,I4⟩=>?_)
  subst hr
  exact wpAny_execs_nil ⟨σ3,H3,I4,qn⟩
 ·refine wpAny_passesOwn hp (thn (T.item X rfl rfl rfl hc i pins s3 σ3 H3 X.xe I3 (stat fr3) st3 go) fun r s4 ⟨u,hr,h4⟩=>?_)
  subst hr
  refine wpAny_passesOwn hp (thn h4 fun _ s5 ⟨x,H5,I5,r5,y5,st5,fr5⟩=>?_)
  have I5':=I5.pinned (stat fr5) (T.obj _ _ st5)
  refine wpAny_passesOwn hp (thn (hg _ s5 σ3 H5 x u _ I5' r5 (step x H5 y5)) fun _ s6 ⟨σ6,H6,I6,q6⟩=>?_)
  refine wpAny_passesOwn hp (thn (hb _ s6 σ6 H6 _ I6 q6) fun f s7 q7=>?_)
  have again:∀ {σ7:St} {H7:Hp},Inv X (pins++wP fp s5.heap) σ7 H7 s7→N σ7 H7→∃ m,m<n∧∃ i σ' H',Inv X pins σ' H' s7∧tn i s7.heap∧(∀ b∈fp,H' b=none)∧W i m σ' H':=fun {σ7 H7} I7 n7=>by
   obtain ⟨m',hm,w7⟩:=hN σ7 H7 n7
   refine ⟨m',hm,i+1,σ7,H7,I7.unpinned,T.keep _ _ _ st5 fun b hb o e=>(I7.pin (b,o) (qW _ (qW _ (mQ hb e)))).1,fun b hb=>?_,w7⟩
   obtain ⟨o,e,d⟩:=T.obj _ _ st5 b hb
   exact (I7.pin (b,o) (qW _ (qW _ (mQ hb e)))).2.1
  cases f with
  | next=>obtain ⟨σ7,H7,I7,n7⟩:=q7;exact again I7 n7
  | cont=>obtain ⟨σ7,H7,I7,n7⟩:=q7;exact again I7 n7
  | brk=>obtain ⟨σ7,H7,I7,q7⟩:=q7;exact ⟨σ7,H7,I7.unpinned,q7⟩
  | ret v=>obtain ⟨x7,σ7,H7,I7,r7,q7⟩:=q7;exact ⟨x7,σ7,H7,I7.unpinned,r7,q7⟩
end
abbrev R2:=V→V→Hp→VK→Prop
def OpR (X:Cx) (f:Value→Value→Sem Value) (r:R2):Prop:=
 ∀ (pins:List (Addr×Obj)) (s:Shared) (σ:St) (H:Hp) (x y:V) (v u:Value) (Q:VK),Inv X pins σ H s→RelV x v→RelV y u→r x y H Q →
  wpAny (model X.prog X.w) X.A (f v u) (EP X pins σ Q) X.xe s
def UnR (X:Cx) (f:Value→Sem Value) (r:V→Hp→VK→Prop):Prop:=
 ∀ (pins:List (Addr×Obj)) (s:Shared) (σ:St) (H:Hp) (x:V) (v:Value) (Q:VK),Inv X pins σ H s→RelV x v→r x H Q →
  wpAny (model X.prog X.w) X.A (f v) (EP X pins σ Q) X.xe s
def gM (X:Cx) (f:Value) (r:List V→Hp→VK→Prop):Prop:=
 ∀ (pins:List (Addr×Obj)) (s:Shared) (σ:St) (H:Hp) (xs:List V) (us:List Value) (Q:VK),Inv X pins σ H s→aX xs us→r xs H Q →
  wpAny (model X.prog X.w) X.A (call f us) (EP X pins σ Q) X.xe s
def b8H (X:Cx) (r:V→Hp→(Bool→Hp→Prop)→Prop):Prop:=
 ∀ (pins:List (Addr×Obj)) (s:Shared) (σ:St) (H:Hp) (x:V) (v:Value) (Q:Bool→Hp→Prop),Inv X pins σ H s→RelV x v→r x H Q →
  wpAny (model X.prog X.w) X.A (truthy v) (TP X pins σ Q) X.xe s
def tOp (r:R2) (ta tb:TE):TE:=fun σ H Q=>ta σ H fun x H1=>tb σ H1 fun y H2=>r x y H2 Q
def tUn (r:V→Hp→VK→Prop) (ta:TE):TE:=fun σ H Q=>ta σ H fun x H1=>r x H1 Q
def rI (C:Int→Int→Prop) (g:Int→Int→V):R2:=fun x y H Q=>∃ i j,x=.int i∧y=.int j∧C i j∧Q (g i j) H
def rI0 (g:Int→Int→V):R2:=fun x y H Q=>∃ i j,x=.int i∧y=.int j∧Q (g i j) H
def rU (g:Int→V):V→Hp→VK→Prop:=fun x H Q=>∃ i,x=.int i∧Q (g i) H
section
variable {X:Cx} {a b c:Expr} {ta tb tc:TE} {pos:Pos}
theorem b5M (ha:PE X a ta) (hb:PE X b tb) {pins:List (Addr×Obj)} {s:Shared} {σ:St} {H:Hp} {R:V→V→Hp→Prop} (I:Inv X pins σ H s)
  (h:ta σ H fun x H1=>tb σ H1 fun y H2=>R x y H2) {Q:Value→Shared→Prop} {f:Value→Value→Sem Value}
  (hf:∀ v u s2 x y H2,Inv X pins σ H2 s2→RelV x v→RelV y u→R x y H2→wpAny (model X.prog X.w) X.A (f v u) Q X.xe s2) :
  wpAny (model X.prog X.w) X.A (eval a X.env) (fun v s₁=>wpAny (model X.prog X.w) X.A (eval b X.env) (fun u s₂=>wpAny (model X.prog X.w) X.A (f v u) Q X.xe s₂) X.xe s₁) X.xe s:=by
 refine thn (ha pins s σ H _ I h) fun v s1 ⟨x,H1,I1,r1,q1⟩=>?_
 refine thn (hb pins s1 σ H1 _ I1 q1) fun u s2 ⟨y,H2,I2,r2,q2⟩=>?_
 exact hf v u s2 x y H2 I2 r1 r2 q2
theorem a5f {op:Operator} {r:R2} (ho:OpR X (binaryOp op) r) (ha:PE X a ta) (hb:PE X b tb):PE X (.BinOp a op b pos) (tOp r ta tb):=by
 intro pins s σ H Q I h
 exact wpAny_BinOp (b5M ha hb I h fun v u s2 x y H2 I2 rx ry q=>ho pins s2 σ H2 x y v u Q I2 rx ry q)
theorem b6x {op:UnaryOp} {r:V→Hp→VK→Prop} (ho:UnR X (unaryOp op) r) (ha:PE X a ta):PE X (.UnaryOp op a pos) (tUn r ta):=by
 intro pins s σ H Q I h
 exact UnaryOp_ (thn (ha pins s σ H _ I h) fun v s1 ⟨x,H1,I1,r1,q1⟩=>ho pins s1 σ H1 x v Q I1 r1 q1)
theorem opI {f:Value→Value→Sem Value} {C:Int→Int→Prop} {g:Int→Int→Int}
  (rule:∀ (i j:Int) (t u:Tok) (s:Shared) (Q:Value→Shared→Prop) (E:Value→Shared→Prop),C i j→Q (.int (g i j) s.toks) { s with toks:=s.toks+1 }→wpAny (model X.prog X.w) X.A (f (.int i t) (.int j u)) Q E s) :
  OpR X f (rI C fun i j=>.int (g i j)):=by
 intro pins s σ H x y v u Q I rx ry h
 obtain ⟨i,j,rfl,rfl,hc,q⟩:=h
 obtain ⟨t,rfl⟩:=rx
 obtain ⟨t',rfl⟩:=ry
 exact rule i j t t' s _ _ hc ⟨.int (g i j),H,I.tok _,⟨_,rfl⟩,q⟩
theorem b7Z {f:Value→Value→Sem Value} {g:Int→Int→Int}
  (rule:∀ (i j:Int) (t u:Tok) (s:Shared) (Q:Value→Shared→Prop) (E:Value→Shared→Prop),Q (.int (g i j) s.toks) { s with toks:=s.toks+1 }→wpAny (model X.prog X.w) X.A (f (.int i t) (.int j u)) Q E s) :
  OpR X f (rI0 fun i j=>.int (g i j)):=by
 intro pins s σ H x y v u Q I rx ry h
 obtain ⟨i,j,rfl,rfl,q⟩:=h
 obtain ⟨t,rfl⟩:=rx
 obtain ⟨t',rfl⟩:=ry
 exact rule i j t t' s _ _ ⟨.int (g i j),H,I.tok _,⟨_,rfl⟩,q⟩
theorem b1d {f:Value→Value→Sem Value} {g:Int→Int→Bool}
  (rule:∀ (i j:Int) (t u:Tok) (s:Shared) (Q:Value→Shared→Prop) (E:Value→Shared→Prop),Q (.bool (g i j)) s→wpAny (model X.prog X.w) X.A (f (.int i t) (.int j u)) Q E s) :
  OpR X f (rI0 fun i j=>.bl (g i j)):=by
 intro pins s σ H x y v u Q I rx ry h
 obtain ⟨i,j,rfl,rfl,q⟩:=h
 obtain ⟨t,rfl⟩:=rx
 obtain ⟨t',rfl⟩:=ry
 exact rule i j t t' s _ _ ⟨.bl (g i j),H,I,rfl,q⟩
def b8L (i j:Int):Prop:=0<j∧j<1073741824
def b5V (i j:Int):Prop:=(-(2 ^ 64)<i∧i<2 ^ 64)∨(-(2 ^ 64)<j∧j<2 ^ 64)
theorem b5V.ok {i j:Int} (h:b5V i j):IntMulOk i j:=by
 rcases h with ⟨h1,h2⟩ | ⟨h1,h2⟩
 ·exact .of_left (intBits_le_64 h1 h2)
 ·exact .of_right (intBits_le_64 h1 h2)
theorem b4i:OpR X (binaryOp .Add) (rI0 fun i j=>.int (i+j)):=b7Z fun _ _ _ _ _ _ _ q=>add_int q
theorem b4c:OpR X (binaryOp .Mult) (rI b5V fun i j=>.int (i*j)):=opI fun _ _ _ _ _ _ _ hc q=>mul_int q hc.ok
theorem b1a:OpR X (binaryOp .FloorDiv) (rI b8L fun i j=>.int (i / j)):=opI fun i j _ _ _ _ _ hc q=>by
 have h1:(0:Int)<j:=hc.1
 have h2:j<1073741824:=hc.2
 exact floordiv_int (by omega) (by rw [Int.fdiv_eq_ediv_of_nonneg i (by omega)];exact q) (.inl (PyProof.noPylong_small (by omega)))
theorem b4d:OpR X (binaryOp .Mod) (rI (fun _ j=>0<j) fun i j=>.int (i % j)):=opI fun i j _ _ _ _ _ hc q=>by
 have h1:(0:Int)<j:=hc
 exact mod_int' (by omega) (by rw [Int.fmod_eq_emod_of_nonneg i (by omega)];exact q)
theorem unI {f:Value→Sem Value} {g:Int→Int}
  (rule:∀ (i:Int) (t:Tok) (s:Shared) (Q:Value→Shared→Prop) (E:Value→Shared→Prop),Q (.int (g i) s.toks) { s with toks:=s.toks+1 }→wpAny (model X.prog X.w) X.A (f (.int i t)) Q E s) :
  UnR X f (rU fun i=>.int (g i)):=by
 intro pins s σ H x v Q I rx h
 obtain ⟨i,rfl,q⟩:=h
 obtain ⟨t,rfl⟩:=rx
 exact rule i t s _ _ ⟨.int (g i),H,I.tok _,⟨_,rfl⟩,q⟩
theorem b3r:UnR X (unaryOp .USub) (rU fun i=>.int (-i)):=unI fun _ _ _ _ _ q=>neg_int q
end
def b6j:V→V→Bool
 | .non,.non=>true | .non,.int _=>true | .int _,.non=>true | .non,.bl _=>true | .bl _,.non=>true | .non,.str _=>true | .str _,.non=>true
 | .int _,.int _=>true | .bl _,.bl _=>true | .str _,.str _=>true | .byt _,.byt _=>true
 | .int _,.str _=>true | .str _,.int _=>true | .bl _,.str _=>true | .str _,.bl _=>true
 | _,_=>false
def rEq:R2:=fun x y H Q=>b6j x y=true∧Q (.bl (decide (x=y))) H
def rNe:R2:=fun x y H Q=>b6j x y=true∧Q (.bl (!decide (x=y))) H
theorem a5K {i j:Int}:decide (V.int i=V.int j)=(i==j):=by
 rw [kq]
 simp
theorem a9S {i j:Bool}:decide (V.bl i=V.bl j)=(i==j):=by
 rw [kq]
 simp
theorem a5J {i j:Str}:decide (V.str i=V.str j)=(i==j):=by
 rw [kq]
 simp
theorem a5L {i j:Array UInt8}:decide (V.byt i=V.byt j)=(i.toList==j.toList):=by
 rw [kq]
 cases i
 cases j
 simp
section
variable {X:Cx} {a b c:Expr} {ta tb tc:TE} {pos:Pos}
theorem bM {pins:List (Addr×Obj)} {σ:St} {H:Hp} {s:Shared} {Q:VK} {k k':Bool} (I:Inv X pins σ H s) (q:Q (.bl k) H) (e:k=k'):EP X pins σ Q (.bool k') s:=by
 subst e
 exact ⟨.bl k,H,I,rfl,q⟩
theorem a8F:OpR X (compareOp .Eq) rEq:=by
 intro pins s σ H x y v u Q I rx ry h
 obtain ⟨hs,q⟩:=h
 cases x with
 | non=>
  cases rx
  cases y with
  | non=>cases ry;exact PySem.EqNone.eq_none_none (bM I q (by simp))
  | bl j=>cases ry;exact PySem.EqNone.eq_none_bool (bM I q (by simp))
  | int j=>obtain ⟨t',rfl⟩:=ry;exact PySem.EqNone.eq_none_int (bM I q (by simp))
  | str j=>obtain ⟨t',rfl⟩:=ry;exact PySem.EqNone.eq_none_str (bM I q (by simp))
  | _=>exact absurd (show false=true from hs) qT
 | bl i=>
  cases rx
  cases y with
  | non=>cases ry;exact PySem.EqNone.eq_bool_none (bM I q (by simp))
  | bl j=>cases ry;exact eq_bool (bM I q a9S)
  | str j=>obtain ⟨t',rfl⟩:=ry;exact PySem.EqMixed.eq_bool_str (bM I q (by simp))
  | _=>exact absurd (show false=true from hs) qT
 | int i=>
  obtain ⟨t,rfl⟩:=rx
  cases y with
  | non=>cases ry;exact PySem.EqNone.eq_int_none (bM I q (by simp))
  | int j=>obtain ⟨t',rfl⟩:=ry;exact eq_int (bM I q a5K)
  | str j=>obtain ⟨t',rfl⟩:=ry;exact PySem.EqMixed.eq_int_str (bM I q (by simp))
  | _=>exact absurd (show false=true from hs) qT
 | str i=>
  obtain ⟨t,rfl⟩:=rx
  cases y with
  | non=>cases ry;exact PySem.EqNone.eq_str_none (bM I q (by simp))
  | bl j=>cases ry;exact PySem.EqMixed.eq_str_bool (bM I q (by simp))
  | int j=>obtain ⟨t',rfl⟩:=ry;exact PySem.EqMixed.eq_str_int (bM I q (by simp))
  | str j=>obtain ⟨t',rfl⟩:=ry;exact eq_str (bM I q a5J)
  | _=>exact absurd (show false=true from hs) qT
 | byt i=>
  obtain ⟨t,rfl⟩:=rx
  cases y with
  | byt j=>obtain ⟨t',rfl⟩:=ry;exact PySem.W.eq_bytes (bM I q a5L)
  | _=>exact absurd (show false=true from hs) qT
 | _=>cases y<;>exact absurd (show false=true from hs) qT
theorem a8E:OpR X (compareOp .NotEq) rNe:=by
 intro pins s σ H x y v u Q I rx ry h
 obtain ⟨hs,q⟩:=h
 cases x with
 | non=>
  cases rx
  cases y with
  | non=>cases ry;exact PySem.EqNone.ne_none_none (bM I q (by simp))
  | bl j=>cases ry;exact PySem.EqNone.ne_none_bool (bM I q (by simp))
  | int j=>obtain ⟨t',rfl⟩:=ry;exact PySem.EqNone.ne_none_int (bM I q (by simp))
  | str j=>obtain ⟨t',rfl⟩:=ry;exact PySem.EqNone.ne_none_str (bM I q (by simp))
  | _=>exact absurd (show false=true from hs) qT
 | bl i=>
  cases rx
  cases y with
  | non=>cases ry;exact PySem.EqNone.ne_bool_none (bM I q (by simp))
  | bl j=>cases ry;exact ne_bool (bM I q (congrArg not a9S))
  | str j=>obtain ⟨t',rfl⟩:=ry;exact PySem.EqMixed.ne_bool_str (bM I q (by simp))
  | _=>exact absurd (show false=true from hs) qT
 | int i=>
  obtain ⟨t,rfl⟩:=rx
  cases y with
  | non=>cases ry;exact PySem.EqNone.ne_int_none (bM I q (by simp))
  | int j=>obtain ⟨t',rfl⟩:=ry;exact ne_int (bM I q (congrArg not a5K))
  | str j=>obtain ⟨t',rfl⟩:=ry;exact PySem.EqMixed.ne_int_str (bM I q (by simp))
  | _=>exact absurd (show false=true from hs) qT
 | str i=>
  obtain ⟨t,rfl⟩:=rx
  cases y with
  | non=>cases ry;exact PySem.EqNone.ne_str_none (bM I q (by simp))
  | bl j=>cases ry;exact PySem.EqMixed.ne_str_bool (bM I q (by simp))
  | int j=>obtain ⟨t',rfl⟩:=ry;exact PySem.EqMixed.ne_str_int (bM I q (by simp))
  | str j=>obtain ⟨t',rfl⟩:=ry;exact ne_str (bM I q (congrArg not a5J))
  | _=>exact absurd (show false=true from hs) qT
 | byt i=>
  obtain ⟨t,rfl⟩:=rx
  cases y with
  | byt j=>obtain ⟨t',rfl⟩:=ry;exact PySem.W.ne_bytes (bM I q (congrArg not a5L))
  | _=>exact absurd (show false=true from hs) qT
 | _=>cases y<;>exact absurd (show false=true from hs) qT
theorem b6z:OpR X (compareOp .Lt) (rI0 fun i j=>.bl (decide (i<j))):=b1d fun _ _ _ _ _ _ _ q=>lt_int q
theorem b6A:OpR X (compareOp .LtE) (rI0 fun i j=>.bl (decide (i≤j))):=b1d fun _ _ _ _ _ _ _ q=>le_int q
theorem b6B:OpR X (compareOp .Gt) (rI0 fun i j=>.bl (decide (j<i))):=b1d fun _ _ _ _ _ _ _ q=>gt_int q
theorem b6C:OpR X (compareOp .GtE) (rI0 fun i j=>.bl (decide (j≤i))):=b1d fun _ _ _ _ _ _ _ q=>ge_int q
theorem b4e:OpR X (compareOp .Is) (fun x y H Q=>y=.non∧Q (.bl (decide (x=.non))) H):=by
 intro pins s σ H x y v u Q I rx ry h
 obtain ⟨rfl,q⟩:=h
 cases ry
 refine is_none_gen (bM I q ?_)
 cases x<;>first
  | (cases rx;rfl)
  | (obtain ⟨t,rfl⟩:=rx;rfl)
theorem a1y (b:Expr) {op:CmpOp} (h:op≠.In:=by decide) (h2:op≠.NotIn:=by decide):behindInMarks op b=false:=by
 have e1:(op==CmpOp.In)=false:=by cases op<;>first | rfl | exact absurd rfl h
 have e2:(op==CmpOp.NotIn)=false:=by cases op<;>first | rfl | exact absurd rfl h2
 cases b<;>simp [behindInMarks,e1,e2]
theorem a5i {op:CmpOp} {r:R2} (ho:OpR X (compareOp op) r) (ha:PE X a ta) (hb:PE X b tb) (hm:behindInMarks op b=false):PE X (.Compare a [op] [b] pos) (tOp r ta tb):=by
 intro pins s σ H Q I h
 exact wpAny_Compare1 (b5M ha hb I h fun v u s2 x y H2 I2 rx ry q=>ho pins s2 σ H2 x y v u Q I2 rx ry q) hm
def b2G (t:TE):TT:=fun σ H Q=>t σ H fun x H'=>∃ k,x=.bl k∧Q k H'
theorem a4Z {op:CmpOp} {r:R2} (ho:OpR X (compareOp op) r) (ha:PE X a ta) (hb:PE X b tb) (hm:behindInMarks op b=false):PT X (.Compare a [op] [b] pos) (b2G (tOp r ta tb)):=by
 intro pins s σ H Q I h
 refine wpAny_isTrue_Compare1 (thn (ha pins s σ H _ I h) fun v s1 ⟨x,H1,I1,r1,q1⟩=>thn (hb pins s1 σ H1 _ I1 q1) fun u s2 ⟨y,H2,I2,r2,q2⟩=>
  thn (ho pins s2 σ H2 x y v u _ I2 r1 r2 q2) fun c s3 ⟨z,H3,I3,r3,k,e,q3⟩=>?_) hm
 subst e
 cases r3
 exact wpAny_truthy_bool ⟨H3,I3,q3⟩
def a7L (r r':R2) (ta tb tc:TE):TE:=fun σ H Q=>ta σ H fun x H1=>tb σ H1 fun y H2=>r x y H2 fun z H3=>∃ k,z=.bl k ∧
 (if k=true then tc σ H3 fun w' H4=>r' y w' H4 Q else Q (.bl false) H3)
theorem a8u {op op':CmpOp} {r r':R2} (ho:OpR X (compareOp op) r) (ho':OpR X (compareOp op') r') (ha:PE X a ta) (hb:PE X b tb) (hc:PE X c tc)
  (hm:lastMarks [op,op'] [b,c]=false:=by with_unfolding_all rfl):PE X (.Compare a [op,op'] [b,c] pos) (a7L r r' ta tb tc):=by
 intro pins s σ H Q I h
 refine Compare_chain (thn (ha pins s σ H _ I h) fun v s1 ⟨x,H1,I1,r1,q1⟩=>chain_link (thn (hb pins s1 σ H1 _ I1 q1) fun u s2 ⟨y,H2,I2,r2,q2⟩=>
  thn (ho pins s2 σ H2 x y v u _ I2 r1 r2 q2) fun d s3 ⟨z,H3,I3,r3,k,e,q3⟩=>?_)) hm
 subst e
 cases r3
 refine wpAny_truthy_bool ?_
 cases k with
 | false=>exact ite_ff ⟨.bl false,H3,I3,rfl,q3⟩
 | true=>exact ite_tt (chain_last (thn (hc pins s3 σ H3 _ I3 q3) fun w' s4 ⟨z',H4,I4,r4,q4⟩=>ho' pins s4 σ H4 y z' u w' Q I4 r2 r4 q4))
theorem a8f {op op':CmpOp} {r r':R2} (ho:OpR X (compareOp op) r) (ho':OpR X (compareOp op') r') (ha:PE X a ta) (hb:PE X b tb) (hc:PE X c tc)
  (hm:lastMarks [op,op'] [b,c]=false:=by with_unfolding_all rfl):PT X (.Compare a [op,op'] [b,c] pos) (b2G (a7L r r' ta tb tc)):=by
 intro pins s σ H Q I h
 refine isTrue_chain (thn (ha pins s σ H _ I h) fun v s1 ⟨x,H1,I1,r1,q1⟩=>test_link (thn (hb pins s1 σ H1 _ I1 q1) fun u s2 ⟨y,H2,I2,r2,q2⟩=>
  thn (ho pins s2 σ H2 x y v u _ I2 r1 r2 q2) fun d s3 ⟨z,H3,I3,r3,k,e,q3⟩=>?_)) hm
 subst e
 cases r3
 refine wpAny_truthy_bool ?_
 cases k with
 | false=>
  obtain ⟨k',e',q'⟩:=q3
  cases e'
  exact ite_ff ⟨H3,I3,q'⟩
 | true=>
  refine ite_tt (test_last (thn (hc pins s3 σ H3 _ I3 q3) fun w' s4 ⟨z',H4,I4,r4,q4⟩=>thn (ho' pins s4 σ H4 y z' u w' _ I4 r2 r4 q4) fun d' s5 ⟨z2,H5,I5,r5,k2,e2,q5⟩=>?_))
  subst e2
  cases r5
  exact wpAny_truthy_bool ⟨H5,I5,q5⟩
def b5T (K:qB) (x:V) (H:Hp) (k:Bool):Prop:=
 match x with
 | .non=>k=false
 | .bl b=>k=b
 | .int i=>k=(i != 0)
 | .str y=>y.length≤sizeLine∧k=((y.length:Int) != 0)
 | .byt y=>y.size≤sizeLine∧k=((y.size:Int) != 0)
 | .ref p=>(∃ xs,SqL K H p xs∧k=!xs.isEmpty)∨(∃ xs,SqT K H p xs∧k=!xs.isEmpty)∨∃ kvs,H p=some (.dK kvs)∧k=!kvs.isEmpty
 | _=>False
theorem a4m {κ:Type} {kvs:List (κ×V)} {vs:List (κ×Value)} (r:KV kvs vs):(!vs.isEmpty)=!kvs.isEmpty:=by
 cases r<;>rfl
theorem xI {xs:List V} {its:List Value} (r:aX xs its):(!its.toArray.isEmpty)=!xs.isEmpty:=by
 cases r<;>simp
theorem tN:(sizeLine:Nat)<2 ^ 63:=by rw [sizeLine_eq];decide
theorem b3s:b8H X (fun x H Q=>∃ k,b5T X.K x H k∧Q k H):=by
 intro pins s σ H x v Q I rx h
 obtain ⟨k,e,q⟩:=h
 have hl:=tN
 have hs:sizeLine=16777216:=sizeLine_eq
 cases x with
 | non=>
  cases rx
  have e':k=false:=e
  subst e'
  exact truthy_none ⟨H,I,q⟩
 | bl b=>
  cases rx
  have e':k=b:=e
  subst e'
  exact wpAny_truthy_bool ⟨H,I,q⟩
 | int i=>
  obtain ⟨t,rfl⟩:=rx
  have e':k=(i != 0):=e
  subst e'
  exact PySem.P.truthy_int ⟨H,I,q⟩
 | str y=>
  obtain ⟨t,rfl⟩:=rx
  obtain ⟨hy,e'⟩:y.length≤sizeLine∧k=((y.length:Int) != 0):=e
  subst e'
  exact PySem.P.truthy_str (by omega) ⟨H,I.tok _,q⟩
 | byt y=>
  obtain ⟨t,rfl⟩:=rx
  obtain ⟨hy,e'⟩:y.size≤sizeLine∧k=((y.size:Int) != 0):=e
  subst e'
  exact PySem.W.truthy_bytes (by omega) ⟨H,I.tok _,q⟩
 | ref p=>
  cases rx
  have e':(∃ xs,SqL X.K H p xs∧k=!xs.isEmpty)∨(∃ xs,SqT X.K H p xs∧k=!xs.isEmpty)∨∃ kvs,H p=some (.dK kvs)∧k=!kvs.isEmpty:=e
  rcases e' with ⟨xs,hx,e'⟩ | ⟨xs,hx,e'⟩ | ⟨kvs,hx,e'⟩
  ·subst e'
   obtain ⟨its,r,pl,hz⟩:=I.list hx
   have hlen:=r.length
   exact wpAny_truthy_list pl.isList (by simp only [qI];omega) ⟨H,I.tok _,by rw [xI r];exact q⟩
  ·subst e'
   obtain ⟨its,r,pl,hz⟩:=I.tuple hx
   have hlen:=r.length
   exact truthy_tuple pl (by simp only [qI];omega) ⟨H,I.tok _,by rw [xI r];exact q⟩
  ·subst e'
   obtain ⟨hz,hS,vs,r,m⟩:kvs.length≤sizeLine∧(p==sysModules)=false∧∃ vs,KV kvs vs∧s.heap.DictOf (bR X.prog X.w) p vs:=I.hok p _ hx
   have hlen:kvs.length=vs.length:=Paired.length r
   exact wpAny_truthy_dict hS m (by omega) ⟨H,I.tok _,by rw [a4m r];exact q⟩
 | _=>exact (show False from e).elim
theorem a2E (ha:PE X a ta) (he:∀ whole,isTrue a X.env whole=(do let v ←whole;standAt a.pos;holding [v] (truthy v))) :
  PT X a (fun σ H Q=>ta σ H fun x H'=>∃ k,b5T X.K x H' k∧Q k H'):=by
 intro pins s σ H Q I h
 exact isTrue_plain (thn (ha pins s σ H _ I h) fun v s1 ⟨x,H1,I1,r1,q1⟩=>b3s pins s1 σ H1 x v Q I1 r1 q1) (he _)
theorem a4a:OpR X (binaryOp .Add) (fun x y H Q=>∃ i j,x=.str i∧y=.str j∧i.length+j.length≤sizeLine∧Q (.str (i++j)) H):=by
 intro pins s σ H x y v u Q I rx ry h
 obtain ⟨i,j,rfl,rfl,hz,q⟩:=h
 obtain ⟨t,rfl⟩:=rx
 obtain ⟨t',rfl⟩:=ry
 exact add_str (fun t' tk=>⟨.str (i++j),H,I.tok _,⟨_,rfl⟩,q⟩) hz
theorem vals1 {x:V} {us:List Value} (r:aX [x] us):∃ u,us=[u]∧RelV x u:=by
 cases r with
 | cons r1 r2=>cases r2;exact ⟨_,rfl,r1⟩
theorem vals2 {x y:V} {us:List Value} (r:aX [x,y] us):∃ u w',us=[u,w']∧RelV x u∧RelV y w':=by
 cases r with
 | cons r1 r2=>
  cases r2 with
  | cons r3 r4=>cases r4;exact ⟨_,_,rfl,r1,r3⟩
end
structure ObjM (h:Heap) (x dx C:Addr) (mA:Str→Option Value):Prop where
 obj:h.get? x=some (jg C dx)
 ns:h.Ns1 dx mA
 ne:dx≠x
theorem a6K {h:Heap} {dx:Addr} {mA:Str→Option Value} (n:h.Ns1 dx mA):∃ od,h.get? dx=some od∧∀ name,zU name od=some (mA name):=by
 obtain ⟨o,es,ep,ho,hd,hk,_,hm⟩:=n
 refine ⟨o,ho,fun name=>?_⟩
 have e:=hm name
 unfold nsFind findBy at e
 rw [←Array.find?_toList] at e
 unfold zU
 rw [hd]
 dsimp only
 split
 ·rename_i y q
  rw [q] at e
  exact congrArg some e
 ·rename_i q
  rw [q] at e
  have a:es.toList.any (·.refKey)=false:=by
   rw [List.any_eq_false]
   intro y hy
   obtain ⟨z,t,hkey⟩:=hk y (Array.mem_toList_iff.mp hy)
   simp [DictEntry.refKey,hkey]
  have a':¬es.toList.any (·.refKey)=true:=by rw [a];exact qT
  rw [if_neg a']
  exact congrArg some e
theorem ObjM.look {h:Heap} {x dx C:Addr} {mA:Str→Option Value} (I:ObjM h x dx C mA):∃ od,PySem.W.InstAt h x (jg C dx) C (some od)∧∀ name,zU name od=some (mA name):=
 let ⟨od,ho,hl⟩:=a6K I.ns
 ⟨od,⟨I.obj,rfl,rfl,ho⟩,hl⟩
section
variable {prog:Program} {w:World} {A:Around} {E:Value→Shared→Prop} {s:Shared} {K:qB} {x dx C f:Addr} {mA:Str→Option Value} {name:Str} {v:Value}
theorem b1L {expr:Bool} {Q:Value→Shared→Prop} (X:K.In s.heap) (I:ObjM s.heap x dx C mA) (hg:kW K C name=true) (hh:zA K C=true)
  (ha:qm K (.ref C) name=some none) (hv:mA name=some v) (hv':PySem.W.handedIn v=true) (h:Q v { s with toks:=s.toks+1 }) :
  wpAny (model prog w) A (getAttr (.ref x) name expr) Q E s:=by
 obtain ⟨od,J,hl⟩:=I.look
 exact PySem.W.get_value X J (zY hg).1 (PySem.W.findObj_own hh ha rfl (by rw [hl,hv])) hv' h
theorem a9s {pl:Sem Bool} {Q:Value×List Value→Shared→Prop} (X:K.In s.heap) (I:ObjM s.heap x dx C mA) (hg:kW K C name=true)
  (hf:qm K (.ref C) name=some (some (.ref f))) (ht:zK K (.ref f)=true) (hv:mA name=none) (h:Q (.ref f,[.ref x]) s) :
  wpAny (model prog w) A (getMethod (.ref x) name pl) Q E s:=by
 obtain ⟨od,J,hl⟩:=I.look
 exact PySem.W.method_fn X J (zY hg).1 (zY hg).2 hf (beq_iff_eq.mp ht) (by show (zU name od).map (·.isSome)=some false;rw [hl,hv];rfl) h
theorem b0A {ns:List Str} {Q:Unit→Shared→Prop} (X:K.In s.heap) (I:ObjM s.heap x dx C mA)
  (hs:qm K (.ref C) "__setattr__" = some (some (.builtin "object.__setattr__"))) (hp:zo K C=true) (ht:PySem.W.takerIn K C name=some none) (hh:zA K C=true)
  (hw:PySem.Within mA ns) (hsz:ns.length≤sizeLine)
  (h:∀ h',ObjM h' x dx C (fun y=>if y=name then some v else mA y)→jk dx s.heap h'→Q () { s with heap:=h',toks:=s.toks+2 }) :
  wpAny (model prog w) A (setAttr (.ref x) name v) Q E s:=by
 obtain ⟨od,J,hl⟩:=I.look
 refine PySem.W.set_plain X J hs (PySem.W.osa_open (s:={ s with toks:=s.toks+1 }) (r:=none) X J hp ht fun b=>?_)
 obtain ⟨cd,hc,hd'⟩:=PySem.W.any_some hh
 have hx:s.heap.get? x=some ⟨.ref C,some dx,.plain,#[]⟩:=I.obj
 refine wpAny_bind (wpAny_pure (wpAny_bind (wpAny_bind (wpAny_loadPart hx (wpAny_bind (PySem.W.Looks.here (s:={ s with toks:=s.toks+1 }) (PySem.W.looks_clsIn X hc) ?_))))))
 rw [hd']
 refine wpAny_pure (a:=some dx) (wpAny_bind (wpAny_pure (wpAny_bind ?_)))
 refine wpAny_nsSet1 (s:={ s with toks:=s.toks+1 }) I.ns fun h' hn2 hs2=>?_
 obtain ⟨oD,esD,epD,hoD,hdD,hcD⟩:=hn2.count (PySem.Within.cons name v hw)
 refine wpAny_bind (wpAny_lookBehind hoD (by rw [hdD];exact pastItsLine_dict (qj hcD (by rw [qb];omega))) ?_)
 exact wpAny_pure (h _ ⟨(hs2.2 _ (qr I.ne)).trans I.obj,hn2,I.ne⟩ hs2)
theorem a8X {R:Result→Shared→Prop} {vs:List Value} {kw:List (Str×Value)} (X:K.In s.heap) (hm:PySem.W.makesIn K C=true)
  (hi:qm K (.ref C) "__init__" = some (some (.ref f))) (hf:PySem.W.typeIn K (.ref f)=some (.type "function"))
  (h:codeAny (model prog w) (A.under (.builtin "type.__call__" ⟨.ref C::vs,kw⟩)) (.call (.ref f) ⟨.ref (s.heap.objs.size+1)::vs,kw⟩) (PySem.W.InitBack (s.heap.objs.size+1) R)
   { s with heap:=(s.heap.push jR).push (jg C s.heap.objs.size) }) :
  codeAny (model prog w) A (.call (.ref C) ⟨vs,kw⟩) R s:=by
 obtain ⟨hh,g,d,t,os⟩:=s
 exact PySem.W.make_core (PySem.W.makes_of X hm) (PySem.W.looks_findIn X hi) (fun self=>PySem.W.bind_fn X self hf) (.inl rfl) h
end
def iA (f:Str) (v:V):List (Str×V)→List (Str×V)
 | []=>[(f,v)]
 | (g,x)::r=>if g=f then (g,v)::r else (g,x)::iA f v r
theorem uN (f g:Str) (v:V):∀ fs:List (Str×V),(iA f v fs).lookup g=if g=f then some v else fs.lookup g
 | []=>by
  show kR g [(f,v)]=_
  by_cases h:g=f
  ·have hb:(g==f)=true:=beq_iff_eq.mpr h
   simp only [kR,hb,if_pos h]
  ·have hb:(g==f)=false:=beq_eq_false_iff_ne.mpr h
   simp only [kR,hb,if_neg h]
 | (k,x)::r=>by
  have ih:=uN f g v r
  rw [show iA f v ((k,x)::r)=(if k=f then (k,v)::r else (k,x)::iA f v r) from rfl]
  by_cases hk:k=f
  ·rw [if_pos hk]
   by_cases h:g=k
   ·have hb:(g==k)=true:=beq_iff_eq.mpr h
    simp only [kR,hb,if_pos (h.trans hk)]
   ·have hb:(g==k)=false:=beq_eq_false_iff_ne.mpr h
    simp only [kR,hb,if_neg (fun e:g=f=>h (e.trans hk.symm))]
  ·rw [if_neg hk]
   by_cases h:g=k
   ·have hb:(g==k)=true:=beq_iff_eq.mpr h
    simp only [kR,hb,if_neg (fun e:g=f=>hk (h.symm.trans e))]
   ·have hb:(g==k)=false:=beq_eq_false_iff_ne.mpr h
    simp only [kR,hb]
    exact ih
theorem tQ (f:Str) (v:V):∀ fs:List (Str×V),f∈(iA f v fs).map (·.1)∧∀ g,g∈fs.map (·.1)→g∈(iA f v fs).map (·.1)
 | []=>⟨by simp [iA],fun g h=>by simp at h⟩
 | (k,x)::r=>by
  obtain ⟨i1,i2⟩:=tQ f v r
  rw [show iA f v ((k,x)::r)=(if k=f then (k,v)::r else (k,x)::iA f v r) from rfl]
  by_cases hk:k=f
  ·rw [if_pos hk]
   subst hk
   exact ⟨by simp,fun g h=>by simpa using h⟩
  ·rw [if_neg hk]
   refine ⟨?_,fun g h=>?_⟩
   ·rw [qF]
    exact qE _ i1
   ·rw [qF] at h ⊢
    rcases qM.mp h with e | e
    ·exact qM.mpr (.inl e)
    ·exact qE _ (i2 g e)
theorem uP (f:Str) (v:V):∀ fs:List (Str×V),(iA f v fs).length≤fs.length+1
 | []=>by simp [iA]
 | (k,x)::r=>by
  have ih:=uP f v r
  rw [show iA f v ((k,x)::r)=(if k=f then (k,v)::r else (k,x)::iA f v r) from rfl]
  by_cases hk:k=f
  ·rw [if_pos hk,qb,qb];omega
  ·rw [if_neg hk,qb,qb];omega
theorem oA.some_of {v:V} {o:Option Value} (r:oA (some v) o):∃ u,o=some u∧RelV v u:=by
 cases o with
 | none=>exact (show False from r).elim
 | some u=>exact ⟨u,rfl,r⟩
theorem oA.none_of {o:Option Value} (r:oA none o):o=none:=by
 cases o with
 | none=>rfl
 | some u=>exact (show False from r).elim
theorem a6Q {v:V} {u:Value} (r:RelV v u):PySem.W.handedIn u=true:=by
 cases v with
 | non=>cases (show u=jf from r);rfl
 | bl b=>cases (show u=jQ b from r);rfl
 | int i=>obtain ⟨t,e⟩:=(show ∃ t,u=ze i t from r);cases e;rfl
 | str x=>obtain ⟨t,e⟩:=(show ∃ t,u=zd x t from r);cases e;rfl
 | byt b=>obtain ⟨t,e⟩:=(show ∃ t,u=Value.bytes b t from r);cases e;rfl
 | flt b=>obtain ⟨t,e⟩:=(show ∃ t,u=Value.float b t from r);cases e;rfl
 | ref a=>cases (show u=qi a from r);rfl
 | ty n=>cases (show u=kN n from r);rfl
section
variable {P:Program} {w:World} {H H':Hp} {h h':Heap} {a C dx:Addr} {fs fs':List (Str×V)}
theorem vL (hok:HOk P w H h) (e:H a=some (.ins C dx fs)):∃ mA,ObjM h a dx C mA∧(∀ f,oA (fs.lookup f) (mA f))∧PySem.Within mA (fs.map (·.1))∧fs.length≤1000∧H dx=some (.own a):=by
 obtain ⟨d,z,ne,ob,mA,n,r,q⟩:=(show cG P w H h a (.ins C dx fs) from hok a _ e)
 exact ⟨mA,⟨ob,n,ne⟩,r,q,z,d⟩
end
structure Cls (K:qB) (C:Addr):Prop where
 pg:kW K C Str.empty=true
 hd:zA K C=true
 po:zo K C=true
 sa:qm K (.ref C) "__setattr__" = some (some (.builtin "object.__setattr__"))
theorem Cls.get {K:qB} {C:Addr} (c:Cls K C) (f:Str):kW K C f=true:=c.pg
def lK (K:qB) (C:Addr) (f:Str):Prop:=qm K (.ref C) f=some none
theorem lK.taker {K:qB} {C:Addr} {f:Str} (n:lK K C f):PySem.W.takerIn K C f=some none:=by
 unfold PySem.W.takerIn
 rw [show qm K (.ref C) f=some none from n]
 rfl
structure Meth (K:qB) (C:Addr) (m:Str) (f:Addr):Prop where
 at_:qm K (.ref C) m=some (some (.ref f))
 fn:zK K (.ref f)=true
 kp:jC K (.ref f)=true
section
variable {X:Cx} {pins:List (Addr×Obj)} {σ:St} {H:Hp} {s:Shared} {a C dx:Addr} {fs:List (Str×V)} {f:Str} {v:V} {A:Around} {E:Value→Shared→Prop}
theorem a4o {b:Bool} {Q:Value→Shared→Prop} (I:Inv X pins σ H s) (e:H a=some (.ins C dx fs)) (c:Cls X.K C) (n:lK X.K C f) (l:fs.lookup f=some v)
  (h:∀ u s',Inv X pins σ H s'→RelV v u→Q u s'):wpAny (model X.prog X.w) A (getAttr (.ref a) f b) Q E s:=by
 obtain ⟨mA,O,r,_,_,_⟩:=vL I.hok e
 obtain ⟨u,hu,ru⟩:=oA.some_of (v:=v) (o:=mA f) (by rw [←l];exact r f)
 exact b1L I.kIn O (c.get f) c.hd n hu (a6Q ru) (h u _ (I.tok _) ru)
theorem xN {m:Str} {g:Addr} {pl:Sem Bool} {Q:Value×List Value→Shared→Prop} (I:Inv X pins σ H s) (e:H a=some (.ins C dx fs)) (c:Cls X.K C) (k:Meth X.K C m g) (l:fs.lookup m=none)
  (h:Q (.ref g,[.ref a]) s):wpAny (model X.prog X.w) A (getMethod (.ref a) m pl) Q E s:=by
 obtain ⟨mA,O,r,_,_,_⟩:=vL I.hok e
 have hn:mA m=none:=oA.none_of (by rw [←l];exact r m)
 exact a9s I.kIn O (c.get m) k.at_ k.fn hn h
theorem a3O {y:V} {u:Value} {Q:Unit→Shared→Prop} (I:Inv X pins σ H s) (e:H a=some (.ins C dx fs)) (c:Cls X.K C) (n:lK X.K C f) (hl:fs.length<1000) (ry:RelV y u)
  (h:∀ s',Inv X pins σ (upd H a (.ins C dx (iA f y fs))) s'→Q () s'):wpAny (model X.prog X.w) A (setAttr (.ref a) f u) Q E s:=by
 obtain ⟨mA,O,r,wi,_,ho⟩:=vL I.hok e
 have hz:(fs.map (·.1)).length≤sizeLine:=by rw [qQ,sizeLine_eq];omega
 refine b0A I.kIn O c.sa c.po n.taker c.hd wi hz fun h' O' sb=>h _ ?_
 have hd:∃ o,h'.get? dx=some o:=let ⟨o,_,_,e',_⟩:=O'.ns;⟨o,e'⟩
 refine I.write (x:=a) (e:=dx) (by rw [e];exact jm) (.inr ho) (fun b q hb z=>(sb.2 b hb).trans z) hd ?_
 refine ⟨by rw [aG O.ne];exact ho,?_,O.ne,O'.obj,_,O'.ns,fun g=>?_,fun g hg=>?_⟩
 ·have:=uP f y fs;omega
 ·show oA ((iA f y fs).lookup g) (if g=f then some u else mA g)
  rw [uN]
  by_cases q:g=f
  ·rw [if_pos q,if_pos q];exact ry
  ·rw [if_neg q,if_neg q];exact r g
 ·by_cases q:g=f
  ·rw [q];exact (tQ f y fs).1
  ·refine (tQ f y fs).2 g (wi g fun z=>hg ?_)
   show (if g=f then some u else mA g)=none
   rw [if_neg q];exact z
theorem Inv.made (I:Inv X pins σ H s):Inv X pins σ (upd (upd H s.heap.objs.size (.own (s.heap.objs.size+1))) (s.heap.objs.size+1) (.ins C s.heap.objs.size []))
  { s with heap:=(s.heap.push jR).push (jg C s.heap.objs.size) }:=by
 have e1:(s.heap.push jR).get? s.heap.objs.size=some jR:=qK s.heap rfl
 have e2:((s.heap.push jR).push (jg C s.heap.objs.size)).get? (s.heap.objs.size+1)=some (jg C s.heap.objs.size):=by
  have:=qK (s.heap.push jR) (o:=jg C s.heap.objs.size) rfl
  rwa [jJ] at this
 have e3:(s.heap.push jR).Ns s.heap.objs.size (fun _=>none):=⟨jR,#[],_,e1,rfl,(fun e he=>absurd he (by simp)),fun _=>rfl⟩
 have I1:=I.laid (a:=s.heap.objs.size) (o:=.own (s.heap.objs.size+1)) (h':=s.heap.push jR) (t':=s.toks) (fun b u q=>qC _ q) (qO _) ⟨_,e1⟩
 refine I1.laid (a:=s.heap.objs.size+1) (o:=.ins C s.heap.objs.size []) (t':=s.toks) (fun b u q=>qC _ q) (Nat.le_of_eq (jJ _ _)) ?_
 have ne:s.heap.objs.size≠s.heap.objs.size+1:=qU (kY _)
 refine ⟨by rw [aG ne,aJ],jA _,ne,e2,fun _=>none,(Heap.Ns1.of_empty e3).at fun o q=>qC _ q,fun _=>jm,fun y hy=>absurd rfl hy⟩
theorem b2D {prog:Program} {w:World} {env:Env} {e:Expr} {f:Str} {pos:Pos} {s:Shared} {Q:Value→Shared→Prop} (hb:attributeBase e f env (eval e env)=eval e env)
  (h:wpAny (model prog w) A (eval e env) (fun o s₁=>wpAny (model prog w) A (getAttr o f true) Q E s₁) E s):wpAny (model prog w) A (eval (.Attribute e f pos) env) Q E s:=
 Attribute_any_ h (by rw [arm_eval_Attribute,hb])
end
def b7G (K:qB) (ta:TE) (f:Str):TE:=fun σ H Q=>ta σ H fun x H1=>∃ a C dx fs v,x=.ref a∧H1 a=some (.ins C dx fs)∧Cls K C∧lK K C f∧fs.lookup f=some v∧Q v H1
def b7V (K:qB) (ta tv:TE) (f:Str):TS:=fun D σ H=>tv σ H fun y H1=>ta σ H1 fun x H2=>∃ a C dx fs,x=.ref a∧H2 a=some (.ins C dx fs)∧Cls K C∧lK K C f∧fs.length<1000 ∧
 D.nx σ (upd H2 a (.ins C dx (iA f y fs)))
section
variable {X:Cx} {o e value:Expr} {f:Str} {pos pos' tpos:Pos} {ta tv:TE}
theorem iB (he:PE X e ta) (hb:attributeBase e f X.env (eval e X.env)=eval e X.env):PE X (.Attribute e f pos) (b7G X.K ta f):=by
 intro pins s σ H Q I h
 refine b2D hb (thn (he pins s σ H _ I h) fun u s1 ⟨x,H1,I1,rx,a,C,dx,fs,v,ex,ea,c,n,l,q⟩=>?_)
 subst ex
 obtain rfl:u=qi a:=rx
 exact a4o I1 ea c n l fun u' s2 I2 ru=>⟨v,H1,I2,ru,q⟩
theorem a1s (ha:PE X o ta) (hv:PE X value tv) (hs:swapsWith value (some (.Attribute o f pos')) pos.line X.env=pure false):PS X (.Assign [.Attribute o f pos'] value pos) (b7V X.K ta tv f):=by
 intro pins s σ H D I h
 refine plainObj_wpAny_Assign_Attribute (thn (hv pins s σ H _ I h) fun u s1 ⟨y,H1,I1,ry,q⟩=>thn (ha pins s1 σ H1 _ I1 q) fun ov s2 ⟨x,H2,I2,rx,a,C,dx,fs,ex,ea,c,n,l,q2⟩=>?_) hs
 subst ex
 obtain rfl:ov=qi a:=rx
 exact a3O I2 ea c n l ry fun s3 I3=>⟨σ,_,I3,q2⟩
end
section
variable {X:Cx} {pins:List (Addr×Obj)} {σ:St} {H:Hp} {s:Shared} {A:Around} {E:Value→Shared→Prop} {Q:Value→Shared→Prop} {c:Value} {b:Bool}
inductive TyOf (K:qB) (H:Hp):V→Value→Prop where
 | non:TyOf K H .non (.type "NoneType")
 | bl (x:Bool):TyOf K H (.bl x) (.type "bool")
 | int (i:Int):TyOf K H (.int i) (.type "int")
 | str (x:Str):TyOf K H (.str x) (.type "str")
 | flt (x:UInt64):TyOf K H (.flt x) (.type "float")
 | lst {a:Addr} {xs:List V} (e:H a=some (.lst xs)):TyOf K H (.ref a) (.type "list")
 | frz {a:Addr} {o:Obj} {xs:List V} (e:H a=some (.frz o (.lst xs))):TyOf K H (.ref a) (.type "list")
 | tup {a:Addr} {xs:List V} (e:H a=some (.tup xs)):TyOf K H (.ref a) (.type "tuple")
 | dK {a:Addr} {kvs:List (Key×V)} (e:H a=some (.dK kvs)):TyOf K H (.ref a) (.type "dict")
 | dT {a:Addr} {kvs:List (List Key×V)} (e:H a=some (.dT kvs)):TyOf K H (.ref a) (.type "dict")
 | ins {a C dx:Addr} {fs:List (Str×V)} (e:H a=some (.ins C dx fs)) (cl:Cls K C) (ha:qm K (.ref C) "__class__" = some (some (.builtin "object.__class__")))
   (hn:PySem.W.specialIn K (.builtin "object.__class__") "__get__" = some (some (.builtin "getset_descriptor.__get__"))) (htk:PySem.W.takesIn K (.builtin "object.__class__")=some true)
   (hm:PySem.W.mroIn K C (.type "object")=some true):TyOf K H (.ref a) (.ref C)
theorem oJ {x:V} {u t:Value} (I:Inv X pins σ H s) (rx:RelV x u) (ty:TyOf X.K H x t) (e:kT X.K t c=some b) (h:∀ tk,Q (.bool b) { s with toks:=tk }) :
  wpAny (model X.prog X.w) A (call (.builtin "isinstance") [u,c]) Q E s:=by
 cases ty with
 | non=>cases (show u=jf from rx);exact qy PySem.W.kitx_none I.kIn jm e (fun z=>nomatch z) h
 | bl y=>cases (show u=jQ y from rx);exact qy PySem.W.kitx_bool I.kIn jm e (fun z=>nomatch z) h
 | int i=>obtain ⟨t,q⟩:=(show ∃ t,u=ze i t from rx);cases q;exact qy PySem.W.kitx_int I.kIn jm e (fun z=>nomatch z) h
 | str y=>obtain ⟨t,q⟩:=(show ∃ t,u=zd y t from rx);cases q;exact qy PySem.W.kitx_str I.kIn jm e (fun z=>nomatch z) h
 | flt y=>obtain ⟨t,q⟩:=(show ∃ t,u=Value.float y t from rx);cases q;exact qy PySem.W.kitx_float I.kIn jm e (fun z=>nomatch z) h
 | @lst a xs ea=>
  cases (show u=qi a from rx)
  obtain ⟨_,_,n,_,h1⟩:=(show cG X.prog X.w H s.heap a (.lst xs) from I.hok a _ ea)
  exact qy zq I.kIn ⟨_,h1,rfl⟩ e (fun z=>nomatch z) h
 | @frz a ob xs ea=>
  cases (show u=qi a from rx)
  obtain ⟨_,_,_,n,_,h1⟩:=(show cG X.prog X.w H s.heap a (.frz ob (.lst xs)) from I.hok a _ ea)
  exact qy zq I.kIn ⟨_,h1,rfl⟩ e (fun z=>nomatch z) h
 | @tup a xs ea=>
  cases (show u=qi a from rx)
  obtain ⟨_,_,_,p⟩:=(show cG X.prog X.w H s.heap a (.tup xs) from I.hok a _ ea)
  obtain ⟨o,h1,h2,_⟩:=p
  exact qy PySem.W.kitx_tuple I.kIn ⟨o,h1,h2⟩ e (fun z=>nomatch z) h
 | @dK a kvs ea=>
  cases (show u=qi a from rx)
  obtain ⟨_,_,vs,_,p⟩:=(show cG X.prog X.w H s.heap a (.dK kvs) from I.hok a _ ea)
  obtain ⟨o,es,ep,h1,h2,_⟩:=p
  exact qy zr I.kIn ⟨o,h1,h2.1⟩ e (fun z=>nomatch z) h
 | @dT a kvs ea=>
  cases (show u=qi a from rx)
  obtain ⟨_,_,xs,_,o,es,ep,h1,h2,_⟩:=(show cG X.prog X.w H s.heap a (.dT kvs) from I.hok a _ ea)
  exact qy zr I.kIn ⟨o,h1,h2.1⟩ e (fun z=>nomatch z) h
 | @ins a C dx fs ea cl ha hn htk hm=>
  cases (show u=qi a from rx)
  obtain ⟨mA,O,_⟩:=vL I.hok ea
  obtain ⟨od,J,_⟩:=O.look
  exact qy (PySem.W.kitx_own (cl.get _) cl.hd ha hn htk hm) I.kIn J e (fun z=>nomatch z) h
end
structure Room (k:Nat) (A:Around):Prop where
 hd:A.handled=none
 dp:A.depth+3*k+5<recursionLimit
 un:A.units+16*k+200<cLine
theorem Room.mono {j k:Nat} {A:Around} (r:Room k A) (h:j≤k):Room j A:=⟨r.hd,by have:=r.dp;omega,by have:=r.un;omega⟩
theorem Room.deeper {k:Nat} {A:Around} (r:Room (k+1) A) (env:Env):Room k (A.deeper env):=
 ⟨r.hd,by have:=r.dp;show A.depth+1+3*k+5<_;omega,by have:=r.un;show A.units+3+16*k+200<_;omega⟩
theorem a4f {A:Around} {C:Addr} {us:List Value} {kw:List (Str×Value)}:(A.under (.builtin "type.__call__" ⟨.ref C::us,kw⟩)).depth=A.depth+1:=by
 first | rfl | simp [Around.under,Code.weight,Code.isCreation,Code.isGuard,Code.isCaller,Code.frames,Code.isFrame,guardIds]
theorem a4e {A:Around} {C:Addr} {us:List Value} {kw:List (Str×Value)}:(A.under (.builtin "type.__call__" ⟨.ref C::us,kw⟩)).units=A.units+1:=by
 first | rfl | simp [Around.under,Code.cUnits,Code.frames,Code.isFrame]
theorem Room.make {k:Nat} {A:Around} (r:Room (k+1) A) (C:Addr) (us:List Value) (kw:List (Str×Value)):Room k (A.under (.builtin "type.__call__" ⟨.ref C::us,kw⟩)):=
 ⟨r.hd,by have:=r.dp;rw [a4f];omega,by have:=r.un;rw [a4e];omega⟩
theorem Room.depth {k:Nat} {A:Around} (r:Room k A):A.depth<recursionLimit:=by have:=r.dp;omega
theorem Room.units {k:Nat} {A:Around} (r:Room k A):A.units+64<cLine:=by have:=r.un;omega
def b0s:TA:=fun _ H Q=>Q [] H
def a7K (ta:TE) (tr:TA):TA:=fun σ H Q=>ta σ H fun x H1=>tr σ H1 fun xs H2=>Q (x::xs) H2
section
variable {X:Cx} {e:Expr} {es:List Expr} {te:TE} {t:TA} {pos:Pos}
theorem dR:PA X [] b0s:=fun _ _ _ _ H Q I h=>kB ⟨[],H,I,.nil,h⟩
theorem cQ (ha:PE X e te) (hr:PA X es t) (hs:starEach (e::es) X.env=(false,eval e X.env)::starEach es X.env:=by rfl):PA X (e::es) (a7K te t):=by
 intro pos pins s σ H Q I h
 rw [hs]
 show wpAny _ _ (spliced ((false,eval e X.env)::backTo pos (starEach es X.env))) _ _ s
 refine kU (thn (ha pins s σ H _ I h) fun u s1 ⟨x,H1,I1,r1,q1⟩=>?_)
 exact thn (hr pos pins s1 σ H1 _ I1 q1) fun us s2 ⟨xs,H2,I2,r2,q2⟩=>⟨x::xs,H2,I2,.cons r1 r2,q2⟩
def b6c (t:TA):TE:=fun σ H Q=>t σ H fun xs H1=>xs.length≤sizeLine∧∀ p,H1 p=none→Q (.ref p) (upd H1 p (.tup xs))
def b7D (t:TA):TE:=fun σ H Q=>t σ H fun xs H1=>xs.length≤sizeLine∧∀ p,H1 p=none→Q (.ref p) (upd H1 p (.lst xs))
theorem a3Y {x1} (h:PA X es t):PE X (.Tuple es x1 pos) (b6c t):=by
 intro pins s σ H Q I hq
 refine wpAny_Tuple_spliced (thn (h pos pins s σ H _ I hq) fun us s1 ⟨xs,H1,I1,r,z,q⟩=>⟨by rw [←r.length];exact z,?_⟩)
 have hf:H1 s1.heap.objs.size=none:=I1.hok.fresh (qO _)
 refine ⟨.ref s1.heap.objs.size,upd H1 s1.heap.objs.size (.tup xs),I1.laid (t':=s1.toks) (fun b u e=>qC _ e) (qO _) ?_,rfl,q _ hf⟩
 exact ⟨z,us,r,⟨_,qK _ rfl,rfl,_,rfl⟩⟩
theorem pF (h:PA X es t):PE X (.List es pos) (b7D t):=by
 intro pins s σ H Q I hq
 refine wpAny_List_spliced (thn (h pos pins s σ H _ I hq) fun us s1 ⟨xs,H1,I1,r,z,q⟩=>⟨by rw [←r.length];exact z,?_⟩)
 have hf:H1 s1.heap.objs.size=none:=I1.hok.fresh (qO _)
 refine ⟨.ref s1.heap.objs.size,upd H1 s1.heap.objs.size (.lst xs),I1.laid (t':=s1.toks) (fun b u e=>qC _ e) (qO _) ?_,rfl,q _ hf⟩
 exact ⟨z,us,0,r,qK _ rfl⟩
end
abbrev Sp:=List V→Hp→VK→XK→Prop
abbrev CXT:=List Env→Hp→Shared→XK→Value→Shared→Prop
structure Env0 (P:Program) (w:World) (K:qB) (mg:Str→Option Value) (base:Heap) (A:Around) (outer:List Env) (s:Shared) (H:Hp):Prop where
 frames:A.frames=some outer
 mod:Mod K mg base
 bs:∀ b o,base.get? b=some o→s.heap.get? b=some o∧H b=none
 bsz:base.objs.size≤s.heap.objs.size
 funs:s.heap.FunFrames base outer
 frf:∀ b∈frs outer,H b=none
 hok:HOk P w H s.heap
 bare:AllBare s.gens
def CE (outer:List Env) (P:Program) (w:World) (H:Hp) (s:Shared) (Q:VK) (u:Value) (s':Shared):Prop:=
 ∃ v H',s'.os=s.os∧AllBare s'.gens∧Un (frs outer) [] H H' s.heap s'.heap∧HOk P w H' s'.heap∧RelV v u∧Q v H'
def CR (CX:CXT) (outer:List Env) (P:Program) (w:World) (H:Hp) (s:Shared) (Q:VK) (E:XK) (r:Result) (s':Shared):Prop:=
 match r with
 | .ok (.ret u)=>CE outer P w H s Q u s'
 | .ok _=>False
 | .error e=>CX outer H s E e s'
structure FnOk (P:Program) (w:World) (K:qB) (mg:Str→Option Value) (base:Heap) (CX:CXT) (k:Nat) (f:Addr) (fd:FuncData) (ps:List Str) (sp:Sp):Prop where
 len:∀ vs H Q E,sp vs H Q E→vs.length=ps.length
 run:∀ (A:Around) (outer:List Env) (s:Shared) (H:Hp) (args:Args) (us:List Value) (vs:List V) (Q:VK) (E:XK),Room k A→Env0 P w K mg base A outer s H→BindsTo s fd args (ps.zip us)→aX vs us→sp vs H Q E →
  codeAny (model P w) A (.call (.ref f) args) (CR CX outer P w H s Q E) s
theorem Env0.make {P:Program} {w:World} {K:qB} {mg:Str→Option Value} {base:Heap} {A:Around} {outer:List Env} {s:Shared} {H:Hp} (e:Env0 P w K mg base A outer s H) (C:Addr) (us:List Value) (kw:List (Str×Value)) :
  Env0 P w K mg base (A.under (.builtin "type.__call__" ⟨.ref C::us,kw⟩)) outer s H:=⟨by first | exact e.frames | (simpa [Around.under,Code.envs,Code.isFrame,pushEnvs] using e.frames),e.mod,e.bs,e.bsz,e.funs,e.frf,e.hok,e.bare⟩
section
variable {X:Cx} {pins:List (Addr×Obj)} {σ:St} {H:Hp} {s s':Shared}
theorem Inv.env0 (I:Inv X pins σ H s):Env0 X.prog X.w X.K X.mg X.base X.A X.stack s H:=
 ⟨I.ok.frames,I.ok.mod,I.bs,qj I.ok.bsz I.sz,I.stack,I.stkFree,I.hok,I.bare⟩
theorem Inv.after {Q:VK} {u:Value} (I:Inv X pins σ H s) (h:CE X.stack X.prog X.w H s Q u s'):EP X pins σ Q u s':=by
 obtain ⟨v,H',os,bare,un,hok,r,q⟩:=h
 obtain ⟨hh,g,d,t,os'⟩:=s'
 obtain rfl:os'=s.os:=os
 exact ⟨v,H',I.call (h':=hh) (g':=g) (d':=d) (t':=t) (ch:=[]) un hok bare (fun b z=>absurd z (by simp)),r,q⟩
end
def b6h (sp:Sp) (dvs:List V) (E:XK) (t:TA):TE:=fun σ H Q=>t σ H fun vs H1=>sp (vs++dvs) H1 Q E
def a7J (C:Addr) (sp:Sp) (dvs:List V) (E:XK) (t:TA):TE:=fun σ H Q=>t σ H fun vs H1=>∀ x dx,H1 x=none→H1 dx=none→dx≠x →
 sp (.ref x::(vs++dvs)) (upd (upd H1 dx (.own x)) x (.ins C dx [])) (fun v H2=>v=.non∧Q (.ref x) H2) E
def Binds (K:qB) (fd:FuncData) (ps:List Str) (ds:List Value):Prop:=
 ∀ (s:Shared) (us:List Value),K.In s.heap→(us++ds).length=ps.length→BindsTo s fd ⟨us,[]⟩ (ps.zip (us++ds))
theorem Binds.all {K:qB} {fd:FuncData} {ps:List Str} (h:∀ us:List Value,us.length=ps.length→bindArgs fd ⟨us,[]⟩=pure (ps.zip us)):Binds K fd ps []:=fun s us _ hl=>by
 rw [jx] at hl ⊢
 exact .of_eq (h us hl)
def yF (CX:CXT) (X:Cx) (E:XK):Prop:=∀ (pins:List (Addr×Obj)) (σ:St) (H:Hp) (s:Shared) (e:Value) (s':Shared),Inv X pins σ H s→CX X.stack H s E e s'→X.xe e s'
section
variable {X:Cx} {CX:CXT} {k:Nat} {f C:Addr} {fd:FuncData} {ps:List Str} {sp:Sp} {dvs:List V} {ds:List Value} {E:XK} {x m:Str} {p pos apos:Pos} {e o:Expr} {es:List Expr} {ta:TE} {t:TA}
theorem b3H {pins:List (Addr×Obj)} {σ:St} {H:Hp} {s:Shared} {Q:VK} {us:List Value} {vs:List V} (F:FnOk X.prog X.w X.K X.mg X.base CX k f fd ps sp) (hr:Room k X.A) (hb:Binds X.K fd ps ds) (hd:aX dvs ds) (hx:yF CX X E)
  (I:Inv X pins σ H s) (r:aX vs us) (h:sp (vs++dvs) H Q E):wpAny (model X.prog X.w) X.A (call (.ref f) us) (EP X pins σ Q) X.xe s:=by
 have r2:aX (vs++dvs) (us++ds):=r.append hd
 have hl:(us++ds).length=ps.length:=by rw [←r2.length];exact F.len _ _ _ _ h
 refine wpAny_call (codeAny_mono (F.run X.A X.stack s H ⟨us,[]⟩ (us++ds) (vs++dvs) Q E hr I.env0 (hb s us I.kIn hl) r2 h) fun r s' hq=>?_)
 cases r with
 | error e=>exact hx pins σ H s e s' I hq
 | ok fl=>
  cases fl with
  | ret u=>exact I.after hq
  | next=>exact qk hq
  | brk=>exact qk hq
  | cont=>exact qk hq
theorem b0R (F:FnOk X.prog X.w X.K X.mg X.base CX k f fd ps sp) (hr:Room k X.A) (hg:Gl X x) (hm:X.mg x=some (.ref f)) (hk:jC X.K (.ref f)=true) (hb:Binds X.K fd ps ds) (hd:aX dvs ds) (hx:yF CX X E)
  (ha:PA X (e::es) t) (hdb:(x==("__debug__" : Str))=false:=by decide) (he:starEach (e::es) X.env=(false,eval e X.env)::starEach es X.env:=by rfl) (hpl:(backTo pos (starEach es X.env)).any (·.1)=false:=by rfl) :
  PE X (.Call (.Name x p) (e::es) [] pos) (b6h sp dvs E t):=by
 intro pins s σ H Q I h
 refine wpAny_Call_Name_kw (iT I hg hm ?_ hdb)
 refine kF (h₀:=X.base) I.ok.mod.kin hk (thn (ha pos pins s σ H _ I h) fun us s1 ⟨vs,H1,I1,r,q⟩=>⟨I1.kIn,?_⟩) he hpl
 exact b3H F hr hb hd hx I1 r q
structure Mk (K:qB) (C f:Addr):Prop where
 makes:PySem.W.makesIn K C=true
 init:qm K (.ref C) "__init__" = some (some (.ref f))
 fn:zK K (.ref f)=true
 kp:jC K (.ref C)=true
theorem a7W {pins:List (Addr×Obj)} {σ:St} {H:Hp} {s:Shared} {Q:VK} {us:List Value} {vs:List V} (M:Mk X.K C f) (F:FnOk X.prog X.w X.K X.mg X.base CX k f fd ps sp) (hr:Room (k+1) X.A) (hb:Binds X.K fd ps ds) (hd:aX dvs ds)
  (hx:yF CX X E) (I:Inv X pins σ H s) (r:aX vs us)
  (h:∀ x dx,H x=none→H dx=none→dx≠x→sp (.ref x::(vs++dvs)) (upd (upd H dx (.own x)) x (.ins C dx [])) (fun v H2=>v=.non∧Q (.ref x) H2) E) :
  wpAny (model X.prog X.w) X.A (call (.ref C) us) (EP X pins σ Q) X.xe s:=by
 have hq:=h (s.heap.objs.size+1) s.heap.objs.size (I.hok.fresh (ju _)) (I.hok.fresh (qO _)) (qU (kY _))
 have I2:=Inv.made (C:=C) I
 have r2:aX (V.ref (s.heap.objs.size+1)::(vs++dvs)) (qi (s.heap.objs.size+1)::(us++ds)):=.cons rfl (r.append hd)
 have hl:(qi (s.heap.objs.size+1)::us++ds).length=ps.length:=by
  have e:=r2.length
  rw [F.len _ _ _ _ hq] at e
  exact e.symm
 refine wpAny_call (a8X (f:=f) I.kIn M.makes M.init (beq_iff_eq.mp M.fn) (codeAny_mono (F.run _ X.stack _ _ ⟨qi (s.heap.objs.size+1)::us,[]⟩ (qi (s.heap.objs.size+1)::(us++ds)) _ _ E (hr.make C us [])
  (I2.env0.make C us []) (hb _ (qi (s.heap.objs.size+1)::us) I2.kIn hl) r2 hq) fun r s' hq'=>?_))
 cases r with
 | error e=>exact hx pins σ _ _ e s' I2 hq'
 | ok fl=>
  cases fl with
  | ret u=>
   obtain ⟨v,H',I3,rv,ev,q3⟩:=I2.after hq'
   subst ev
   exact ⟨rv,⟨V.ref (s.heap.objs.size+1),H',I3,rfl,q3⟩⟩
  | next=>exact qk hq'
  | brk=>exact qk hq'
  | cont=>exact qk hq'
theorem a8q (M:Mk X.K C f) (F:FnOk X.prog X.w X.K X.mg X.base CX k f fd ps sp) (hr:Room (k+1) X.A) (hg:Gl X x) (hm:X.mg x=some (.ref C)) (hb:Binds X.K fd ps ds) (hd:aX dvs ds) (hx:yF CX X E)
  (hdb:(x==("__debug__" : Str))=false:=by decide):PE X (.Call (.Name x p) [] [] pos) (a7J C sp dvs E b0s):=by
 intro pins s σ H Q I h
 refine wpAny_Call_Name_kw (iT I hg hm ?_ hdb)
 exact PySem.W.callWith_K0 I.kIn M.kp (a7W (us:=[]) M F hr hb hd hx I .nil h)
end
section
variable {X:Cx} {CX:CXT} {k:Nat} {f C:Addr} {fd:FuncData} {ps ks:List Str} {sp:Sp} {E:XK} {x m:Str} {p pos apos kpos:Pos} {e o:Expr} {es:List Expr} {kws:List Keyword} {te ta:TE} {t tk:TA} {nm:Option Str}
variable {g:List Value→List Value→List Value} {gV:List V→List V→List V}
end
structure FnScope (N P:List Str) (sc:Scope):Prop where
 kind:sc.kind=.function
 co:sc.isCoroutine=false
 gen:sc.isGenerator=false
 nd:N.Nodup
 pre:N.take P.length=P
 par:∀ x∈P,sc.names.lookup x=some .local∨sc.names.lookup x=some .cell
 nofree:∀ y∈sc.names,y.2≠.free
theorem a0R {kindOf:Str→Option NameKind} {x:Str}:∀ {binds:List (Str×Value)} {m:Str→Option Value},(∀ v,(x,v)∉binds)→bindL kindOf binds m x=m x
 | [],_,_=>rfl
 | (n,v)::r,m,h=>by
  unfold bindL
  rw [a0R fun w hw=>h w (qE _ hw)]
  split
  ·have:x≠n:=by rintro rfl;exact h v qd
   simp [this]
  ·rfl
theorem a0T {kindOf:Str→Option NameKind} {x:Str}:∀ {binds:List (Str×Value)} {m:Str→Option Value},(∀ v,(x,v)∉binds)→bindC kindOf binds m x=m x
 | [],_,_=>rfl
 | (n,v)::r,m,h=>by
  unfold bindC
  rw [a0T fun w hw=>h w (qE _ hw)]
  split
  ·rfl
  ·have:x≠n:=by rintro rfl;exact h v qd
   simp [this]
theorem a0S {kindOf:Str→Option NameKind} {x:Str} {v:Value}:∀ {P:List Str} {vs:List Value} {i:Nat} {m:Str→Option Value},P.Nodup→P[i]?=some x→vs[i]?=some v→kindOf x=some .local →
  bindL kindOf (P.zip vs) m x=some v
 | [],_,_,_,_,h,_,_=>by simp at h
 | _::_,[],_,_,_,_,h,_=>by simp at h
 | p::P,w::vs,0,m,nd,h1,h2,hk=>by
  simp at h1 h2;subst h1;subst h2
  show bindL kindOf ((p,w)::P.zip vs) m p=_
  unfold bindL
  rw [a0R fun v hv=>(jv.mp nd).1 (kj hv).1,if_pos hk]
  simp
 | p::P,w::vs,i+1,m,nd,h1,h2,hk=>by
  show bindL kindOf ((p,w)::P.zip vs) m x=_
  unfold bindL
  exact a0S (i:=i) (jv.mp nd).2 (by simpa using h1) (by simpa using h2) hk
theorem a0U {kindOf:Str→Option NameKind} {x:Str} {v:Value}:∀ {P:List Str} {vs:List Value} {i:Nat} {m:Str→Option Value},P.Nodup→P[i]?=some x→vs[i]?=some v→kindOf x≠some .local →
  bindC kindOf (P.zip vs) m x=some v
 | [],_,_,_,_,h,_,_=>by simp at h
 | _::_,[],_,_,_,_,h,_=>by simp at h
 | p::P,w::vs,0,m,nd,h1,h2,hk=>by
  simp at h1 h2;subst h1;subst h2
  show bindC kindOf ((p,w)::P.zip vs) m p=_
  unfold bindC
  rw [a0T fun v hv=>(jv.mp nd).1 (kj hv).1,if_neg hk]
  simp
 | p::P,w::vs,i+1,m,nd,h1,h2,hk=>by
  show bindC kindOf ((p,w)::P.zip vs) m x=_
  unfold bindC
  exact a0U (i:=i) (jv.mp nd).2 (by simpa using h1) (by simpa using h2) hk
def start (N:List Str) (vs:List V):St:=vs.map some++qV (N.length - vs.length) none
def tZ (CX:CXT) (P:Program) (w:World) (K:qB) (mg:Str→Option Value) (base:Heap) (N:List Str) (qual:Str) (scope:Scope) (f:Addr) (cd:Value) (A:Around) (outer:List Env) (s:Shared) (H:Hp) (E:XK):Cx where
 prog:=P
 w:=w
 K:=K
 mg:=mg
 base:=base
 A:=A.deeper (envOfC qual scope s.heap.objs.size f cd)
 N:=N
 s₀:=s
 H₀:=H
 env:=envOfC qual scope s.heap.objs.size f cd
 outer:=outer
 stack:=envOfC qual scope s.heap.objs.size f cd::outer
 ex:=[]
 calm:=true
 fn:=fun _=>true
 pn:=[]
 xe:=fun e s'=>wpAny (model P w) (A.deeper (envOfC qual scope s.heap.objs.size f cd)) (leaving (envOfC qual scope s.heap.objs.size f cd) e) (fun _ s''=>CX outer H s E e s'') (fun e' s''=>CX outer H s E e' s'') s'
theorem rR {sc:Scope} {n:Nat} {x:Str} (h:sc.names.lookup x=some .cell):∃ c,(cellsFrom n sc.names []).lookup x=some c:=by
 have q:=kO sc.names n [] (.inl h)
 exact Option.isSome_iff_exists.mp q
theorem tR {CX:CXT} {P:Program} {w:World} {K:qB} {mg:Str→Option Value} {base:Heap} {N ps:List Str} {qual:Str} {scope:Scope} {f:Addr} {cd:Value} {A:Around} {outer:List Env} {s s1:Shared} {H:Hp} {E:XK} {us:List Value} {vs:List V}
  (S:FnScope N ps scope) (hd:A.handled=none) (e0:Env0 P w K mg base A outer s H) (hl:vs.length=ps.length) (r:aX vs us)
  (x:InCallC s s.heap.objs.size (bindL (envOfC qual scope s.heap.objs.size f cd).kindOf (ps.zip us) fun _=>none) (cellsFrom (s.heap.objs.size+1) scope.names []) (bindC (envOfC qual scope s.heap.objs.size f cd).kindOf (ps.zip us) fun _=>none) s1) :
  Inv (tZ CX P w K mg base N qual scope f cd A outer s H E) [] (start N vs) H s1:=by
 have hpl:ps.length≤N.length:=by have:=congrArg List.length S.pre;rw [kZ] at this;omega
 obtain ⟨h1,tk,rfl,hk⟩:=x.done
 have noA:∀ b:Addr,b∉(tZ CX P w K mg base N qual scope f cd A outer s H E).ex:=fun b z=>absurd (show b∈([]:List Addr) from z) (by simp)
 refine ⟨⟨e0.mod,S.kind,rfl,rfl,qO _,fun y z c h1 h2=>?_,fun y hy=>?_,fun y c _ h=>?_,fun _=>hd,Around.frames_deeper e0.frames,.inr ⟨rfl,rfl⟩,fun b z=>absurd z (noA b),e0.bs,e0.bsz,fun b _ _=>noA b,fun b z=>absurd z (noA b),e0.funs,e0.frf⟩,
  rfl,e0.bare,Un.kept hk,⟨_,x.toInCall.ns,fun i y v h1 h2 h3=>?_⟩,fun y c h=>⟨_,x.cell y c h⟩,e0.hok.fresh (qO _),fun y c h=>?_,fun p hp=>absurd (show p∈([]:List (Addr×Obj)) from hp) (by simp),e0.hok.kept hk,?_⟩
 ·exact name_of_addr x.apart (qZ h1) (qZ h2)
 ·have hy:scope.names.lookup y=some .cell∨scope.names.lookup y=some .free:=hy
  rcases hy with hy | hy
  ·exact rR hy
  ·exact absurd rfl (S.nofree _ (qZ hy))
 ·exact qv (x.above y c (qZ h))
 ·have hi:i<vs.length:=by
   unfold start at h2
   by_cases hi:i<vs.length
   ·exact hi
   ·rw [qw (by simpa using hi)] at h2
    rw [jL] at h2
    split at h2<;>cases h2
  have ha:vs[i]?=some v:=by
   unfold start at h2
   rw [qc (by simpa using hi),qJ] at h2
   cases e:vs[i]? with
   | none=>rw [e] at h2;cases h2
   | some a=>rw [e] at h2;cases h2;rfl
  obtain ⟨u,hu,rv⟩:=r.get ha
  have hp:ps[i]?=some y:=by
   rw [←S.pre,kD (by omega)];exact h1
  have ndP:ps.Nodup:=by rw [←S.pre];exact S.nd.sublist (List.take_sublist _ _)
  refine ⟨u,rv,?_⟩
  rcases S.par y (List.mem_of_getElem? hp) with k | k
  ·exact .inl ⟨k,a0S ndP hp hu k⟩
  ·obtain ⟨c,e⟩:=rR (n:=s.heap.objs.size+1) k
   refine .inr ⟨.inl k,c,e,?_⟩
   have q:=x.cell y c e
   rw [a0U ndP hp hu (by show scope.names.lookup y≠_;rw [k];decide)] at q
   exact q
 ·exact e0.hok.fresh (qv (x.above y c (qZ h)))
 ·unfold start
  show _=N.length
  rw [jU,qQ,List.length_replicate]
  omega
theorem a3e {CX:CXT} {P:Program} {w:World} {K:qB} {mg:Str→Option Value} {base:Heap} {k:Nat} {f:Addr} {name qual:Str} {params:Arguments} {body:List Stmt} {scope:Scope} {dV kV doc pm cdv ct oc:Value} {an od:Option Addr}
  {osl:Array (Option Value)} {N ps:List Str} {sp:Sp} (lk:K.lookup f=some ⟨oc,od,.func (jE name qual params body scope dV kV doc pm an cdv ct),osl⟩) (hcd:jz K cdv qual=true) (S:FnScope N ps scope)
  (len:∀ vs H Q E,sp vs H Q E→vs.length=ps.length)
  (hbody:∀ (A:Around) (outer:List Env) (s:Shared) (H:Hp) (vs:List V) (Q:VK) (E:XK),Room k (A.deeper (envOfC qual scope s.heap.objs.size f cdv))→sp vs H Q E →
   ∃ t,PSs (tZ CX P w K mg base N qual scope f cdv A outer s H E) body t∧t { nx:=fun _ H'=>Q .non H',rt:=Q } (start N vs) H) :
  FnOk P w K mg base CX (k+1) f (jE name qual params body scope dV kV doc pm an cdv ct) ps sp:=by
 refine ⟨len,fun A outer s H args us vs Q E hr e0 hb r hsp=>?_⟩
 have hl:=len _ _ _ _ hsp
 have KX:K.In s.heap:=e0.mod.kin.keeps fun b o e=>(e0.bs b o e).1
 have lim:s.heap.NoLimit:=e0.mod.nolimit.keeps fun b o e=>(e0.bs b o e).1
 have hkind:∀ y∈ps.zip us,scope.names.lookup y.1=some .local∨(scope.names.lookup y.1=some .cell∧((cellsFrom (s.heap.objs.size+1) scope.names []).lookup y.1).isSome=true):=fun ⟨n,v⟩ hy=>by
  rcases S.par n (kj hy).1 with q | q
  ·exact .inl q
  ·exact .inr ⟨q,kO _ _ _ (.inl q)⟩
 refine codeAny_call_function hr.depth (KX _ _ lk) rfl S.co S.gen rfl (zh KX hcd) (hb _ _ _ _ ?_)
 refine wpAny_newFunctionEnv_cells S.kind hkind fun env he s1 x=>?_
 subst he
 refine ⟨lim.keeps x.toInCall.keep,codeAny_func ?_⟩
 obtain ⟨t,ht,hq⟩:=hbody A outer s H vs Q E (hr.deeper _) hsp
 have I:Inv (tZ CX P w K mg base N qual scope f cdv A outer s H E) [] (start N vs) H s1:=tR S hr.hd e0 hl r x
 refine wpAny_mono (ht [] s1 (start N vs) H _ I hq) (fun fl s' hs=>?_) fun e s' hs=>hs
 have fin:∀ {σ':St} {H':Hp} {v:V} {u:Value},Inv (tZ CX P w K mg base N qual scope f cdv A outer s H E) [] σ' H' s'→RelV v u→Q v H'→CE outer P w H s Q u s':=
  fun {σ' H' v u} J rv q=>⟨v,H',J.os,J.bare,J.base,J.hok,rv,q⟩
 cases fl with
 | ret u=>
  obtain ⟨v,σ',H',J,rv,q⟩:=hs
  exact fin J rv q
 | next=>
  obtain ⟨σ',H',J,q⟩:=hs
  exact fin (v:=V.non) (u:=jf) J rfl q
 | brk=>
  obtain ⟨_,_,_,q⟩:=hs
  exact qk q
 | cont=>
  obtain ⟨_,_,_,q⟩:=hs
  exact qk q
section
variable {X:Cx} {x:Str} {p pos:Pos} {e:Expr} {es:List Expr} {t:TA} {id T:String} {r:List V→Hp→VK→Prop}
def tCB (r:List V→Hp→VK→Prop) (t:TA):TE:=fun σ H Q=>t σ H fun vs H1=>r vs H1 Q
theorem lO (hc:gM X (.builtin id) r) (hg:Gl X x) (hm:X.mg x=none) (hv:bootBuiltins x=some (.builtin id)) (ha:PA X (e::es) t) (hn:x ≠ "__name__":=by decide) (hdb:(x==("__debug__" : Str))=false:=by decide)
  (he:starEach (e::es) X.env=(false,eval e X.env)::starEach es X.env:=by rfl) (hpl:(backTo pos (starEach es X.env)).any (·.1)=false:=by rfl):PE X (.Call (.Name x p) (e::es) [] pos) (tCB r t):=by
 intro pins s σ H Q I h
 refine wpAny_Call_Name_kw (tP I hg hm hv ?_ hn hdb)
 exact PyProof.Rows.callWith_builtin1 (thn (ha pos pins s σ H _ I h) fun us s1 ⟨vs,H1,I1,r1,q1⟩=>hc pins s1 σ H1 vs us Q I1 r1 q1) he hpl
theorem a6y (hc:gM X (.type T) r) (hg:Gl X x) (hm:X.mg x=none) (hv:bootBuiltins x=some (.type T)) (ha:PA X (e::es) t) (hn:x ≠ "__name__":=by decide) (hdb:(x==("__debug__" : Str))=false:=by decide)
  (he:starEach (e::es) X.env=(false,eval e X.env)::starEach es X.env:=by rfl) (hpl:(backTo pos (starEach es X.env)).any (·.1)=false:=by rfl):PE X (.Call (.Name x p) (e::es) [] pos) (tCB r t):=by
 intro pins s σ H Q I h
 refine wpAny_Call_Name_kw (tP I hg hm hv ?_ hn hdb)
 exact PyProof.Rows.callWith_type1 (thn (ha pos pins s σ H _ I h) fun us s1 ⟨vs,H1,I1,r1,q1⟩=>hc pins s1 σ H1 vs us Q I1 r1 q1) he hpl
end
end L2
namespace HT
open PySem PyProof.Rows
section
open PySem.SeqAt
open PySem.AutoSeq1 (wpAny_loadPart')
open PySem.MeetsSeq PySem.MeetsSeq2 PySem.MeetsSeq3
end
section
variable {prog:Program} {w:World} {A:Around} {E:Value→Shared→Prop} {s:Shared}
theorem cat_tup {t b:Addr} {vs ws:List Value} {Q:Value→Shared→Prop} (ht:IsTup s.heap t vs.toArray) (hb:IsTup s.heap b ws.toArray) (hv:vs≠[])
  (h1:ws=[]→Q (.ref t) s) (h2:ws≠[]→Q (.ref s.heap.objs.size) { s with heap:=s.heap.push { cls:=.type "tuple", data:=.seq (vs++ws).toArray } })
  (hsz:vs.length+ws.length≤sizeLine):wpAny (model prog w) A (binaryOp .Add (.ref t) (.ref b)) Q E s:=by
 obtain ⟨⟨cls,dd,data,sl⟩,ho,hc,n,hd⟩:=id ht
 obtain ⟨⟨cls2,dd2,data2,sl2⟩,ho2,hc2,n2,hd2⟩:=id hb
 simp only at hc hd hc2 hd2
 subst hc hd hc2 hd2
 have e:vs.toArray++ws.toArray=(vs++ws).toArray:=by simp
 by_cases hw:ws=[]
 ·exact concat_meets ⟨_,ho,rfl⟩ ⟨_,ho2,rfl⟩ noFill_tuple_add seq_tuple_add PySem.F.slot_tuple_add PySem.F.entry_tuple_add (PySem.F.args_tuple_add_2 _ _)
   (tuple_addW1 t b vs.toArray ws.toArray n n2 dd dd2 sl sl2 (by simpa using hv) (by simp [hw])) ⟨ho,ho2,h1 hw⟩
 ·refine concat_meets ⟨_,ho,rfl⟩ ⟨_,ho2,rfl⟩ noFill_tuple_add seq_tuple_add PySem.F.slot_tuple_add PySem.F.entry_tuple_add (PySem.F.args_tuple_add_2 _ _)
   (tuple_addW2 t b vs.toArray ws.toArray n n2 dd dd2 sl sl2 (by simpa using hv) (by simpa using hw) (by rw [qI,qI];exact hsz)) ⟨ho,ho2,?_⟩
  rw [e]
  exact h2 hw
end
end HT
namespace L2
open PySem PySem.Spec PyProof.Rows
abbrev TO:=St→Hp→(Option Int→Hp→Prop)→Prop
theorem intsAre_of {ns:List Int}:∀ {us:List Value},aX (ns.map V.int) us→IntsAre us ns:=by
 induction ns with
 | nil=>intro us r;rw [List.map_nil] at r;cases r;exact .nil
 | cons n ns ih=>
  intro us r
  rw [qF] at r
  cases r with
  | cons r1 r2=>
   obtain ⟨t,e⟩:=r1
   subst e
   exact .cons n t (ih r2)
section
variable {X:Cx} {e:Expr} {te:TE} {lo hi:Option Expr} {tl th:TO} {pos p2:Pos}
def b6v (K:qB):R2:=fun x y H Q=>∃ a b xs ys,x=.ref a∧y=.ref b∧SqT K H a xs∧SqT K H b ys∧xs≠[]∧xs.length+ys.length≤sizeLine ∧
 (ys=[]→Q (.ref a) H)∧(ys≠[]→∀ p,H p=none→Q (.ref p) (upd H p (.tup (xs++ys))))
theorem aX.nil_iff {xs:List V} {us:List Value} (r:aX xs us):us=[]↔xs=[]:=by
 cases r with
 | nil=>simp
 | cons _ _=>simp
theorem b1c:OpR X (binaryOp .Add) (b6v X.K):=by
 intro pins s σ H x y v u Q I rx ry h
 obtain ⟨a,b,xs,ys,rfl,rfl,ha,hb,hx,hz,q1,q2⟩:=h
 cases rx
 cases ry
 obtain ⟨its,r1,p1,_⟩:=I.tuple ha
 obtain ⟨its2,r2,p2,_⟩:=I.tuple hb
 refine HT.cat_tup p1 p2 (fun z=>hx (r1.nil_iff.mp z)) (fun z=>⟨.ref a,H,I,rfl,q1 (r2.nil_iff.mp z)⟩) (fun z=>?_) (by rw [←r1.length,←r2.length];exact hz)
 refine ⟨.ref s.heap.objs.size,_,I.laid (t':=s.toks) (o:=.tup (xs++ys)) (fun b ob q=>qC _ q) (qO _) ?_,rfl,q2 (fun w=>z (r2.nil_iff.mpr w)) _ (I.hok.fresh (qO _))⟩
 exact ⟨by rw [jU];exact hz,_,r1.append r2,IsTup.new _ _⟩
end
def ixN (n:Nat) (i:Int):Option Nat:=if 0≤i then (if i<n then some i.toNat else none) else if -(n:Int)≤i then some (i+n).toNat else none
def atI {α:Type} (xs:List α) (i:Int):Option α:=(ixN xs.length i).bind fun j=>xs[j]?
theorem b1G {n:Nat} {i:Int} {j:Nat} (h:ixN n i=some j):seqIndex? i n=some j∧j<n∧-(n:Int)≤i∧i<n:=by
 unfold ixN at h
 by_cases h0:0≤i
 ·rw [if_pos h0] at h
  by_cases h1:i<n
  ·rw [if_pos h1] at h
   have e:i.toNat=j:=qA h
   exact ⟨by rw [seqIndex_of h0 h1,e],by omega,by omega,h1⟩
  ·rw [if_neg h1] at h;cases h
 ·rw [if_neg h0] at h
  by_cases h1:-(n:Int)≤i
  ·rw [if_pos h1] at h
   have e:(i+n).toNat=j:=qA h
   exact ⟨by rw [seqIndex_neg (by omega) h1,e],by omega,h1,by omega⟩
  ·rw [if_neg h1] at h;cases h
theorem a2g {α:Type} {xs:List α} {i:Int} {v:α} (h:atI xs i=some v):∃ j,seqIndex? i xs.length=some j∧xs[j]?=some v∧j<xs.length∧-(xs.length:Int)≤i∧i<xs.length:=by
 unfold atI at h
 cases e:ixN xs.length i with
 | none=>rw [e] at h;cases h
 | some j=>
  rw [e] at h
  obtain ⟨h1,h2,h3,h4⟩:=b1G e
  exact ⟨j,h1,h,h2,h3,h4⟩
def a2j (b:Expr):Prop:=∀ o i,subscripted b false o i=operate [o,i] (getItem o i)
def IxR (X:Cx) (r:R2):Prop:=
 ∀ (value slice:Expr) (pins:List (Addr×Obj)) (s:Shared) (σ:St) (H:Hp) (x y:V) (v u:Value) (Q:VK),Inv X pins σ H s→RelV x v→RelV y u→r x y H Q →
  subscripted slice false v u=operate [v,u] (getItem v u)→wpAny (model X.prog X.w) X.A (subscriptTail value slice v u) (EP X pins σ Q) X.xe s
def MtR (X:Cx) (id:String) (r:V→List V→Hp→VK→Prop):Prop:=
 ∀ (pins:List (Addr×Obj)) (s:Shared) (σ:St) (H:Hp) (x:V) (xs:List V) (v:Value) (us:List Value) (Q:VK),Inv X pins σ H s→RelV x v→aX xs us→r x xs H Q →
  wpAny (model X.prog X.w) X.A (call (.builtin id) (v::us)) (EP X pins σ Q) X.xe s
section
variable {X:Cx} {a b:Expr} {ta tb:TE} {pos:Pos}
theorem IxR.or {r r':R2} (h:IxR X r) (h':IxR X r'):IxR X (fun x y H Q=>r x y H Q∨r' x y H Q):=by
 intro value slice pins s σ H x y v u Q I rx ry q hs
 rcases q with q | q
 ·exact h value slice pins s σ H x y v u Q I rx ry q hs
 ·exact h' value slice pins s σ H x y v u Q I rx ry q hs
theorem b2O {r:R2} (hr:IxR X r) (ha:PE X a ta) (hb:PE X b tb) (hs:a2j b):PE X (.Subscript a b pos) (tOp r ta tb):=by
 intro pins s σ H Q I h
 exact Subscript_ (b5M ha hb I h fun v u s2 x y H2 I2 rx ry q=>hr a b pins s2 σ H2 x y v u Q I2 rx ry q (hs _ _))
def b6q (K:qB):R2:=fun x y H Q=>∃ p xs i v,x=.ref p∧y=.int i∧SqL K H p xs∧atI xs i=some v∧Q v H
def b6o (K:qB):R2:=fun x y H Q=>∃ p xs i v,x=.ref p∧y=.int i∧SqT K H p xs∧atI xs i=some v∧Q v H
def b6p:R2:=fun x y H Q=>∃ z i c,x=.str z∧y=.int i∧z.length≤sizeLine∧atI z.cps.toList i=some c∧Q (.str ⟨#[c]⟩) H
theorem b1D:IxR X (b6q X.K):=by
 intro value slice pins s σ H x y v u Q I rx ry h hs
 obtain ⟨p,xs,i,z,rfl,rfl,hq,he,q⟩:=h
 cases rx
 obtain ⟨t,rfl⟩:=ry
 obtain ⟨its,r,pl,hz⟩:=I.list hq
 obtain ⟨j,h1,h2,h3,h4,h5⟩:=a2g he
 obtain ⟨w,ew,rw'⟩:=r.get h2
 have hl:=r.length
 have hn:=tN
 have fin:EP X pins σ Q w s:=⟨z,H,I,rw',q⟩
 by_cases h0:0≤i
 ·have hj:i.toNat=j:=by
   rw [seqIndex_of h0 h5] at h1
   exact qA h1
  exact item_listR pl.isList h0 (by omega) (by rw [hj];simpa using ew) fin hs
 ·have hj:(i+(its.toArray.size:Int)).toNat=j:=by
   rw [seqIndex_neg (by omega) h4] at h1
   rw [qI,←hl]
   exact qA h1
  exact subscriptTail_builtinR (x:=w) pl.isList.typeIs slot_list_getitem.lookup
   (wpAny_getItem_list_neg (Q:=fun r s'=>r=w∧EP X pins σ Q r s') pl.isList (by omega) (by rw [qI]<;>omega) (by omega) (by rw [hj];simpa using ew) ⟨rfl,fin⟩) hs
theorem b4T:IxR X (b6o X.K):=by
 intro value slice pins s σ H x y v u Q I rx ry h hs
 obtain ⟨p,xs,i,z,rfl,rfl,hq,he,q⟩:=h
 cases rx
 obtain ⟨t,rfl⟩:=ry
 obtain ⟨its,r,pl,hz⟩:=I.tuple hq
 obtain ⟨j,h1,h2,h3,h4,h5⟩:=a2g he
 obtain ⟨w,ew,rw'⟩:=r.get h2
 have hl:=r.length
 have hn:=tN
 have fin:EP X pins σ Q w s:=⟨z,H,I,rw',q⟩
 exact subscriptTail_builtinR (x:=w) pl.typeIs slot_tuple_getitem.lookup
  (getItem_tuple (j:=j) (Q:=fun r s'=>r=w∧EP X pins σ Q r s') pl (by omega) (by omega) (by rw [qI,←hl];exact h1) (by simpa using ew) ⟨rfl,fin⟩) hs
theorem b4U:IxR X b6p:=by
 intro value slice pins s σ H x y v u Q I rx ry h hs
 obtain ⟨z,i,c,rfl,rfl,hz,he,q⟩:=h
 obtain ⟨t,rfl⟩:=rx
 obtain ⟨t',rfl⟩:=ry
 obtain ⟨j,h1,h2,h3,h4,h5⟩:=a2g he
 have hl:z.cps.toList.length=z.length:=by simp [Str.length]
 rw [hl] at h1 h4 h5
 have hn:=tN
 exact tail_any (typeIs_str s z t) slot_str_getitem.lookup (getItem_str (c:=c) (by
  have e1:decide (i < -(2 ^ 63:Int))=false:=decide_eq_false (by omega)
  have e2:decide (i≥2 ^ 63)=false:=decide_eq_false (by omega)
  rw [e1,e2,zm]) (by rw [h1];simpa using h2) ⟨.str ⟨#[c]⟩,H,I.tok _,⟨_,rfl⟩,q⟩) hs
def rIx (K:qB):R2:=fun x y H Q=>b6q K x y H Q∨b6o K x y H Q∨b6p x y H Q
theorem b4V:IxR X (rIx X.K):=b1D.or (b4T.or b4U)
def mW:V→Bool
 | .non=>true
 | .bl _=>true
 | .int _=>true
 | .str _=>true
 | _=>false
def eqV:V→V→Bool
 | .non,.non=>true
 | .bl a,.bl b=>a==b
 | .bl a,.int b=>(if a then 1 else 0)==b
 | .int a,.bl b=>a==(if b then 1 else 0)
 | .int a,.int b=>a==b
 | .str a,.str b=>a==b
 | _,_=>false
theorem b5h {A:Around} {s:Shared} {y x:V} {u v:Value} (ry:RelV y u) (rx:RelV x v) (fy:mW y=true) (fx:mW x=true):SeqAt.EqAt A s u v (eqV y x):=by
 cases y with
 | non=>
  cases ry
  cases x with
  | non=>cases rx;exact SeqAt.EqAt.same _
  | bl b=>cases rx;exact SeqAt.EqAt.none_bool b
  | int b=>obtain ⟨t,rfl⟩:=rx;exact SeqAt.EqAt.none_int b t
  | str b=>obtain ⟨t,rfl⟩:=rx;exact SeqAt.EqAt.none_str b t
  | _=>exact absurd (show false=true from fx) qT
 | bl a=>
  cases ry
  cases x with
  | non=>cases rx;exact SeqAt.EqAt.bool_none a
  | bl b=>cases rx;exact zn a b
  | int b=>obtain ⟨t,rfl⟩:=rx;exact SeqAt.EqAt.bool_int a b t
  | str b=>obtain ⟨t,rfl⟩:=rx;exact SeqAt.EqAt.bool_str a b t
  | _=>exact absurd (show false=true from fx) qT
 | int a=>
  obtain ⟨t',rfl⟩:=ry
  cases x with
  | non=>cases rx;exact SeqAt.EqAt.int_none a t'
  | bl b=>cases rx;exact SeqAt.EqAt.int_bool a t' b
  | int b=>obtain ⟨t,rfl⟩:=rx;exact SeqAt.EqAt.int_int a t' b t
  | str b=>obtain ⟨t,rfl⟩:=rx;exact SeqAt.EqAt.int_str a t' b t
  | _=>exact absurd (show false=true from fx) qT
 | str a=>
  obtain ⟨t',rfl⟩:=ry
  cases x with
  | non=>cases rx;exact SeqAt.EqAt.str_none a t'
  | bl b=>cases rx;exact SeqAt.EqAt.str_bool a t' b
  | int b=>obtain ⟨t,rfl⟩:=rx;exact SeqAt.EqAt.str_int a t' b t
  | str b=>obtain ⟨t,rfl⟩:=rx;exact SeqAt.EqAt.str_str a t' b t
  | _=>exact absurd (show false=true from fx) qT
 | _=>exact absurd (show false=true from fy) qT
def eqU (x:V) (u:Value):Bool:=match u with
 | .none=>eqV .non x
 | .bool b=>eqV (.bl b) x
 | .int i _=>eqV (.int i) x
 | .str z _=>eqV (.str z) x
 | _=>false
theorem a9G {x y:V} {u:Value} (r:RelV y u) (f:mW y=true):eqU x u=eqV y x:=by
 cases y with
 | non=>cases r;rfl
 | bl b=>cases r;rfl
 | int i=>obtain ⟨t,rfl⟩:=r;rfl
 | str z=>obtain ⟨t,rfl⟩:=r;rfl
 | _=>exact absurd (show false=true from f) qT
theorem rZ {x:V}:∀ {xs:List V} {us:List Value},aX xs us→xs.all mW=true→us.any (eqU x)=xs.any fun y=>eqV y x
 | _,_,.nil,_=>rfl
 | y::xs,u::us,.cons r t,f=>by
  rw [zD,qH] at f
  rw [jV,jV,a9G r f.1,rZ t f.2]
theorem nO {A:Around} {s:Shared} {x:V} {v:Value} (rx:RelV x v) (fx:mW x=true):∀ {xs:List V} {us:List Value},aX xs us→xs.all mW=true→∀ u∈us,SeqAt.EqAt A s u v (eqU x u)
 | _,_,.nil,_=>fun u hu=>by cases hu
 | y::xs,u::us,.cons r t,f=>fun u' hu=>by
  rw [zD,qH] at f
  rcases qM.mp hu with rfl | hu
  ·rw [a9G r f.1];exact b5h r rx f.1 fx
  ·exact nO rx fx t f.2 u' hu
def inV (x:V) (xs:List V):Bool:=xs.any fun y=>eqV y x
def rIn (K:qB) (neg:Bool):R2:=fun x y H Q=>∃ p xs,y=.ref p∧(SqL K H p xs∨SqT K H p xs)∧mW x=true∧xs.all mW=true∧Q (.bl (if neg then !inV x xs else inV x xs)) H
theorem a0q:OpR X (compareOp .In) (rIn X.K false):=by
 intro pins s σ H x y v u Q I rx ry h
 obtain ⟨p,xs,rfl,hq,fx,fs,q⟩:=h
 cases ry
 rcases hq with hq | hq
 ·obtain ⟨its,r,pl,hz⟩:=I.list hq
  refine SeqAt.in_listAt (eqU x) pl.isList (fun w hw=>nO rx fx r fs w (by simpa using hw)) ⟨.bl _,H,I,rfl,?_⟩
  rw [show its.toArray.any (eqU x)=its.any (eqU x) by simp,rZ r fs]
  exact q
 ·obtain ⟨its,r,pl,hz⟩:=I.tuple hq
  refine SeqAt.in_tupleAt (eqU x) pl (fun w hw=>nO rx fx r fs w (by simpa using hw)) ⟨.bl _,H,I,rfl,?_⟩
  rw [show its.toArray.any (eqU x)=its.any (eqU x) by simp,rZ r fs]
  exact q
theorem pW:OpR X (compareOp .NotIn) (rIn X.K true):=by
 intro pins s σ H x y v u Q I rx ry h
 obtain ⟨p,xs,rfl,hq,fx,fs,q⟩:=h
 cases ry
 rcases hq with hq | hq
 ·obtain ⟨its,r,pl,hz⟩:=I.list hq
  refine SeqAt.notIn_listAt (eqU x) pl.isList (fun w hw=>nO rx fx r fs w (by simpa using hw)) ⟨.bl _,H,I,rfl,?_⟩
  rw [show its.toArray.any (eqU x)=its.any (eqU x) by simp,rZ r fs]
  exact q
 ·obtain ⟨its,r,pl,hz⟩:=I.tuple hq
  refine SeqAt.notIn_tupleAt (eqU x) pl (fun w hw=>nO rx fx r fs w (by simpa using hw)) ⟨.bl _,H,I,rfl,?_⟩
  rw [show its.toArray.any (eqU x)=its.any (eqU x) by simp,rZ r fs]
  exact q
theorem mU:gM X (.builtin "len") (fun xs H Q=>∃ p ys,xs=[.ref p]∧(SqL X.K H p ys∨SqT X.K H p ys)∧Q (.int ys.length) H):=by
 intro pins s σ H xs us Q I r h
 obtain ⟨p,ys,rfl,hq,q⟩:=h
 obtain ⟨u,rfl,rx⟩:=vals1 r
 cases rx
 have hn:=tN
 rcases hq with hq | hq
 ·obtain ⟨its,r',pl,hz⟩:=I.list hq
  have hlen:=r'.length
  exact Calls.call_len_list pl.isList (by simp only [qI]<;>omega) ⟨.int ys.length,H,I.tok _,⟨s.toks+1,by rw [qI,hlen]⟩,q⟩
 ·obtain ⟨its,r',pl,hz⟩:=I.tuple hq
  have hlen:=r'.length
  exact len_tuple pl (by simp only [qI]<;>omega) ⟨.int ys.length,H,I.tok _,⟨s.toks+1,by rw [qI,hlen]⟩,q⟩
theorem a2a:gM X (.builtin "len") (fun xs H Q=>∃ z,xs=[.str z]∧z.length≤sizeLine∧Q (.int z.length) H):=by
 intro pins s σ H xs us Q I r h
 obtain ⟨z,rfl,hz,q⟩:=h
 obtain ⟨u,rfl,t,rfl⟩:=vals1 r
 have hn:=tN
 exact len_str (by omega) ⟨.int z.length,H,I.tok _,⟨_,rfl⟩,q⟩
theorem oX:gM X (.type "tuple") (fun xs H Q=>∃ p ys,xs=[.ref p]∧((SqL X.K H p ys∧∀ l,H l=none→Q (.ref l) (upd H l (.tup ys)))∨(SqT X.K H p ys∧Q (.ref p) H))):=by
 intro pins s σ H xs us Q I r h
 obtain ⟨p,ys,rfl,h⟩:=h
 obtain ⟨u,rfl,rx⟩:=vals1 r
 cases rx
 rcases h with ⟨hq,q⟩ | ⟨hq,q⟩
 ·obtain ⟨its,r',pl,hz⟩:=I.list hq
  have hlen:=r'.length
  refine call_tuple_list pl.isList (fun h' kp=>?_) (by simp only [qI]<;>omega)
  have I1:Inv X pins σ H { s with heap:=h' }:=I.kept (t':=s.toks) kp
  have I2:Inv X pins σ (upd H h'.objs.size (.tup ys)) { s with heap:=h'.push { cls:=.type "tuple", data:=.seq its.toArray } }:=
   I1.laid (t':=s.toks) (fun b o e=>qC _ e) (qO _) (show cG X.prog X.w _ _ _ (.tup ys) from ⟨hz,its,r',IsTup.new _ _⟩)
  exact ⟨.ref h'.objs.size,_,I2,rfl,q _ (I1.hok.fresh (qO _))⟩
 ·obtain ⟨its,r',pl,hz⟩:=I.tuple hq
  exact call_tuple_same pl ⟨.ref p,H,I,rfl,q⟩
def tyV (K:qB) (T:String) (x:V) (H:Hp):Prop:=match x with
 | .str _=>T = "str"
 | .int _=>T = "int"
 | .ref p=>(T = "list" ∧ ∃ xs,SqL K H p xs)∨(T = "tuple" ∧ ∃ o,K.lookup p=some o∧o.cls=.type "tuple" ∧ o.dict=none) ∨
   (T = "dict" ∧ ((∃ kvs,H p=some (.dK kvs))∨∃ kvs,H p=some (.dT kvs)))∨(T = "set" ∧ ∃ S n,H p=some (.set S n))
 | _=>False
theorem a7F {pins:List (Addr×Obj)} {σ:St} {H:Hp} {s:Shared} {T:String} {x:V} {v:Value} (I:Inv X pins σ H s) (r:RelV x v) (ty:tyV X.K T x H) :
  s.TypeIs v T∧∀ a,v=.ref a→∃ ob,s.heap.get? a=some ob∧ob.dict=none:=by
 cases x with
 | str z=>
  obtain ⟨t,rfl⟩:=r
  cases (show T = "str" from ty)
  exact ⟨typeIs_str s z t,fun _ e=>nomatch e⟩
 | int i=>
  obtain ⟨t,rfl⟩:=r
  cases (show T = "int" from ty)
  exact ⟨typeIs_int s i t,fun _ e=>nomatch e⟩
 | ref p=>
  cases r
  rcases ty with ⟨rfl,xs,hq⟩ | ⟨rfl,o,hk,hc,hd⟩ | ⟨rfl,hk⟩ | ⟨rfl,S,n,hk⟩
  ·obtain ⟨its,_,pl,_⟩:=I.list hq
   refine ⟨pl.isList.typeIs,fun a e=>?_⟩
   cases e
   obtain ⟨o,n,e,c,hd,_⟩:=pl
   exact ⟨o,e,hd⟩
  ·refine ⟨⟨o,I.kIn p o hk,hc⟩,fun a e=>?_⟩
   cases e
   exact ⟨o,I.kIn _ o hk,hd⟩
  ·have z:∃ o,s.heap.get? p=some o∧o.ExactDict:=by
    rcases hk with ⟨kvs,hk⟩ | ⟨kvs,hk⟩
    ·obtain ⟨_,_,_,_,o,_,_,e,ex,_⟩:=I.hok p _ hk
     exact ⟨o,e,ex⟩
    ·obtain ⟨_,_,_,_,o,_,_,e,ex,_⟩:=I.hok p _ hk
     exact ⟨o,e,ex⟩
   obtain ⟨o,e,ex⟩:=z
   refine ⟨⟨o,e,ex.1⟩,fun a e2=>?_⟩
   cases e2
   exact ⟨o,e,ex.2.1⟩
  ·obtain ⟨o,_,_,_,e,ex,_⟩:=I.hok p _ hk
   refine ⟨⟨o,e,ex.1⟩,fun a e2=>?_⟩
   cases e2
   exact ⟨o,e,ex.2.1⟩
 | _=>exact qk ty
def b7I (K:qB) (T:String) (r:V→List V→Hp→VK→Prop) (to:TE):TE:=fun σ H Q=>to σ H fun x H1=>tyV K T x H1∧r x [] H1 Q
def tBM (K:qB) (T:String) (r:V→List V→Hp→VK→Prop) (to:TE) (t:TA):TE:=fun σ H Q=>to σ H fun x H1=>tyV K T x H1∧t σ H1 fun xs H2=>r x xs H2 Q
variable {o e:Expr} {es:List Expr} {to:TE} {t:TA} {name:Str} {apos cpos:Pos} {T id:String} {r:V→List V→Hp→VK→Prop}
theorem b3U (pa:PlainAttrs T) (slot:Slot T name id) (hty:typeOf (.builtin id)=pure (.type "method_descriptor")) (hm:MtR X id r) (ho:PE X o to)
  (hbase:attributeBase o name X.env (eval o X.env)=eval o X.env:=by rfl) (hline:(apos.endLine==cpos.line)=true:=by rfl):PE X (.Call (.Attribute o name apos) [] [] cpos) (b7I X.K T r to):=by
 intro pins s σ H Q I h
 refine wpAny_Call_method0_late hbase hline (thn (ho pins s σ H _ I h) fun v s1 ⟨x,H1,I1,r1,ty,q1⟩=>?_)
 obtain ⟨h1,h2⟩:=a7F I1 r1 ty
 exact ⟨T,id,pa,slot,hty,h1,h2,ke rfl (PySem.evalArgs_none (hm pins s1 σ H1 x [] v [] Q I1 r1 .nil q1))⟩
theorem a5j (pa:PlainAttrs T) (slot:Slot T name id) (hty:typeOf (.builtin id)=pure (.type "method_descriptor")) (hm:MtR X id r) (ho:PE X o to) (ha:PA X (e::es) t)
  (hbase:attributeBase o name X.env (eval o X.env)=eval o X.env:=by rfl)
  (hfew:((backTo cpos (starEach (e::es) X.env)).all (fun x=>!x.1)&&(backToKw cpos (keywordEach [] X.env)).all (fun x=>x.1.isSome)
   && decide ((e::es).length+([]:List Keyword).length+(if ([]:List Keyword).isEmpty then 0 else 1)<30))=true:=by rfl)
  (hline:(apos.endLine==cpos.line)=true:=by rfl) (hs:starEach (e::es) X.env=(false,eval e X.env)::starEach es X.env:=by rfl) (hplain:(backTo cpos (starEach es X.env)).any (·.1)=false:=by rfl) :
  PE X (.Call (.Attribute o name apos) (e::es) [] cpos) (tBM X.K T r to t):=by
 intro pins s σ H Q I h
 refine wpAny_Call_method_late hbase hfew hline rfl (thn (ho pins s σ H _ I h) fun v s1 ⟨x,H1,I1,r1,ty,q1⟩=>?_)
 obtain ⟨h1,h2⟩:=a7F I1 r1 ty
 refine ⟨T,id,pa,slot,hty,h1,h2,?_⟩
 have hA:=ha cpos pins s1 σ H1 _ I1 q1
 rw [hs] at hA ⊢
 refine ke (by show (false || (backTo cpos (starEach es X.env)).any (·.1))=false;rw [hplain]<;>rfl) (ky ?_)
 exact thn hA fun us s2 ⟨vs,H2,I2,r2,q2⟩=>hm pins s2 σ H2 x vs v us Q I2 r1 r2 q2
end
def MtM (X:Cx) (id:String) (r:V→List V→Hp→VK→Prop):Prop:=
 ∀ (pins:List (Addr×Obj)) (s:Shared) (σ:St) (H:Hp) (x:V) (xs:List V) (v:Value) (us:List Value) (Q:VK),Inv X pins σ H s→RelV x v→aX xs us→r x xs H Q →
  wpAny (model X.prog X.w) X.A (call (.builtin id) (v::us)) (EP X pins σ Q) X.xe s
theorem aX.one:∀ {x:V} {us:List Value},aX [x] us→∃ u,us=[u]∧RelV x u
 | _,_,.cons r .nil=>⟨_,rfl,r⟩
theorem aX.zero:∀ {us:List Value},aX [] us→us=[]
 | _,.nil=>rfl
theorem aX.dropLast {xs:List V} {us:List Value} (h:aX xs us):aX xs.dropLast us.dropLast:=by
 induction h with
 | nil=>exact .nil
 | cons r t ih=>
  cases t with
  | nil=>exact .nil
  | cons q t'=>exact .cons r ih
theorem aX.rep {xs:List V} {us:List Value} (h:aX xs us):∀ k:Nat,aX (qV k xs).flatten (qV k us).flatten
 | 0=>.nil
 | k+1=>by
  rw [jZ,jZ,qe,qe]
  exact aX.append h (aX.rep h k)
theorem a4t {α:Type} (l:List α):l.eraseIdx (l.length - 1)=l.dropLast:=by
 induction l with
 | nil=>rfl
 | cons a r ih=>
  cases r with
  | nil=>rfl
  | cons b r=>
   have e:(a::b::r).length - 1=((b::r).length - 1)+1:=by
    have h1:(a::b::r).length=r.length+2:=rfl
    have h2:(b::r).length=r.length+1:=rfl
    omega
   rw [e,List.eraseIdx_cons_succ,ih]
   all_goals rfl
theorem foldl_rep (its:List Value):∀ (k:Nat) (acc:List Value),
  zR (fun x1 x2=>x1++x2) acc.toArray (qV k its.toArray)=(acc++(qV k its).flatten).toArray
 | 0,acc=>by simp
 | k+1,acc=>by
  have e:acc.toArray++its.toArray=(acc++its).toArray:=by simp
  have e2:(acc++its)++(qV k its).flatten=acc++(qV (k+1) its).flatten:=by
   rw [jZ,qe,zw]
  rw [←e2,←foldl_rep its k (acc++its),←e,jZ,List.foldl_cons]
section
variable {X:Cx} {pins:List (Addr×Obj)} {σ:St} {H:Hp} {s:Shared} {l b:Addr} {xs ys zs:List V}
theorem Inv.lset {its its':List Value} {n:Nat} {f:Array Value→Array Value} {t':Nat} (I:Inv X pins σ H s) (hH:H l=some (.lst xs))
  (e:s.heap.get? l=some { cls:=.type "list", data:=.seq its.toArray n }) (hf:f its.toArray=its'.toArray) (hv:aX ys its') (hz:ys.length≤sizeLine) :
  Inv X pins σ (upd H l (.lst ys)) { s with heap:=s.heap.update l (jX f),toks:=t' }:=by
 have q:=PySem.IsL.update e f
 rw [hf] at q
 refine I.write (x:=l) (e:=l) (by rw [hH];exact trivial) (.inl rfl) (fun b' u hb hu=>(qY s.heap (jX f) (qr hb)).trans hu) ⟨_,q⟩ ?_
 exact ⟨hz,its',_,hv,q⟩
theorem Inv.lnew {its:List Value} {t':Nat} (I:Inv X pins σ H s) (hv:aX ys its) (hz:ys.length≤sizeLine) :
  Inv X pins σ (upd H s.heap.objs.size (.lst ys)) { s with heap:=s.heap.push { cls:=.type "list", data:=.seq its.toArray },toks:=t' }:=
 I.laid (fun _ _ q=>qC _ q) (qO _) ⟨hz,its,0,hv,qK _ rfl⟩
theorem Inv.fresh (I:Inv X pins σ H s):H s.heap.objs.size=none:=I.hok.fresh (qO _)
theorem Inv.lstM (I:Inv X pins σ H s) (hH:H l=some (.lst xs)):xs.length≤sizeLine∧∃ (its:List Value) (n:Nat),aX xs its∧xs.length=its.length∧s.heap.get? l=some { cls:=.type "list", data:=.seq its.toArray n }:=by
 obtain ⟨z,its,n,r,e⟩:=I.hok l _ hH
 exact ⟨z,its,n,r,r.length,e⟩
theorem a2O {n:Nat} (h:n≤sizeLine):kQ n=false:=by
 unfold kQ
 exact decide_eq_false (by omega)
end
section
variable {X:Cx}
def b0F:V→List V→Hp→VK→Prop:=fun x vs H Q=>∃ l xs y,x=.ref l∧vs=[y]∧H l=some (.lst xs)∧xs.length<sizeLine∧Q .non (upd H l (.lst (xs++[y])))
theorem tL:MtM X "list.append" b0F:=by
 intro pins s σ H x vs v us Q I rx rv h
 obtain ⟨l,xs,y,rfl,rfl,hH,hz,q⟩:=h
 cases rx
 obtain ⟨u,rfl,ru⟩:=rv.one
 obtain ⟨z,its,n,r,hl,e⟩:=I.lstM hH
 refine call_meets F.slot_list_append ⟨_,e,rfl⟩ F.entry_list_append (F.args_list_append_2 _ _) (PySem.list_append l its.toArray n u (by rw [qI];omega)) ⟨e,?_⟩
 refine ⟨.non,_,I.lset (its':=its++[u]) hH e (by simp) (r.append (.cons ru .nil)) ?_,rfl,q⟩
 rw [jU,List.length_singleton]
 omega
def b7X:V→List V→Hp→VK→Prop:=fun x vs H Q=>∃ l xs y,x=.ref l∧vs=[]∧H l=some (.lst xs)∧xs[xs.length - 1]?=some y∧Q y (upd H l (.lst xs.dropLast))
theorem b4y:MtM X "list.pop" b7X:=by
 intro pins s σ H x vs v us Q I rx rv h
 obtain ⟨l,xs,y,rfl,rfl,hH,hy,q⟩:=h
 cases rx
 have hus:=rv.zero
 subst hus
 obtain ⟨z,its,n,r,hl,e⟩:=I.lstM hH
 obtain ⟨u,hu,ru⟩:=r.get hy
 have hy':its.toArray[its.toArray.size - 1]?=some u:=by
  show its.toArray[its.length - 1]?=some u
  rw [←jK,←hl]
  exact hu
 refine call_meets F.slot_list_pop ⟨_,e,rfl⟩ F.entry_list_pop (F.args_list_pop_1 _) (MeetsSeq.list_pop_last l its.toArray n u hy' (by rw [qI];omega)) ⟨e,?_⟩
 refine ⟨y,_,I.lset (its':=its.dropLast) hH e ?_ r.dropLast ?_,ru,q⟩
 ·show its.toArray.eraseIdxIfInBounds (its.toArray.size - 1)=its.dropLast.toArray
  rw [qI,List.eraseIdxIfInBounds_toArray,a4t]
 ·rw [List.length_dropLast]
  omega
def b7W:R2:=fun x y H Q=>∃ l k xs,x=.ref l∧y=.int k∧H l=some (.lst xs)∧-(2 ^ 63)≤k∧k<2 ^ 63∧xs.length*k.toNat≤sizeLine ∧
 ∀ p,H p=none→Q (.ref p) (upd H p (.lst (qV k.toNat xs).flatten))
theorem len_rep {α:Type} (xs:List α) (k:Nat):(qV k xs).flatten.length=k*xs.length:=by
 induction k with
 | zero=>simp
 | succ k ih=>rw [jZ,qe,jU,ih,Nat.succ_mul,Nat.add_comm]
theorem b4a:OpR X (binaryOp .Mult) b7W:=by
 intro pins s σ H x y v u Q I rx ry h
 obtain ⟨l,k,xs,rfl,rfl,hH,h1,h2,hz,q⟩:=h
 cases rx
 obtain ⟨t,rfl⟩:=ry
 obtain ⟨z,its,n,r,hl,e⟩:=I.lstM hH
 have hlen:its.toArray.size*k.toNat≤sizeLine:=by rw [qI,←hl];exact hz
 have hcap:¬its.toArray.size*k.toNat > (2 ^ 63 - 1) / 8:=by
  have:(sizeLine:Nat)≤(2 ^ 63 - 1) / 8:=by decide
  omega
 have hfit:¬(!Builtin.List.listFitsIndex k)=true:=by
  rw [fitsIndex_both h1 h2]
  exact qT
 have hlong:¬kQ (its.toArray.size*k.toNat)=true:=by
  rw [a2O hlen]
  exact qT
 have hnew:zR (fun x1 x2=>x1++x2) #[] (qV (if its.toArray.isEmpty=true then 0 else k.toNat) its.toArray)=(qV k.toNat its).flatten.toArray:=by
  have f0:∀ m:Nat,zR (fun x1 x2=>x1++x2) #[] (qV m its.toArray)=(qV m its).flatten.toArray:=fun m=>by
   have:=foldl_rep its m []
   rw [kH] at this
   exact this
  rw [f0]
  cases its with
  | nil=>simp
  | cons a r'=>rw [if_neg (by simp)]
 refine wpAny_binaryOp_repeat_ref (T := "list") (U := "int") (by decide) ⟨_,e,rfl⟩ (fun s'=>typeIs_int s' k t) noFill_list_mul F.fills_int_mul zl repeat_list F.slot_int_index.lookup
  (call_meets zl (typeIs_int s k t) F.entry_int_rmul (F.args_int_rmul_2 _ _) (int___rmul___int_list k t l its.toArray n)
   ⟨e,rfl,⟨_,e,rfl⟩,call_meets F.slot_list_mul ⟨_,e,rfl⟩ F.entry_list_mul (F.args_list_mul_2 _ _) (AutoListH.list___mul___list_int_3 l its.toArray n k t hfit hcap hlong) ⟨e,?_⟩⟩)
 rw [hnew]
 exact ⟨.ref _,_,I.lnew (t':=s.toks) (r.rep k.toNat) (by rw [len_rep,Nat.mul_comm];exact hz),rfl,q _ I.fresh⟩
end
section
variable {prog:Program} {w:World} {A:Around} {E:Value→Shared→Prop} {s:Shared}
end
section
variable {X:Cx}
end
end L2
namespace Att
open PySem PySem.W PySem.Calls PyProof.Rows
theorem vG {P:Params} {h:Heap}:∀ (ns:List Int) (vs:List Value),WellAll P h vs (ns.map WData.int)→IntsAre vs ns:=by
 intro ns
 induction ns with
 | nil=>
  intro vs w
  rw [List.map_nil] at w
  cases w
  exact .nil
 | cons n ns ih=>
  intro vs w
  rw [qF] at w
  cases w with
  | cons a b=>
   cases a
   exact .cons _ _ (ih _ b)
theorem a6n {l:OpenLaw} {n:Nat} (hn:l.most=some n) {P:Params} {h:Heap} {args:List WData} {vals:List Value}
  (hpre:l.row.toRowW.claim.pre args=true) (hwl:WellAll P h vals args) :
  ∃ a vs ns,vals=[qi a]∧args=[WData.list (ns.map WData.int)]∧h.get? a=some { cls:=.type "list", data:=.seq vs.toArray }∧IntsAre vs ns∧ns.length≤n:=by
 have hsh:WShape.hasAll [] args [.list .int]=true:=(pre_splitW hpre).1
 have hc:l.pre.holds [] { args:=args }=true:=(pre_splitW hpre).2
 obtain ⟨d,r,rfl,h1,h2⟩:=hasAllW_cons hsh
 obtain rfl:=hasAllW_nil h2
 obtain ⟨xs,rfl,h3⟩:=hasW_list h1
 obtain ⟨ns,rfl⟩:=items_int h3
 have hlen:ns.length≤n:=by
  unfold OpenLaw.pre at hc
  have h4:(WTm.not (.lt (.lit (.int (n:Int))) (.len (.arg 0)))).holds [] { args:=[.list (ns.map .int)] }=true:=by
   have h4:=(holds_andW hc).1
   rw [hn] at h4
   exact h4
  have h5:=condW_of h4 (w_not (w_lt w_lit (w_len_list (w_arg rfl))))
  rw [qQ] at h5
  refine Nat.le_of_not_lt fun q=>?_
  have q':(n:Int)<((ns.length:Nat):Int):=by omega
  first
   | (rw [decide_eq_true q'] at h5;exact absurd h5 (by decide))
   | (simp at h5;omega)
 cases hwl with
 | cons w1 w2=>
  cases w2
  cases w1 with
  | list ho hall=>exact ⟨_,_,ns,rfl,rfl,ho,vG ns _ hall,hlen⟩
theorem a6v (l:OpenLaw) (args:List WData):l.row.toRowW.claim.post args (.bool true) args=true:=
 postW_of (r:=l.row.toRowW) (X:=(true==true))
  (show WShape.has [] (.bool true) .bool=true by first | rfl | decide | simp [WShape.has,WShape.arms,WShape.armsAll])
  (show (WTm.eq .res (.lit (.bool true))).value [] { args:=args,res:=some (.bool true),after:=args }=some (.bool (true==true)) from w_eq_bool (w_res rfl) w_lit) rfl
theorem attach_call {l:OpenLaw} {n:Nat} {q:Program} {loose:List Str} {XP:(Str→Option Value)→Heap→Prop} {YP:World→Heap→Prop} {d:DefRec}
  (hn:l.most=some n) (hdf:d.params.defaults=[])
  (call:∀ (w:World) (s₀ s₁:Shared) (mg mb:Str→Option Value) (fa:Addr) (o:Obj) (pm cd doc:Value) (a:Addr) (vs:List Value) (ns:List Int),
   Ground q loose [] XP w s₀ mg mb s₁.heap→YP w s₁.heap →
   s₁.heap.get? fa=some o→o.data=.func (docDef d.name d.params d.body d.scope pm cd doc)→s₁.heap.CodeRec cd d.name→mg d.name=some (.ref fa) →
   s₁.heap.get? a=some { cls:=.type "list", data:=.seq vs.toArray }→IntsAre vs ns→ns.length≤n→s₁.gens=#[] →
   codeAny (model l.prog w) callerA (.call (.ref fa) ⟨[.ref a],[]⟩) (fun r s'=>r=.ok (.ret (.bool true))∧OldK s₁.heap s'.heap∧s'.os=s₁.os∧AllBare s'.gens) s₁) :
  WalkO q loose XP YP l.row.toRowW d [] (fun f vs=>PySem.call f vs):=by
 intro w s₀ s₁ mg mb G Y fa o pm cd doc dV kV ho hd hcd hD hmg hg args vals as hpre hlay hrd hwl hlo
 obtain rfl:dV=.none:=Dflts.none hD hdf
 obtain rfl:kV=.none:=Dflts.noKw hD
 obtain ⟨a,vs,ns,rfl,rfl,hobj,hints,hlen⟩:=a6n hn hpre hwl
 refine enter_call (codeAny_mono (call w s₀ s₁ mg mb fa o pm cd doc a vs ns G Y ho (fd_plain hd) hcd hmg hobj hints hlen hg) fun r s' hq=>?_)
 obtain ⟨rfl,h2,h3,h4⟩:=hq
 exact ⟨.inl ⟨.bool true,.bool true,[],rfl,fun _=>rfl,.bool true,a6v l _,fun _=>⟨List.Pairwise.nil,fun _ hm=>(nomatch hm)⟩⟩,h2,h3,h4⟩
section
variable {prog:Program} {w:World} {A:Around} {E:Value→Shared→Prop} {s:Shared} {K:Frag}
end
end Att
namespace L2
open PySem PySem.Spec PyProof.Rows
theorem lN:∀ {vs:List Value} {ns:List Int},IntsAre vs ns→aX (ns.map V.int) vs
 | _,_,.nil=>.nil
 | _,_,.cons n t h=>.cons ⟨t,rfl⟩ (lN h)
def b8I (H:Hp):Prop:=∀ b,H b=none∨∃ o xs,H b=some (.frz o (.lst xs))
def dQ (s:Stmt):Arguments:=match s with
 | .FunctionDef _ a _ _ _ _ _ _ _ _=>a
 | _=>{ posonlyargs:=[],args:=[],vararg:=none,kwonlyargs:=[],kw_defaults:=[],kwarg:=none,defaults:=[] }
def bI (s:Stmt):List Stmt:=match s with
 | .FunctionDef _ _ b _ _ _ _ _ _ _=>b
 | _=>[]
def aC (s:Stmt):Scope:=match s with
 | .FunctionDef _ _ _ _ _ _ sc _ _ _=>sc
 | _=>{ kind:=.function,names:=[],isGenerator:=false,isCoroutine:=false }
abbrev CX0:CXT:=fun _ _ _ _ _ _=>False
abbrev E0:XK:=fun _ _ _=>False
theorem b2P {X:Cx}:yF CX0 X E0:=fun _ _ _ _ _ _ _ h=>h.elim
structure Fun (K:qB) (x qual:Str) (st:Stmt) (f:Addr) (fd:FuncData):Prop where
 ex:∃ (oc:Value) (od:Option Addr) (kV doc pm:Value) (an:Option Addr) (cdv ct:Value) (osl:Array (Option Value)),
  fd=jE x qual (dQ st) (bI st) (aC st) .none kV doc pm an cdv ct∧K.lookup f=some ⟨oc,od,.func fd,osl⟩∧jz K cdv qual=true
 kp:jC K (.ref f)=true
section
variable {P:Program} {w:World} {K:qB} {mg:Str→Option Value} {base:Heap}
theorem Fun.ok {x qual:Str} {st:Stmt} {f:Addr} {fd:FuncData} {N ps:List Str} {k:Nat} {sp:Sp} (F:Fun K x qual st f fd) (S:FnScope N ps (aC st)) (len:∀ vs H Q E,sp vs H Q E→vs.length=ps.length)
  (hbody:∀ (cdv:Value) (A:Around) (outer:List Env) (s:Shared) (H:Hp) (vs:List V) (Q:VK) (E:XK),Room k (A.deeper (envOfC qual (aC st) s.heap.objs.size f cdv))→sp vs H Q E →
   ∃ t,PSs (tZ CX0 P w K mg base N qual (aC st) f cdv A outer s H E).nox (bI st) t∧t { nx:=fun _ H'=>Q .non H',rt:=Q } (start N vs) H):FnOk P w K mg base CX0 (k+1) f fd ps sp:=by
 obtain ⟨oc,od,kV,doc,pm,an,cdv,ct,osl,rfl,lk,hcd⟩:=F.ex
 refine a3e lk hcd S len fun A outer s H vs Q E hr hsp=>?_
 obtain ⟨t,h,q⟩:=hbody cdv A outer s H vs Q E hr hsp
 exact ⟨t,h.nox,q⟩
theorem Fun.binds {x qual:Str} {st:Stmt} {f:Addr} {fd:FuncData} {ps:List Str} (F:Fun K x qual st f fd)
  (h:∀ (kV doc pm:Value) (an:Option Addr) (cdv ct:Value) (us:List Value),us.length=ps.length→bindArgs (jE x qual (dQ st) (bI st) (aC st) .none kV doc pm an cdv ct) ⟨us,[]⟩=pure (ps.zip us)):Binds K fd ps []:=by
 obtain ⟨oc,od,kV,doc,pm,an,cdv,ct,osl,rfl,lk,hcd⟩:=F.ex
 exact .all (h kV doc pm an cdv ct)
theorem a1K {x qual:Str} {st:Stmt} {f:Addr} {oc:Value} {od an:Option Addr} {osl:Array (Option Value)} {kV doc pm cdv ct:Value} (l:K.lookup f=some ⟨oc,od,.func (jE x qual (dQ st) (bI st) (aC st) .none kV doc pm an cdv ct),osl⟩)
  (c:jz K cdv qual=true) (k:jC K (.ref f)=true):Fun K x qual st f (jE x qual (dQ st) (bI st) (aC st) .none kV doc pm an cdv ct):=⟨⟨oc,od,kV,doc,pm,an,cdv,ct,osl,rfl,l,c⟩,k⟩
end
theorem gZ {n:Nat} (h:n≤1000):n<sizeLine:=jd h (by decide)
section
variable {X:Cx}
theorem pv (i:Nat) {x:Str} {pos:Pos} (hN:X.N[i]?=some x:=by rfl) (hv:Vis X.env.scope x:=by first | exact qu rfl | exact qf (qu rfl) | exact qf (qf rfl)) (hd:(x==("__debug__" : Str))=false:=by decide)
  (hcd:(x==("__classdict__" : Str))=false:=by decide):PE X (.Name x pos) (b6b i):=cB hN hv hd hcd
end
theorem b8m {A B:Prop} (h:B):if false=true then A else B:=by
 rw [if_neg qT]
 exact h
theorem b8l {A B:Prop} (h:A):if true=true then A else B:=by
 rw [if_pos rfl]
 exact h
def aM (H H':Hp):Prop:=∀ b o,H b=some o→H' b=some o
theorem aM.refl (H:Hp):aM H H:=fun _ _ h=>h
theorem aM.trans {H H1 H2:Hp} (a:aM H H1) (b:aM H1 H2):aM H H2:=fun c o h=>b c o (a c o h)
theorem aM.free {H H':Hp} (e:aM H H') {l:Addr} (h:H' l=Option.none):H l=Option.none:=by
 cases q:H l with
 | none=>rfl
 | some o=>
  rw [e l o q] at h
  cases h
theorem aM.seq {K:qB} {H H':Hp} {a:Addr} {xs:List V} (e:aM H H') (h:SqL K H a xs):SqL K H' a xs:=by
 rcases h with (h | ⟨o,h⟩) | h
 ·exact .inl (.inl (e _ _ h))
 ·exact .inl (.inr ⟨o,e _ _ h⟩)
 ·exact .inr h
theorem a4p {α β:Type} {l:List α} {f:α→β→Sem (ForInStep β)} {g:α→β→β}:∀ (c:β),(∀ x∈l,∀ c,f x c=pure (.yield (g x c)))→(forIn l c f:Sem β)=pure (l.foldl (fun c x=>g x c) c):=by
 induction l with
 | nil=>intro c _;rfl
 | cons x r ih=>
  intro c h
  rw [List.forIn_cons,h x qd]
  exact ih _ fun y hy=>h y (qE _ hy)
def lI (env:Env) (p:Str×NameKind) (cs:List (Str×Addr)):List (Str×Addr):=
 if p.2=.free then (match env.cells.lookup p.1 with | some a=>(p.1,a)::cs | none=>cs) else cs
def uA (scope:Scope) (env:Env):List (Str×Addr):=scope.names.foldl (fun cs p=>lI env p cs) []
theorem gT {scope:Scope} {env:Env} (h:∀ p∈scope.names,p.2=.free→∃ c,env.cells.lookup p.1=some c):closureFor scope env=pure (uA scope env):=by
 simp only [closureFor]
 rw [a4p (g:=lI env) [] (fun x hx c=>by
  obtain ⟨n,kind⟩:=x
  by_cases hk:kind=.free
  ·subst hk
   obtain ⟨a,e⟩:=h _ hx rfl
   have e':env.cells.lookup n=some a:=e
   simp [lI,e',cellOf]
   try rfl
  ·have hb:(kind==jr)=false:=by simpa using hk
   simp [lI,hb,hk])]
 rfl
theorem b3e {env:Env}:∀ (names:List (Str×NameKind)) (cs:List (Str×Addr)),(∀ x c,(x,c)∈cs→env.cells.lookup x=some c) →
  ∀ x c,(x,c)∈names.foldl (fun cs p=>lI env p cs) cs→env.cells.lookup x=some c
 | [],cs,h=>h
 | p::r,cs,h=>by
  refine b3e r _ ?_
  intro x c hx
  unfold lI at hx
  dsimp only at hx
  split at hx
  ·split at hx
   ·rename_i a e
    rcases qM.mp hx with z | z
    ·cases z;exact e
    ·exact h x c z
   ·exact h x c hx
  ·exact h x c hx
theorem a5Q {env:Env} {q:Str×Addr}:∀ (names:List (Str×NameKind)) (cs:List (Str×Addr)),q∈cs→q∈names.foldl (fun cs p=>lI env p cs) cs
 | [],_,h=>h
 | p::r,cs,h=>by
  refine a5Q r _ ?_
  unfold lI
  dsimp only
  split
  ·split
   ·exact qE _ h
   ·exact h
  ·exact h
theorem a9Y {env:Env} {x:Str} {c:Addr} (e:env.cells.lookup x=some c):∀ (names:List (Str×NameKind)) (cs:List (Str×Addr)),(x,jr)∈names→(x,c)∈names.foldl (fun cs p=>lI env p cs) cs
 | [],_,h=>by simp at h
 | p::r,cs,h=>by
  rcases qM.mp h with z | z
  ·subst z
   refine a5Q r _ ?_
   unfold lI
   dsimp only
   rw [if_pos rfl,e]
   exact qd
  ·exact a9Y e r _ z
theorem iF {α:Type} {x:Str} {c:α}:∀ {l:List (Str×α)},(x,c)∈l→∃ c',l.lookup x=some c'
 | [],h=>by simp at h
 | (y,d)::r,h=>by
  by_cases e:x=y
  ·subst e;exact ⟨d,by simp [jb]⟩
  ·have hb:(x==y)=false:=by simpa using e
   rcases qM.mp h with z | z
   ·cases z;exact absurd rfl e
   ·obtain ⟨c',q⟩:=iF z
    exact ⟨c',by simp [jb,hb,q]⟩
theorem a1T {scope:Scope} {env:Env} {x:Str} {c:Addr} (h:(uA scope env).lookup x=some c):env.cells.lookup x=some c:=
 b3e scope.names [] (fun _ _ z=>by simp at z) x c (qZ h)
theorem rQ {scope:Scope} {env:Env} {x:Str} {c:Addr} (hx:(x,jr)∈scope.names) (e:env.cells.lookup x=some c):(uA scope env).lookup x=some c:=by
 obtain ⟨c',q⟩:=iF (a9Y e scope.names [] hx)
 have:=a1T (scope:=scope) q
 rw [e] at this
 cases this
 exact q
theorem gK {env:Env} (hf:env.scope.kind=.function):∀ {names:List (Str×NameKind)} {x:Str},names.lookup x=some .free→env.kindOf x=some .cell →
  (names.map fun (n,k)=>if (k==jr&&env.scope.kind==.function&&env.kindOf n==some .cell) then (n,zS) else (n,k)).lookup x=some .cell
 | [],_,h,_=>by simp at h
 | (n,k)::r,x,h,hk=>by
  have ih:=@gK env hf r x
  show kR x ((if (k==jr&&env.scope.kind==.function&&env.kindOf n==some .cell)=true then (n,zS) else (n,k))::_)=_
  cases hx:x==n with
  | true=>
   simp only [jb,hx] at h
   have e:x=n:=by simpa using hx
   subst e
   cases h
   have hc:(jr==jr&&env.scope.kind==.function&&env.kindOf x==some zS)=true:=by rw [hf,hk];rfl
   rw [if_pos hc]
   simp [jb]
  | false=>
   simp only [jb,hx] at h
   by_cases hc:(k==jr&&env.scope.kind==.function&&env.kindOf n==some .cell)=true
   ·rw [if_pos hc];simp only [jb,hx];exact ih h hk
   ·rw [if_neg hc];simp only [jb,hx];exact ih h hk
theorem hJ:∀ (names:List (Str×NameKind)) (n:Nat) (acc cl:List (Str×Addr)),cellsFrom n names (acc++cl)=cellsFrom n names acc++cl
 | [],_,_,_=>rfl
 | (x,k)::r,n,acc,cl=>by
  unfold cellsFrom
  split
  ·exact hJ r (n+1) ((x,n)::acc) cl
  ·exact hJ r n acc cl
theorem eQ (names:List (Str×NameKind)) (n:Nat) (cl:List (Str×Addr)) {x:Str} {c:Addr} (h:(cellsFrom n names cl).lookup x=some c) :
  (cellsFrom n names []).lookup x=some c∨((cellsFrom n names []).lookup x=none∧cl.lookup x=some c):=by
 have e:=hJ names n [] cl
 rw [kH] at e
 rw [e,ku] at h
 cases q:(cellsFrom n names []).lookup x with
 | some d=>rw [q] at h;exact .inl h
 | none=>rw [q] at h;exact .inr ⟨rfl,h⟩
theorem a3s (names:List (Str×NameKind)) (n:Nat) (cl:List (Str×Addr)) {x:Str} {c:Addr} (h:cl.lookup x=some c):∃ d,(cellsFrom n names cl).lookup x=some d:=by
 have e:=hJ names n [] cl
 rw [kH] at e
 rw [e,ku]
 cases q:(cellsFrom n names []).lookup x with
 | some d=>exact ⟨d,rfl⟩
 | none=>exact ⟨c,h⟩
theorem a3t (names:List (Str×NameKind)) (n:Nat) (cl:List (Str×Addr)) {x:Str} {c:Addr} (h0:(cellsFrom n names []).lookup x=none) (h:cl.lookup x=some c):(cellsFrom n names cl).lookup x=some c:=by
 have e:=hJ names n [] cl
 rw [kH] at e
 rw [e,ku,h0]
 exact h
theorem a3u (names:List (Str×NameKind)) (n:Nat) (cl:List (Str×Addr)) {x:Str} {c:Addr} (h:(cellsFrom n names []).lookup x=some c):(cellsFrom n names cl).lookup x=some c:=by
 have e:=hJ names n [] cl
 rw [kH] at e
 rw [e,ku,h]
 rfl
theorem uB:∀ (names:List (Str×NameKind)) (n:Nat) (acc:List (Str×Addr)) {x:Str} {c:Addr},(x,c)∈cellsFrom n names acc→(x,c)∈acc∨(x,zS)∈names
 | [],_,_,_,_,h=>.inl h
 | (y,k)::r,n,acc,x,c,h=>by
  unfold cellsFrom at h
  split at h
  ·rename_i hk
   have hk':k=.cell:=by simpa using hk
   rcases uB r (n+1) ((y,n)::acc) h with z | z
   ·rcases qM.mp z with z | z
    ·cases z;subst hk';exact .inr qd
    ·exact .inl z
   ·exact .inr (qE _ z)
  ·rcases uB r n acc h with z | z
   ·exact .inl z
   ·exact .inr (qE _ z)
theorem b2C {M:Model} {A:Around} {E:Value→Shared→Prop} {s:Shared} {scope:Scope} {globals:Addr} {cl:List (Str×Addr)} {qual:Str} {env:Env} {Q:Env→Shared→Prop}
  (hQ:Q (newEnv scope s.heap.objs.size globals (cellsFrom (s.heap.objs.size+1) scope.names cl) qual none .none (some env) builtinsNs) { s with heap:=pushCells (s.heap.push { cls:=.type "dict", data:=.dict #[] }) scope.names }) :
  wpAny M A (newFunctionEnv scope globals cl [] qual none .none (some env)) Q E s:=by
 simp only [newFunctionEnv,Option.isSome_some,if_true]
 refine wpAny_bind (wpAny_alloc ?_)
 refine wpAny_bind (wpAny_layCells _ (fun name kind cells=>by cases hkc:kind==zS<;>simp [hkc]) _ _ _ _ ?_)
 rw [show ({ s with heap:=s.heap.push { cls:=.type "dict", data:=.dict #[] } }:Shared).heap.objs.size=s.heap.objs.size+1 from jJ ..]
 refine wpAny_bind (wpAny_pure ?_)
 exact wpAny_pure hQ
structure Blk (X:Cx) (scope:Scope) (N':List Str) (cap:List (Option Nat)):Prop where
 kind:scope.kind=.function
 cells:∀ y∈scope.names,y.2=.cell→scope.names.lookup y.1=some .cell
 names:∀ y∈scope.names,y.2=.local→scope.names.lookup y.1=some .local
 free:∀ y∈scope.names,y.2=.free→X.env.kindOf y.1=some .cell
 caps:∀ (i j:Nat),cap[i]?=some (some j)→∃ x,N'[i]?=some x∧X.N[j]?=some x∧scope.names.lookup x=some .free
 len:cap.length=N'.length
 nd:N'.Nodup
def eK (cap:List (Option Nat)) (σ:St):St:=cap.map fun o=>match o with
 | some j=>(σ[j]?).getD none
 | none=>none
def bW (X:Cx) (scope:Scope) (N':List Str) (C:Addr) (s₃:Shared) (H₃:Hp) (fp:List Addr):Cx:=
 { X with env:=compEnvC scope (cellsFrom (C+1) scope.names (uA scope X.env)) C X.env,N:=N',s₀:=s₃,H₀:=H₃,outer:=X.stack,ex:=fp,fn:=fun x=>decide (scope.names.lookup x=some .cell),pn:=[],xe:=fun _ _=>False }
theorem b2B {X:Cx} {scope:Scope} {N':List Str} {cap:List (Option Nat)} {pins:List (Addr×Obj)} {σ:St} {H:Hp} {s:Shared} {fp:List Addr} {h':Heap} {tk:Nat} {m':Str→Option Value}
  (B:Blk X scope N' cap) (I:Inv X pins σ H s) (hf:∀ b∈fp,uF X pins H b) (hlt:∀ b∈fp,b<s.heap.objs.size)
  (hn:h'.Ns s.heap.objs.size m') (hk:∀ b o,s.heap.get? b=some o→h'.get? b=some o) (ow:CellsOk h' (s.heap.objs.size+1) (cellsFrom (s.heap.objs.size+1) scope.names [])) :
  Inv (bW X scope N' s.heap.objs.size s H fp) [] (eK cap σ) H { s with heap:=h',toks:=tk }:=by
 have cl:∀ x c,(uA scope X.env).lookup x=some c→X.env.cells.lookup x=some c:=fun x c h=>a1T h
 have hsz:∀ x c,X.env.cells.lookup x=some c→c<s.heap.objs.size:=fun x c e=>by
  obtain ⟨v,q⟩:=I.cell x c e
  exact q.lt
 have own:∀ x c,(cellsFrom (s.heap.objs.size+1) scope.names []).lookup x=some c→h'.IsCell c none∧s.heap.objs.size<c:=fun x c e=>by
  obtain ⟨q1,q2⟩:=ow.empty x c (qZ e)
  exact ⟨q1,qP (kY _) q2⟩
 refine ⟨⟨I.ok.mod,B.kind,I.ok.glob,I.ok.blt,qO _,?_,?_,?_,I.ok.hd,I.ok.frames,.inl rfl,?_,I.bs,qj I.ok.bsz I.sz,?_,?_,I.stack,I.stkFree⟩,
  rfl,I.bare,Un.kept hk,⟨m',hn,?_⟩,?_,I.hok.fresh (qO _),?_,?_,I.hok.kept hk,?_⟩
 ·intro x y c h1 h2
  rcases eQ _ _ _ h1 with a1 | ⟨_,a1⟩<;>rcases eQ _ _ _ h2 with a2 | ⟨_,a2⟩
  ·exact name_of_addr ow.apart (qZ a1) (qZ a2)
  ·exact absurd (hsz y c (cl y c a2)) (vD (own x c a1).2)
  ·exact absurd (hsz x c (cl x c a1)) (vD (own y c a2).2)
  ·exact I.ok.inj x y c (cl x c a1) (cl y c a2)
 ·intro x hx
  have hx:(relabel scope X.env).names.lookup x=some .cell∨(relabel scope X.env).names.lookup x=some .free:=hx
  have key:∃ k,(relabel scope X.env).names.lookup x=some k∧(k=.cell∨k=.free):=by
   rcases hx with h | h
   ·exact ⟨_,h,.inl rfl⟩
   ·exact ⟨_,h,.inr rfl⟩
  obtain ⟨k,hk1,hk2⟩:=key
  obtain ⟨⟨n,k0⟩,hm,he⟩:=je.mp (qZ hk1)
  have fr:(k0=.free∨k0=.cell)∧n=x:=by
   dsimp only at he
   by_cases hc:(k0==jr&&X.env.scope.kind==.function&&X.env.kindOf n==some .cell)=true
   ·rw [if_pos hc] at he
    cases he
    simp only [qH] at hc
    exact ⟨.inl (by simpa using hc.1.1),rfl⟩
   ·rw [if_neg hc] at he
    cases he
    rcases hk2 with z | z
    ·exact ⟨.inr z,rfl⟩
    ·exact ⟨.inl z,rfl⟩
  obtain ⟨hk0,rfl⟩:=fr
  rcases hk0 with rfl | rfl
  ·obtain ⟨c,e⟩:=I.ok.has n (.inl (B.free _ hm rfl))
   exact a3s _ _ _ (rQ hm e)
  ·obtain ⟨c,e⟩:=rR (sc:=scope) (n:=s.heap.objs.size+1) (B.cells _ hm rfl)
   exact ⟨c,a3u _ _ _ e⟩
 ·intro x c hx e
  have hx:scope.names.lookup x=some .cell:=of_decide_eq_true hx
  rcases eQ _ _ _ e with e | ⟨n0,_⟩
  ·exact qv (own x c e).2
  ·obtain ⟨d,q⟩:=rR (sc:=scope) (n:=s.heap.objs.size+1) hx
   rw [q] at n0;cases n0
 ·intro b hb
  refine ⟨qU (hlt b hb),fun x c e=>?_⟩
  rcases eQ _ _ _ e with e | ⟨_,e⟩
  ·exact fun z=>absurd (hlt b hb) (vD (by rw [←z];exact (own x c e).2))
  ·exact (hf b hb).2.2.2.2.1 x c (cl x c e)
 ·intro b o e hb
  rcases (hf b hb).2.2.2.1 with z | z
  ·exact I.ok.noex b o e z
  ·exact absurd (qP (qG e) (qj I.ok.bsz z)) (jG _)
 ·intro b hb hfs
  rcases qM.mp (I.stkSub b hfs) with z | z
  ·exact (hf b hb).2.1 z
  ·exact (hf b hb).2.2.1 z
 ·intro i x v e1 e2 _
  have e1:N'[i]?=some x:=e1
  have e2:(eK cap σ)[i]?=some (some v):=e2
  unfold eK at e2
  rw [qJ] at e2
  cases hc:cap[i]? with
  | none=>rw [hc] at e2;cases e2
  | some o=>
   rw [hc] at e2
   cases o with
   | none=>cases e2
   | some j=>
    have e3:(σ[j]?).getD none=some v:=qA e2
    have e4:σ[j]?=some (some v):=by
     cases q:σ[j]? with
     | none=>rw [q] at e3;cases e3
     | some w'=>rw [q] at e3;have:w'=some v:=e3;rw [this]
    obtain ⟨y,h1,h2,h3⟩:=B.caps i j hc
    rw [e1] at h1
    cases h1
    have hcell:X.env.kindOf x=some .cell:=B.free _ (qZ h3) rfl
    obtain ⟨m,_,hl⟩:=I.loc
    obtain ⟨u,r,l⟩:=hl j x v h2 e4 (.inr (.inl hcell))
    refine ⟨u,r,?_⟩
    rcases l with ⟨k,_⟩ | ⟨_,c,e,z⟩
    ·rw [hcell] at k;cases k
    ·refine .inr ⟨.inl ?_,c,a3t _ _ _ ?_ (rQ (qZ h3) e),?_⟩
     ·exact gK I.ok.kind h3 hcell
     ·cases q:(cellsFrom (s.heap.objs.size+1) scope.names []).lookup x with
      | none=>rfl
      | some d=>
       rcases uB _ _ _ (qZ q) with z | z
       ·cases z
       ·rw [B.cells _ z rfl] at h3;cases h3
     ·obtain ⟨o,q1,q2⟩:=z
      exact ⟨o,hk c o q1,q2⟩
 ·intro x c e
  rcases eQ _ _ _ e with e | ⟨_,e⟩
  ·exact ⟨none,(own x c e).1⟩
  ·obtain ⟨v,o,q1,q2⟩:=I.cell x c (cl x c e)
   exact ⟨v,o,hk c o q1,q2⟩
 ·intro x c e
  rcases eQ _ _ _ e with e | ⟨_,e⟩
  ·exact I.hok.fresh (qv (own x c e).2)
  ·exact I.freeC x c (cl x c e)
 ·intro p hp
  exact absurd (show p∈([]:List (Addr×Obj)) from hp) (by simp)
 ·show (eK cap σ).length=N'.length
  unfold eK
  rw [qQ]
  exact B.len
def PTs (X:Cx) (ifs:List Expr) (t:TT):Prop:=
 ∀ (pins:List (Addr×Obj)) (s:Shared) (σ:St) (H:Hp) (Q:Bool→Hp→Prop),Inv X pins σ H s→t σ H Q →
  wpAny (model X.prog X.w) X.A (forIn ifs true fun c r=>if r=true then do let ok ←isTrue c X.env (eval c X.env);pure (ForInStep.yield ok) else pure (ForInStep.yield r)) (TP X pins σ Q) X.xe s
def b7K:TT:=fun _ H Q=>Q true H
theorem b0K {X:Cx}:PTs X [] b7K:=fun _ _ _ H _ I h=>wpAny_tests_nil ⟨H,I,h⟩
theorem b0J {X:Cx} {c:Expr} {t:TT} (h:PT X c t):PTs X [c] t:=fun pins s σ H Q I hw=>wpAny_tests_one (h pins s σ H Q I hw)
def oZ (J:It) (g:TG) (tc:TT) (te:TE) (σ₀:St) (H:Hp) (Q:VK):Prop:=
 ∃ W:Addr→Nat→Nat→List V→St→Hp→Prop,∀ D,H D=none→(∃ m,W D 0 m [] σ₀ (upd H D (.lst [])))∧∀ i m ys σ1 H1,W D i m ys σ1 H1→H1 D=some (.lst ys) →
  (J.stop i H1∧Q (.ref D) H1)∨(J.go i H1∧∀ x H2,J.yld i H1 x H2→g x σ1 H2 fun σ3 H3=>tc σ3 H3 fun b H4=>
   if b=true then te σ3 H4 fun v H5=>H5 D=some (.lst ys)∧ys.length<sizeLine∧∃ m',m'<m∧W D (i+1) m' (ys++[v]) σ3 (upd H5 D (.lst (ys++[v])))
   else H4 D=some (.lst ys)∧∃ m',m'<m∧W D (i+1) m' ys σ3 H4)
theorem a0N {X:Cx} (XE:Addr→Shared→Hp→List Addr→Value→Shared→Prop) {elt iter tg:Expr} {ifs:List Expr} {scope:Scope} {pos:Pos} {N':List Str} {cap:List (Option Nat)} {pins:List (Addr×Obj)} {σ:St} {H:Hp} {s:Shared} {J:It} {it:Addr} {fp:List Addr} {tn:Nat→Heap→Prop}
  {g:TG} {tc:TT} {te:TE} {Q:VK} {RR:Value→Addr→Result→Shared→Prop} (hc:X.calm=true) (B:Blk X scope N' cap) (I:Inv X pins σ H s) (T:Turn X.prog X.w X.K tg J fp it tn) (st:tn 0 s.heap) (hf:∀ b∈fp,uF X pins H b)
  (hg:∀ C s₃ H₃ fp,PG (bW X scope N' C s₃ H₃ fp) tg g) (ht:∀ C s₃ H₃ fp,PTs (bW X scope N' C s₃ H₃ fp) ifs tc) (he:∀ C s₃ H₃ fp,PE ((bW X scope N' C s₃ H₃ fp).wish (XE C s₃ H₃ fp)) elt te)
  (w:oZ J g tc te (eK cap σ) H Q)
  (hx:∀ D s₃ H₃ e s',Inv X pins σ H₃ s₃→(∀ b∈fp,uF X pins H₃ b)→H D=none→H₃=upd H D (.lst [])→s.heap.objs.size≤s₃.heap.objs.size→XE s₃.heap.objs.size s₃ H₃ fp e s' →
   notedBy (model X.prog X.w) X.A (compEnvC scope (cellsFrom (s₃.heap.objs.size+1) scope.names (uA scope X.env)) s₃.heap.objs.size X.env) (fun x s'=>RR (.ref D) s₃.heap.objs.size (.error x) s') e s')
  (fin:∀ D C s' H' m',s.heap.get? C=none→s.heap.objs.size≤C→s'.heap.Ns C m'→H' C=none→Inv X pins σ H' s'→Q (.ref D) H'→RR (.ref D) C (.ok .next) s') :
  wpAny (model X.prog X.w) X.A (newList []) (fun acc s₃=>wpAny (model X.prog X.w) X.A (newFunctionEnv scope X.env.globals (uA scope X.env) [] X.env.qual none .none (some X.env)) (fun cenv s₄=>
   cenv.frame=X.env.frame∧codeAny (model X.prog X.w) X.A (.compStart (.ListComp elt [⟨tg,iter,ifs,0⟩] scope pos) 0 (.ref it) acc { cenv with scope:=relabel scope X.env }) (RR acc cenv.locals) s₄) X.xe s₃) X.xe s:=by
 refine wpAny_newObj_type (b2C ?_)
 dsimp only
 obtain ⟨W,hW⟩:=w
 have hD:H s.heap.objs.size=none:=I.hok.fresh (qO _)
 obtain ⟨⟨m0,w0⟩,turn⟩:=hW s.heap.objs.size hD
 have I3:Inv X pins σ (upd H s.heap.objs.size (.lst [])) { s with heap:=s.heap.push { cls:=.type "list", data:=.seq ([]:List Value).toArray } }:=I.lnew (its:=[]) (ys:=[]) (t':=s.toks) .nil (jA _)
 generalize hH2:s.heap.push { cls:=.type "list", dict:=none,data:=.seq ([]:List Value).toArray }=H2 at I3 ⊢
 have hC:H2.objs.size=s.heap.objs.size+1:=by rw [←hH2,jJ]
 have lt3:∀ b∈fp,b<s.heap.objs.size:=fun b hb=>by
  obtain ⟨o,e,_⟩:=T.obj 0 _ st b hb
  exact qG e
 have hf3:∀ b∈fp,uF X pins (upd H s.heap.objs.size (.lst [])) b:=fun b hb=>by
  refine ⟨?_,(hf b hb).2⟩
  rw [aG (qU (lt3 b hb))]
  exact (hf b hb).1
 have ow:CellsOk (pushCells (H2.push { cls:=.type "dict", data:=.dict #[] }) scope.names) (H2.objs.size+1) (cellsFrom (H2.objs.size+1) scope.names []):=by
  have ok:=cellsFrom_ok scope.names (H2.push { cls:=.type "dict", data:=.dict #[] }) (H2.objs.size+1) [] ⟨fun _ _ hm=>(nomatch hm),List.Pairwise.nil⟩ (by rw [jJ];exact qO _)
  rw [jJ] at ok
  exact ok
 have hns₁:(pushCells (H2.push { cls:=.type "dict", data:=.dict #[] }) scope.names).Ns H2.objs.size fun _=>none:=(Heap.Ns.new H2 (.type "dict")).keeps (pushCells_keeps _ _)
 have keep:∀ b o,H2.get? b=some o→(pushCells (H2.push { cls:=.type "dict", data:=.dict #[] }) scope.names).get? b=some o:=fun b o e=>pushCells_keeps _ _ b o (qC _ e)
 generalize pushCells (H2.push { cls:=.type "dict", data:=.dict #[] }) scope.names=h₁ at ow hns₁ keep ⊢
 have I4:Inv (bW X scope N' H2.objs.size { s with heap:=H2 } (upd H s.heap.objs.size (.lst [])) fp) [] (eK cap σ) (upd H s.heap.objs.size (.lst [])) { s with heap:=h₁ }:=
  b2B (s:={ s with heap:=H2 }) B I3 hf3 (fun b hb=>by show b<H2.objs.size;rw [hC];exact jY (lt3 b hb)) hns₁ keep ow
 have st4:tn 0 h₁:=T.keep 0 _ _ st fun b hb o e=>keep b o (by rw [←hH2];exact qC _ e)
 have loop:∀ s₅:Shared,s₅={ s with heap:=h₁ } →
   codeAny (model X.prog X.w) X.A (.compLoop (.ListComp elt [⟨tg,iter,ifs,0⟩] scope pos) 0 (.ref it) (.ref s.heap.objs.size) (compEnvC scope (cellsFrom (H2.objs.size+1) scope.names (uA scope X.env)) H2.objs.size X.env))
    (RR (.ref s.heap.objs.size) H2.objs.size) s₅:=by
  rintro s₅ rfl
  refine codeAny_loop rfl (fun n s'=>∃ i ys σ' H',Inv (bW X scope N' H2.objs.size { s with heap:=H2 } (upd H s.heap.objs.size (.lst [])) fp) [] σ' H' s'∧tn i s'.heap∧(∀ b∈fp,H' b=none)∧H' s.heap.objs.size=some (.lst ys)∧W s.heap.objs.size i n ys σ' H') ?_ m0
   ⟨0,[],_,_,I4,st4,fun b hb=>(hf3 b hb).1,aJ,w0⟩
  rintro n s6 ⟨i,ys,σ6,H6,I6,st6,fr6,hD6,w6⟩
  show wpAny _ X.A ((compTurn (.ListComp elt [⟨tg,iter,ifs,0⟩] scope pos) 0 (.ref it) (.ref s.heap.objs.size) (compEnvC scope (cellsFrom (H2.objs.size+1) scope.names (uA scope X.env)) H2.objs.size X.env)).onRaise (fun x=>do noteFrame x (compEnvC scope (cellsFrom (H2.objs.size+1) scope.names (uA scope X.env)) H2.objs.size X.env);theTreesLotGoes x)) _ _ s6
  refine wpAny_noted ?_
  rw [compTurn_list]
  have stat:∀ {H':Hp},(∀ b∈fp,H' b=none)→∀ b∈fp,uF (bW X scope N' H2.objs.size { s with heap:=H2 } (upd H s.heap.objs.size (.lst [])) fp) [] H' b:=fun hn b hb=>
   ⟨hn b hb,qU (by show b<H2.objs.size;rw [hC];exact jY (lt3 b hb)),I4.ok.exfs b hb,.inl hb,fun x c e=>(I4.ok.exf b hb).2 x c e,fun p hp=>absurd (show p∈([]:List (Addr×Obj)) from hp) (by simp)⟩
  rcases turn i n ys σ6 H6 w6 hD6 with ⟨stop,qn⟩ | ⟨go,step⟩
  ·refine wpAny_bind (wpAny_standAt (wpAny_bind (thn (T.done (bW X scope N' H2.objs.size { s with heap:=H2 } (upd H s.heap.objs.size (.lst [])) fp) rfl rfl rfl hc i [] s6 _ H6 _ I6 (stat fr6) st6 stop) fun r s7 ⟨hr,I7⟩=>?_)))
   subst hr
   refine wpAny_pure ?_
   obtain ⟨m7,hn7,_⟩:=I7.loc
   refine fin _ _ s7 H6 m7 ?_ ?_ hn7 I7.free ?_ qn
   ·exact zx (by rw [hC];exact ju _)
   ·rw [hC];exact ju _
   ·refine I3.call' (ch:=fp) ?_ ?_ I7.hok I7.bare fun b hb=>?_
    ·exact I7.os
    ·exact I7.base
    ·obtain ⟨f0,f1,f2,f3,f4,f5⟩:=hf3 b hb
     exact ⟨f3,f1,f4,f5⟩
  ·refine wpAny_bind (wpAny_standAt (wpAny_bind (thn (T.item (bW X scope N' H2.objs.size { s with heap:=H2 } (upd H s.heap.objs.size (.lst [])) fp) rfl rfl rfl hc i [] s6 _ H6 _ I6 (stat fr6) st6 go) fun r s7 ⟨u,hr,h7⟩=>?_)))
   subst hr
   refine wpAny_bind (thn h7 fun _ s8 ⟨x,H8,I8,r8,y8,st8,fr8⟩=>?_)
   have I8':=I8.pinned (stat fr8) (T.obj _ _ st8)
   have bad:∀ {α:Type} {t:Sem α} {Q':α→Shared→Prop} {s':Shared} {E:Value→Shared→Prop},wpAny (model X.prog X.w) X.A t Q' (fun _ _=>False) s'→wpAny (model X.prog X.w) X.A t Q' E s':=fun h=>wpAny_mono h (fun _ _ q=>q) fun _ _ z=>z.elim
   refine wpAny_bind (bad (thn (hg _ _ _ _ _ s8 _ H8 x u _ I8' r8 (step x H8 y8)) fun _ s9 ⟨σ9,H9,I9,q9⟩=>?_))
   refine wpAny_bind (bad (thn (ht _ _ _ _ _ s9 σ9 H9 _ I9 q9) fun ok s10 ⟨H10,I10,q10⟩=>?_))
   have again:∀ {σ':St} {H':Hp} {ys':List V} {s':Shared} {m':Nat},Inv (bW X scope N' H2.objs.size { s with heap:=H2 } (upd H s.heap.objs.size (.lst [])) fp) ([]++wP fp s8.heap) σ' H' s'→H' s.heap.objs.size=some (.lst ys') →
     m'<n→W s.heap.objs.size (i+1) m' ys' σ' H' →
     ∃ m,m<n∧∃ i ys σ' H',Inv (bW X scope N' H2.objs.size { s with heap:=H2 } (upd H s.heap.objs.size (.lst [])) fp) [] σ' H' s'∧tn i s'.heap∧(∀ b∈fp,H' b=none)∧H' s.heap.objs.size=some (.lst ys)∧W s.heap.objs.size i m ys σ' H':=fun {σ' H' ys' s' m'} J' hD' hm' w'=>by
    refine ⟨m',hm',i+1,ys',σ',H',J'.unpinned,T.keep _ _ _ st8 fun b hb o e=>(J'.pin (b,o) (qW _ (qW _ (mQ hb e)))).1,fun b hb=>?_,hD',w'⟩
    obtain ⟨o,e,d⟩:=T.obj _ _ st8 b hb
    exact (J'.pin (b,o) (qW _ (qW _ (mQ hb e)))).2.1
   cases ok with
   | false=>
    obtain ⟨hD10,m',hm',w'⟩:=q10
    exact wpAny_pure ⟨rfl,again I10 hD10 hm' w'⟩
   | true=>
    refine wpAny_bind (wpAny_bind (wpAny_mono (he _ _ _ _ _ s10 σ9 H10 _ (I10.wish _) q10) (fun y s11 ⟨v,H11,I11w,r11,hD11,hlen,m',hm',w'⟩=>?_) fun e s' z=>hx _ { s with heap:=H2 } _ e s' I3 hf3 hD rfl (by show s.heap.objs.size≤H2.objs.size;rw [hC];exact ju _) z))
    have I11:=I11w.unwish
    refine wpAny_bind (bad <| thn (tL (X:=bW X scope N' H2.objs.size { s with heap:=H2 } (upd H s.heap.objs.size (.lst [])) fp) _ s11 σ9 H11 (.ref s.heap.objs.size) [v] (.ref s.heap.objs.size) [y] (fun _ H'=>H'=upd H11 s.heap.objs.size (.lst (ys++[v]))) I11 rfl (.cons r11 .nil) ⟨_,_,_,rfl,rfl,hD11,hlen,rfl⟩) fun _ s12 ⟨_,H12,I12,_,e12⟩=>?_)
    subst e12
    exact wpAny_pure (wpAny_pure ⟨rfl,again I12 aJ hm' w'⟩)
 exact ⟨rfl,codeAny_compStart_list (loop _ rfl) (T.self _ 0 _ _ _ st4 (loop _ rfl))⟩
theorem a3m {X:Cx} {elt iter tg:Expr} {ifs:List Expr} {scope:Scope} {pos:Pos} {N':List Str} {cap:List (Option Nat)} {pins:List (Addr×Obj)} {σ:St} {H:Hp} {s:Shared} {J:It} {it:Addr} {fp:List Addr} {tn:Nat→Heap→Prop}
  {g:TG} {tc:TT} {te:TE} {Q:VK} {RR:Value→Addr→Result→Shared→Prop} (hc:X.calm=true) (B:Blk X scope N' cap) (I:Inv X pins σ H s) (T:Turn X.prog X.w X.K tg J fp it tn) (st:tn 0 s.heap) (hf:∀ b∈fp,uF X pins H b)
  (hg:∀ C s₃ H₃ fp,PG (bW X scope N' C s₃ H₃ fp) tg g) (ht:∀ C s₃ H₃ fp,PTs (bW X scope N' C s₃ H₃ fp) ifs tc) (he:∀ C s₃ H₃ fp,PE (bW X scope N' C s₃ H₃ fp) elt te)
  (w:oZ J g tc te (eK cap σ) H Q)
  (fin:∀ D C s' H' m',s.heap.get? C=none→s.heap.objs.size≤C→s'.heap.Ns C m'→H' C=none→Inv X pins σ H' s'→Q (.ref D) H'→RR (.ref D) C (.ok .next) s') :
  wpAny (model X.prog X.w) X.A (newList []) (fun acc s₃=>wpAny (model X.prog X.w) X.A (newFunctionEnv scope X.env.globals (uA scope X.env) [] X.env.qual none .none (some X.env)) (fun cenv s₄=>
   codeAny (model X.prog X.w) X.A (.compStart (.ListComp elt [⟨tg,iter,ifs,0⟩] scope pos) 0 (.ref it) acc { cenv with scope:=relabel scope X.env }) (RR acc cenv.locals) s₄) X.xe s₃) X.xe s:=
 wpAny_mono (a0N (fun _ _ _ _ _ _=>False) hc B I T st hf hg ht he w (fun _ _ _ _ _ _ _ _ _ _ z=>z.elim) fin) (fun _ _ h=>wpAny_mono h (fun _ _ z=>z.2) fun _ _ z=>z) fun _ _ z=>z
def b2H (wi:TI) (cap:List (Option Nat)) (g:TG) (tc:TT) (te:TE):TE:=fun σ H Q=>wi σ H fun J H1=>oZ J g tc te (eK cap σ) H1 Q
section
variable {X:Cx} {elt iter tg:Expr} {ifs:List Expr} {scope:Scope} {pos spos:Pos} {N':List Str} {cap:List (Option Nat)} {wi:TI} {g:TG} {tc:TT} {te:TE}
theorem a5h (hc:X.calm=true) (B:Blk X scope N' cap) (hi:PI X tg iter wi)
  (hg:∀ C s₃ H₃ fp,PG (bW X scope N' C s₃ H₃ fp) tg g) (ht:∀ C s₃ H₃ fp,PTs (bW X scope N' C s₃ H₃ fp) ifs tc) (he:∀ C s₃ H₃ fp,PE (bW X scope N' C s₃ H₃ fp) elt te)
  (hs:∀ x,foldedSetIterable iter X.env x=pure x:=by intro _;rfl):PE X (.ListComp elt [⟨tg,iter,ifs,0⟩] scope pos) (b2H wi cap g tc te):=by
 intro pins s σ H Q I h
 rw [eval_ListComp]
 refine wpAny_comprehension_free (use:=none) rfl hs (gT fun p hp hk=>I.ok.has p.1 (.inl (B.free p hp hk))) B.kind B.names ?_
 refine thn (hi pins s σ H _ I h) fun v s1 h1=>thn h1 fun itv s2 ⟨it,fp,tn,J,H2,e,I2,T,st2,f2,w⟩=>?_
 subst e
 refine a3m (RR:=fun acc C=>compPost (model X.prog X.w) X.A X.xe none (EP X pins σ Q) acc C) hc B I2 T st2 f2 hg ht he w ?_
 intro D C s' H' m' hC hCs hn hCf I' q
 refine ⟨m',hn,fun h'' hs''=>⟨.ref D,H',?_,rfl,q⟩⟩
 refine I'.turned (t':=s'.toks) (it:=C) (fun b o hb e=>hs''.extBut b o hb e) hCf ?_ (.inr (qj I2.sz hCs)) ?_ ?_
 ·exact kC (qP I2.lt hCs)
 ·intro x c e z
  obtain ⟨v,q⟩:=I2.cell x c e
  exact absurd (qP q.lt (by rw [z];exact hCs)) (jG _)
 ·intro p hp z
  exact absurd (qP (qG (I2.pin p hp).1) (by rw [z];exact hCs)) (jG _)
theorem a5b {i:Nat} {x:Str} {pos':Pos} (hN:X.N.Nodup) (hxi:X.N[i]?=some x) (hx:X.env.scope.names.lookup x=some .local) (hc:X.calm=true) (B:Blk X scope N' cap) (hi:PI X tg iter wi)
  (hg:∀ C s₃ H₃ fp,PG (bW X scope N' C s₃ H₃ fp) tg g) (ht:∀ C s₃ H₃ fp,PTs (bW X scope N' C s₃ H₃ fp) ifs tc) (he:∀ C s₃ H₃ fp,PE (bW X scope N' C s₃ H₃ fp) elt te)
  (hsw:swapsWith (.ListComp elt [⟨tg,iter,ifs,0⟩] scope pos) (some (.Name x pos')) spos.line X.env=pure true)
  (hs:∀ x,foldedSetIterable iter X.env x=pure x:=by intro _;rfl) :
  PS X (.Assign [.Name x pos'] (.ListComp elt [⟨tg,iter,ifs,0⟩] scope pos) spos) (b0u (b2H wi cap g tc te) (a9v i)):=by
 intro pins s σ H Dn I h
 rw [exec_Assign_Name_used _ _ _ _ hsw]
 refine wpAny_bind (wpAny_standAt (wpAny_bind ?_))
 show wpAny _ X.A (do let _ ←comprehension (.ListComp elt [⟨tg,iter,ifs,0⟩] scope pos) scope X.env _ (newList []) false (eval iter X.env) (some (assign (.Name x pos') X.env))) _ _ s
 refine wpAny_bind (wpAny_mono (wpAny_comprehension_free (use:=some (assign (.Name x pos') X.env)) (Q:=fun _ s'=>SP X pins Dn .next s') rfl hs (gT fun p hp hk=>I.ok.has p.1 (.inl (B.free p hp hk))) B.kind B.names ?_) (fun _ s' hq=>wpAny_pure (wpAny_pure hq)) fun _ _ e=>e)
 refine thn (hi pins s σ H _ I h) fun v s1 h1=>thn h1 fun itv s2 ⟨it,fp,tn,J,H2,e,I2,T,st2,f2,w⟩=>?_
 subst e
 refine a3m (RR:=fun acc C=>compPost (model X.prog X.w) X.A X.xe (some (assign (.Name x pos') X.env)) (fun _ s'=>SP X pins Dn .next s') acc C) hc B I2 T st2 f2 hg ht he w ?_
 intro D C s' H' m' hC hCs hn hCf I' q
 have nL:C≠X.env.locals:=kC (qP I2.lt hCs)
 have nC:∀ y c,X.env.cells.lookup y=some c→c≠C:=fun y c e z=>by
  obtain ⟨v,q⟩:=I2.cell y c e
  exact absurd (qP q.lt (by rw [z];exact hCs)) (jG _)
 show wpAny _ X.A (assign (.Name x pos') X.env (.ref D)) _ _ _
 refine wpAny_assign_Name (a0d (v:=.ref D) I' hN hxi (.inl hx) rfl (fun s3 I3 ⟨a,hsb,ha⟩=>?_) (.inr hx))
 have ne:C≠a:=by
  rcases ha with z | z
  ·rw [z];exact nL
  ·exact fun y=>nC x a z y.symm
 refine ⟨m',hn.sameBut hsb ne,fun h'' hs''=>⟨_,H',?_,q⟩⟩
 refine I3.turned (t':=s3.toks) (it:=C) (fun b o hb e=>hs''.extBut b o hb e) hCf nL (.inr (qj I2.sz hCs)) nC ?_
 intro p hp z
 exact absurd (qP (qG (I2.pin p hp).1) (by rw [z];exact hCs)) (jG _)
end
end L2
namespace L2.L3
open PySem PySem.Spec PyProof.Rows PySem.W
def dW (K:Frag) (c:Str):Option Addr:=match nsIn K mainGlobals c with
 | some (some (.ref C))=>some C
 | _=>none
theorem a1O {K:Frag} {c:Str} {C:Addr} (h:dW K c=some C):nsIn K mainGlobals c=some (some (.ref C)):=by
 unfold dW at h
 split at h
 ·rename_i e;cases h;exact e
 ·cases h
structure ExO (h:Heap) (a C:Addr) (ox:Obj):Prop where
 at_:h.get? a=some ox
 cls:ox.cls=.ref C
theorem ExO.type {h:Heap} {a C:Addr} {ox:Obj} {M:Model} (I:ExO h a C ox):Looks M h (typeOf (.ref a)) (.ref C):=I.cls▸(Looks.ld I.at_).andThen .now
end L2.L3
namespace L2.L3
open PySem PySem.Spec PyProof.Rows
def lG:Key→PyData
 | .inl i=>.int i
 | .inr x=>.str x
mutual
inductive Rep (K:qB) (G:Hp):V→PyData→Prop
 | none:Rep K G .non .none
 | bool (b:Bool):Rep K G (.bl b) (.bool b)
 | int (i:Int):Rep K G (.int i) (.int i)
 | str (x:Str):Rep K G (.str x) (.str x)
 | list {a:Addr} {xs:List V} {ds:List PyData}:SqL K G a xs→RepAll K G xs ds→Rep K G (.ref a) (.list ds)
 | tuple {a:Addr} {xs:List V} {ds:List PyData}:SqT K G a xs→RepAll K G xs ds→Rep K G (.ref a) (.tuple ds)
 | dict {a:Addr} {kvs:List (Key×V)} {D:List (PyData×PyData)}:Rd G a (.dK kvs)→D.map (·.1)=kvs.map (fun p=>lG p.1)→RepAll K G (kvs.map (·.2)) (D.map (·.2))→Rep K G (.ref a) (.dict D)
inductive RepAll (K:qB) (G:Hp):List V→List PyData→Prop
 | nil:RepAll K G [] []
 | cons {v:V} {vs:List V} {d:PyData} {ds:List PyData}:Rep K G v d→RepAll K G vs ds→RepAll K G (v::vs) (d::ds)
end
theorem b0E {H H':Hp} {a:Addr} {u:HO} (e:aM H H') (h:Rd H a u):Rd H' a u:=h.imp (e _ _) fun ⟨o,h⟩=>⟨o,e _ _ h⟩
theorem pU {K:qB} {H H':Hp} {a:Addr} {xs:List V} (e:aM H H') (h:SqT K H a xs):SqT K H' a xs:=by
 rcases h with (h | ⟨o,h⟩) | h
 ·exact .inl (.inl (e _ _ h))
 ·exact .inl (.inr ⟨o,e _ _ h⟩)
 ·exact .inr h
section
variable {K:qB} {G G':Hp}
mutual
theorem Rep.mono (s:aM G G'):∀ {v:V} {d:PyData},Rep K G v d→Rep K G' v d
 | _,_,.none=>.none
 | _,_,.bool b=>.bool b
 | _,_,.int i=>.int i
 | _,_,.str x=>.str x
 | _,_,.list h r=>.list (s.seq h) (RepAll.mono s r)
 | _,_,.tuple h r=>.tuple (pU s h) (RepAll.mono s r)
 | _,_,.dict h e r=>.dict (b0E s h) e (RepAll.mono s r)
theorem RepAll.mono (s:aM G G'):∀ {vs:List V} {ds:List PyData},RepAll K G vs ds→RepAll K G' vs ds
 | _,_,.nil=>.nil
 | _,_,.cons r t=>.cons (Rep.mono s r) (RepAll.mono s t)
end
theorem RepAll.length:∀ {vs:List V} {ds:List PyData},RepAll K G vs ds→vs.length=ds.length
 | _,_,.nil=>rfl
 | _,_,.cons _ t=>by simp [RepAll.length t]
theorem RepAll.get:∀ {vs:List V} {ds:List PyData} {i:Nat} {d:PyData},RepAll K G vs ds→ds[i]?=some d→∃ v,vs[i]?=some v∧Rep K G v d
 | _,_,_,_,.nil,e=>by simp at e
 | _,_,0,_,.cons r _,e=>by simp at e;subst e;exact ⟨_,rfl,r⟩
 | _,_,i+1,d,.cons _ t,e=>by
  obtain ⟨u,h1,h2⟩:=RepAll.get (i:=i) (d:=d) t (by simpa using e)
  exact ⟨u,by simpa using h1,h2⟩
theorem RepAll.append:∀ {vs ws:List V} {ds es:List PyData},RepAll K G vs ds→RepAll K G ws es→RepAll K G (vs++ws) (ds++es)
 | _,_,_,_,.nil,h=>h
 | _,_,_,_,.cons r t,h=>.cons r (RepAll.append t h)
theorem RepAll.take:∀ {vs:List V} {ds:List PyData} (n:Nat),RepAll K G vs ds→RepAll K G (vs.take n) (ds.take n)
 | _,_,0,_=>.nil
 | _,_,_+1,.nil=>.nil
 | _,_,n+1,.cons r t=>.cons r (RepAll.take n t)
theorem RepAll.ints:∀ {vs:List V} {ns:List Int},RepAll K G vs (ns.map .int)→vs=ns.map V.int
 | [],[],_=>rfl
 | _,[],.nil=>rfl
 | _,n::r,.cons (.int _) t=>by rw [RepAll.ints (ns:=r) t];rfl
theorem RepAll.strs:∀ {vs:List V} {ns:List Str},RepAll K G vs (ns.map .str)→vs=ns.map V.str
 | [],[],_=>rfl
 | _,[],.nil=>rfl
 | _,n::r,.cons (.str _) t=>by rw [RepAll.strs (ns:=r) t];rfl
theorem RepAll.bools:∀ {vs:List V} {ns:List Bool},RepAll K G vs (ns.map .bool)→vs=ns.map V.bl
 | [],[],_=>rfl
 | _,[],.nil=>rfl
 | _,n::r,.cons (.bool _) t=>by rw [RepAll.bools (ns:=r) t];rfl
end
section
variable {P:Program} {w:World}
theorem a2Z:∀ {kvs:List (Key×V)} {vs:List (Key×Value)},KV kvs vs→kvs.map (·.1)=vs.map (·.1)∧aX (kvs.map (·.2)) (vs.map (·.2))
 | _,_,.nil=>⟨rfl,.nil⟩
 | _,_,.cons h t=>by
  obtain ⟨a,b⟩:=a2Z t
  exact ⟨by rw [qF,qF,a,h.1],.cons h.2 b⟩
theorem uI {h:Heap}:∀ {es:List DictEntry} {vs:List (Key×Value)},Pairs (bR P w) es vs→(∃ as,ReadsAll h (es.map (·.key)) (vs.map fun p=>lG p.1) as)∧es.map (·.val)=vs.map (·.2)
 | _,_,.nil=>⟨⟨_,.nil⟩,rfl⟩
 | e::es,kv::vs,.cons hk hv t=>by
  obtain ⟨⟨as,a⟩,b⟩:=uI (h:=h) t
  refine ⟨?_,by rw [qF,qF,b,hv]⟩
  rcases cD (show uQ kv.1 e.key=true from hk) with ⟨i,t,e1,e2⟩ | ⟨x,t,e1,e2⟩
  ·refine ⟨_,.cons (as:=[]) (by dsimp only;rw [e1,e2];exact .int i t) a⟩
  ·refine ⟨_,.cons (as:=[]) (by dsimp only;rw [e1,e2];exact .str x t) a⟩
end
section
variable {X:Cx} {pins:List (Addr×Obj)} {σ:St} {H:Hp} {s:Shared}
mutual
theorem Rep.reads (I:Inv X pins σ H s):∀ {v:V} {d:PyData} {u:Value},Rep X.K H v d→RelV v u→∃ as,Reads s.heap u d as
 | _,_,_,.none,r=>by cases r;exact ⟨_,.none⟩
 | _,_,_,.bool b,r=>by cases r;exact ⟨_,.bool b⟩
 | _,_,_,.int i,r=>by obtain ⟨t,rfl⟩:=r;exact ⟨_,.int i t⟩
 | _,_,_,.str x,r=>by obtain ⟨t,rfl⟩:=r;exact ⟨_,.str x t⟩
 | _,_,_,.list h q,r=>by
  cases r
  obtain ⟨its,rv,⟨o,n,e,hc,_,hd⟩,_⟩:=I.list h
  obtain ⟨as,z⟩:=RepAll.reads I q rv
  exact ⟨_,.list e hc hd (by simpa using z)⟩
 | _,_,_,.tuple h q,r=>by
  cases r
  obtain ⟨its,rv,⟨o,e,hc,n,hd⟩,_⟩:=I.tuple h
  obtain ⟨as,z⟩:=RepAll.reads I q rv
  exact ⟨_,.tuple e hc hd (by simpa using z)⟩
 | _,_,_,.dict h e0 q,r=>by
  cases r
  obtain ⟨hz,hS,vs,kv,o,es,ep,e,hex,hd,_,hp,_⟩:=h.ok I.hok
  obtain ⟨a1,a2⟩:=a2Z kv
  obtain ⟨⟨as,b1⟩,b2⟩:=uI (h:=s.heap) hp
  obtain ⟨bs,z⟩:=RepAll.reads I q a2
  refine ⟨_,.dict e hex.1 hd (as:=as) (bs:=bs) ?_ (by rw [b2];exact z)⟩
  rw [e0,show (fun p:Key×V=>lG p.1)=lG∘(·.1) from rfl,←jT,a1,jT];exact b1
theorem RepAll.reads (I:Inv X pins σ H s):∀ {vs:List V} {ds:List PyData} {us:List Value},RepAll X.K H vs ds→aX vs us→∃ as,ReadsAll s.heap us ds as
 | _,_,_,.nil,.nil=>⟨_,.nil⟩
 | _,_,_,.cons r t,.cons q w=>by
  obtain ⟨as,a⟩:=Rep.reads I r q
  obtain ⟨bs,b⟩:=RepAll.reads I t w
  exact ⟨_,.cons a b⟩
end
end
def bL:List Str:=["in_ending_order", "in_laying_order", "law", "_law_did", "by_heads", "best_choice"]
def lamQ (x:Str):Str:=x ++ ".<locals>." ++ "<lambda>"
def cdO (c:Addr) (q:Str):HO:=.ext fun h=>h.CodeRec (.ref c) q
def Tab (P:Addr) (q:Str) (H:Hp):Prop:=
 ∃ ps,H P=some (.tbl (q,ps))∧TriplesOk ps.toList∧∀ pos cv,codeAmong pos ps.toList=some cv→∃ c,cv=.ref c∧H c=some (cdO c q)
def NoT (G:Hp):Prop:=∀ b ps,G b≠some (.tbl ps)
def lJ (K:qB) (G H:Hp):Prop:=(∀ x∈bL,∀ c P,jc K x=some (c,P)→Tab P (lamQ x) H)∧NoT G
theorem NoT.upd {G:Hp} {a:Addr} {o:HO} (n:NoT G) (h:∀ ps,o≠.tbl ps):NoT (L2.upd G a o):=fun b ps e=>by
 by_cases hb:b=a
 ·subst hb;rw [aJ] at e;cases e;exact h _ rfl
 ·rw [aG hb] at e;exact n b ps e
theorem Tab.same {P:Addr} {q:Str} {H H':Hp} (t:Tab P q H) (s:aM H H'):Tab P q H':=by
 obtain ⟨ps,h1,h2,h3⟩:=t
 refine ⟨ps,s _ _ h1,h2,fun pos cv e=>?_⟩
 obtain ⟨c,e1,e2⟩:=h3 pos cv e
 exact ⟨c,e1,s _ _ e2⟩
theorem Tab.wr {P a:Addr} {q:Str} {H:Hp} {xs:List V} {o:HO} (t:Tab P q H) (h:H a=some (.lst xs)):Tab P q (upd H a o):=by
 obtain ⟨ps,h1,h2,h3⟩:=t
 refine ⟨ps,by rw [aG (bZ h1 h (by nofun))];exact h1,h2,fun pos cv e=>?_⟩
 obtain ⟨c,e1,e2⟩:=h3 pos cv e
 exact ⟨c,e1,by rw [aG (bZ e2 h (by unfold cdO;nofun))];exact e2⟩
structure Sm (H H':Hp):Prop where
 keep:∀ b o,H b=some o→(∀ ps,o≠.tbl ps)→H' b=some o
 tbl:∀ b ps,H b=some (.tbl ps)→∃ ps',H' b=some (.tbl ps')
 tab:∀ P q,Tab P q H→Tab P q H'
theorem Sm.of {H H':Hp} (s:aM H H'):Sm H H':=⟨fun b o h _=>s b o h,fun b ps h=>⟨ps,s _ _ h⟩,fun P q t=>t.same s⟩
theorem Sm.refl (H:Hp):Sm H H:=.of (.refl _)
theorem Sm.trans {H H1 H2:Hp} (a:Sm H H1) (b:Sm H1 H2):Sm H H2:=⟨fun c o h n=>b.keep c o (a.keep c o h n) n,fun c ps h=>by
 obtain ⟨p1,h1⟩:=a.tbl c ps h
 exact b.tbl c p1 h1,fun P q t=>b.tab P q (a.tab P q t)⟩
theorem Sm.ne {H H':Hp} (s:Sm H H') {b:Addr} {o:HO} (h:H b=some o):∃ o',H' b=some o':=by
 cases o with
 | tbl ps=>obtain ⟨p,e⟩:=s.tbl b ps h;exact ⟨_,e⟩
 | _=>exact ⟨_,s.keep b _ h (by nofun)⟩
theorem Sm.free {H H':Hp} (s:Sm H H') {l:Addr} (h:H' l=none):H l=none:=by
 cases q:H l with
 | none=>rfl
 | some o=>
  obtain ⟨o',e⟩:=s.ne q
  rw [h] at e;cases e
theorem Sm.lst {H H':Hp} (s:Sm H H') {l:Addr} {xs:List V} (h:H l=some (.lst xs)):H' l=some (.lst xs):=s.keep l _ h (by nofun)
theorem Sm.wr {H H':Hp} (s:Sm H H') {l:Addr} {xs:List V} {o:HO} (h0:H l=none) (h:H' l=some (.lst xs)):Sm H (upd H' l o):=
 ⟨fun b u e n=>by rw [aG (aL e h0)];exact s.keep b u e n,fun b ps e=>by rw [aG (aL e h0)];exact s.tbl b ps e,fun P q t=>(s.tab P q t).wr h⟩
theorem lJ.wr {K:qB} {G H:Hp} {a:Addr} {xs:List V} {o:HO} (t:lJ K G H) (h:H a=some (.lst xs)):lJ K G (upd H a o):=⟨fun x hx c P e=>(t.1 x hx c P e).wr h,t.2⟩
structure Grow (G H G' H':Hp):Prop where
 gg:aM G G'
 hh:Sm H H'
 sub:aM G' H'
 new:∀ a,G a=none→H a≠none→G' a=none
 nt:NoT G→NoT G'
theorem lJ.more {K:qB} {G H G' H':Hp} (t:lJ K G H) (g:Grow G H G' H'):lJ K G' H':=⟨fun x hx c P e=>g.hh.tab _ _ (t.1 x hx c P e),g.nt t.2⟩
theorem Grow.refl {G H:Hp} (s:aM G H):Grow G H G H:=⟨.refl _,.refl _,s,fun _ e _=>e,id⟩
theorem Grow.trans {G H G1 H1 G2 H2:Hp} (a:Grow G H G1 H1) (b:Grow G1 H1 G2 H2):Grow G H G2 H2:=
 ⟨a.gg.trans b.gg,a.hh.trans b.hh,b.sub,fun c e n=>b.new c (a.new c e n) (fun z=>by
  cases q:H c with
  | none=>exact n q
  | some o=>obtain ⟨o',e'⟩:=a.hh.ne q;rw [e'] at z;cases z),fun n=>b.nt (a.nt n)⟩
theorem cF {H:Hp} {p:Addr} {o:HO} (h:H p=none):aM H (upd H p o):=fun b u e=>by rw [aG (aL e h)];exact e
theorem a6t {G H:Hp} {p:Addr} {o:HO} (s:aM G H):aM (upd G p o) (upd H p o):=fun b u e=>by
 by_cases hb:b=p
 ·subst hb;rw [aJ] at e ⊢;exact e
 ·rw [aG hb] at e ⊢;exact s b u e
theorem Grow.put {G H:Hp} {p:Addr} {o:HO} (s:aM G H) (h:H p=none) (ho:∀ ps,o≠.tbl ps:=by nofun):Grow G H (upd G p o) (upd H p o):=
 ⟨cF (s.free h),.of (cF h),a6t s,fun a e n=>by rw [aG (fun z=>n (by rw [z];exact h))];exact e,fun n=>n.upd ho⟩
theorem Grow.side {G H:Hp} {p:Addr} {o:HO} (s:aM G H) (h:H p=none):Grow G H G (upd H p o):=
 ⟨.refl _,.of (cF h),s.trans (cF h),fun a e _=>e,id⟩
structure BS where
 sh:List (Key×PyData)
 dn:List PyData
 un:List PyData
def fG (K:qB):Addr:=match qp K mainGlobals "Binder" with
 | some (some (.ref C))=>C
 | _=>0
def bFs (d l1 l2:Addr):List (Str×V):=[("sheets", .ref d),("done", .ref l1),("undone", .ref l2)]
inductive Ent where
 | no
 | val (d:PyData)
 | lst (ds:List PyData)
 | exc (c:Str)
 | nst (dss:List (List PyData))
 | dct (kvs:List (Key×PyData))
 | adr (a:Addr)
 | ro (oa:Option Addr) (b:BS)
def xcO (a C:Addr):HO:=.ext fun h=>∃ ox,ExO h a C ox
def b8J (K:qB) (H0 G H:Hp) (b:Addr) (ds:List PyData):Prop:=∃ xs,H b=some (.lst xs)∧G b=none∧H0 b=none∧RepAll K G xs ds
def cY (K:qB) (G:Hp) (vs:List (Key×V)) (kvs:List (Key×PyData)):Prop:=vs.map (·.1)=kvs.map (·.1)∧RepAll K G (vs.map (·.2)) (kvs.map (·.2))
theorem cY.mono {K:qB} {G G':Hp} {vs:List (Key×V)} {kvs:List (Key×PyData)} (h:cY K G vs kvs) (s:aM G G'):cY K G' vs kvs:=⟨h.1,h.2.mono s⟩
def BOk (K:qB) (G H:Hp) (a:Addr) (b:BS) (fp:List Addr):Prop:=∃ dx d l1 l2 vs xs ys,fp=[a,dx,d,l1,l2]∧l1≠l2∧H a=some (.ins (fG K) dx (bFs d l1 l2))∧H dx=some (.own a)∧H d=some (.dK vs)∧H l1=some (.lst xs)∧H l2=some (.lst ys)∧cY K G vs b.sh∧RepAll K G xs b.dn∧RepAll K G ys b.un
theorem BOk.keep {K:qB} {G G' H H':Hp} {a:Addr} {b:BS} {fp:List Addr} (h:BOk K G H a b fp) (k:∀ x o,x∈fp→H x=some o→(∀ ps,o≠.tbl ps)→H' x=some o) (s:aM G G'):BOk K G' H' a b fp:=by
 obtain ⟨dx,d,l1,l2,vs,xs,ys,rfl,n,h1,h2,h3,h4,h5,r1,r2,r3⟩:=h
 exact ⟨dx,d,l1,l2,vs,xs,ys,rfl,n,k _ _ (by simp) h1 (by nofun),k _ _ (by simp) h2 (by nofun),k _ _ (by simp) h3 (by nofun),k _ _ (by simp) h4 (by nofun),k _ _ (by simp) h5 (by nofun),r1.mono s,r2.mono s,r3.mono s⟩
theorem BOk.there {K:qB} {G H:Hp} {a:Addr} {b:BS} {fp:List Addr} (h:BOk K G H a b fp):∀ x∈fp,∃ o,H x=some o∧∀ ps,o≠.tbl ps:=by
 obtain ⟨dx,d,l1,l2,vs,xs,ys,rfl,n,h1,h2,h3,h4,h5,_⟩:=h
 intro x hx
 simp only [qM,kA,or_false] at hx
 rcases hx with rfl | rfl | rfl | rfl | rfl
 ·exact ⟨_,h1,by nofun⟩
 ·exact ⟨_,h2,by nofun⟩
 ·exact ⟨_,h3,by nofun⟩
 ·exact ⟨_,h4,by nofun⟩
 ·exact ⟨_,h5,by nofun⟩
def oR (K:qB) (H0 G H:Hp) (o:Option V) (oa:Option Addr) (b:BS):Prop:=∃ a fp,o=some (.ref a)∧(∀ a',oa=some a'→a'=a)∧BOk K G H a b fp∧∀ x∈fp,H0 x≠none
theorem oR.mono {K:qB} {H0 G G' H:Hp} {o:Option V} {oa:Option Addr} {b:BS} (h:oR K H0 G H o oa b) (s:aM G G'):oR K H0 G' H o oa b:=by
 obtain ⟨a,fp,e,e2,r,n⟩:=h
 exact ⟨a,fp,e,e2,r.keep (fun _ _ _ z _=>z) s,n⟩
theorem oR.wr {K:qB} {H0 G H:Hp} {o:Option V} {oa:Option Addr} {b:BS} {x:Addr} {u:HO} (h:oR K H0 G H o oa b) (hx:H0 x=none):oR K H0 G (upd H x u) o oa b:=by
 obtain ⟨a,fp,e,e2,r,n⟩:=h
 exact ⟨a,fp,e,e2,r.keep (fun y _ hy z _=>by rw [aG (fun w:y=x=>n y hy (by rw [w];exact hx))];exact z) (.refl _),n⟩
theorem oR.more {K:qB} {H0 G H G' H':Hp} {o:Option V} {oa:Option Addr} {b:BS} (h:oR K H0 G H o oa b) (g:aM G G') (k:Sm H H'):oR K H0 G' H' o oa b:=by
 obtain ⟨a,fp,e,e2,r,n⟩:=h
 exact ⟨a,fp,e,e2,r.keep (fun y o _ z w=>k.keep y o z w) g,n⟩
def yG (K:qB) (H0 G H:Hp) (o:Option V):Ent→Prop
 | .no=>True
 | .val d=>∃ v,o=some v∧Rep K G v d
 | .lst ds=>∃ a xs,o=some (.ref a)∧H a=some (.lst xs)∧G a=none∧H0 a=none∧RepAll K G xs ds
 | .exc c=>∃ a C,o=some (.ref a)∧dW K c=some C∧H a=some (xcO a C)
 | .nst dss=>∃ a bs,o=some (.ref a)∧H a=some (.lst (bs.map V.ref))∧G a=none∧H0 a=none∧a∉bs∧bs.Nodup∧Paired (b8J K H0 G H) bs dss
 | .dct kvs=>∃ a vs,o=some (.ref a)∧H a=some (.dK vs)∧G a=none∧H0 a=none∧cY K G vs kvs
 | .adr a=>o=some (.ref a)
 | .ro oa b=>oR K H0 G H o oa b
def xH:Ent→Bool
 | .lst _=>true
 | .nst _=>true
 | .dct _=>true
 | _=>false
structure Inj (H:Hp) (σ:St) (ρ:List Ent):Prop where
 two:∀ (i j:Nat) (a:Addr) (ds es:List PyData),i≠j→σ[i]?=some (some (.ref a))→ρ[i]?=some (.lst ds)→σ[j]?=some (some (.ref a))→ρ[j]?=some (.lst es)→False
 mix:∀ (i j:Nat) (a a':Addr) (ds:List PyData) (dss:List (List PyData)),σ[i]?=some (some (.ref a))→ρ[i]?=some (.lst ds)→σ[j]?=some (some (.ref a'))→ρ[j]?=some (.nst dss)→a≠a'∧∀ vs,H a'=some (.lst vs)→V.ref a∉vs
 one:∀ (i j:Nat) (dss ess:List (List PyData)),ρ[i]?=some (.nst dss)→ρ[j]?=some (.nst ess)→i=j
 oneD:∀ (i j:Nat) (ks ls:List (Key×PyData)),ρ[i]?=some (.dct ks)→ρ[j]?=some (.dct ls)→i=j
theorem Inj.sub {H:Hp} {σ σ':St} {ρ ρ':List Ent} (I:Inj H σ ρ) (h:∀ (i:Nat) (e:Ent),ρ'[i]?=some e→xH e=true→ρ[i]?=some e∧σ'[i]?=σ[i]?):Inj H σ' ρ':=by
 refine ⟨fun i j a ds es n h1 h2 h3 h4=>?_,fun i j a a' ds dss h1 h2 h3 h4=>?_,fun i j dss ess h1 h2=>?_,fun i j ks ls h1 h2=>I.oneD i j ks ls (h i _ h1 rfl).1 (h j _ h2 rfl).1⟩
 ·obtain ⟨x1,x2⟩:=h i _ h2 rfl
  obtain ⟨y1,y2⟩:=h j _ h4 rfl
  rw [x2] at h1;rw [y2] at h3
  exact I.two i j a ds es n h1 x1 h3 y1
 ·obtain ⟨x1,x2⟩:=h i _ h2 rfl
  obtain ⟨y1,y2⟩:=h j _ h4 rfl
  rw [x2] at h1;rw [y2] at h3
  exact I.mix i j a a' ds dss h1 x1 h3 y1
 ·exact I.one i j dss ess (h i _ h1 rfl).1 (h j _ h2 rfl).1
theorem Inj.other {H H':Hp} {σ:St} {ρ:List Ent} (I:Inj H σ ρ) (h:∀ (j:Nat) (a':Addr) (dss:List (List PyData)),σ[j]?=some (some (.ref a'))→ρ[j]?=some (.nst dss)→∀ vs,H' a'=some (.lst vs)→H a'=some (.lst vs)):Inj H' σ ρ:=
 ⟨I.two,fun i j a a' ds dss h1 h2 h3 h4=>⟨(I.mix i j a a' ds dss h1 h2 h3 h4).1,fun vs e=>(I.mix i j a a' ds dss h1 h2 h3 h4).2 vs (h j a' dss h3 h4 vs e)⟩,I.one,I.oneD⟩
theorem Inj.free {H:Hp} {σ:St} {ρ:List Ent} (h:∀ (i:Nat) (e:Ent),ρ[i]?=some e→xH e=false):Inj H σ ρ:=
 ⟨fun i j a ds es n h1 h2 h3 h4=>ka (h i _ h2),fun i j a a' ds dss h1 h2 h3 h4=>ka (h i _ h2),fun i j dss ess h1 h2=>ka (h i _ h1),fun i j ks ls h1 h2=>ka (h i _ h1)⟩
theorem mP {α β:Type} {F F':α→β→Prop}:∀ {l:List α} {m:List β},Paired F l m→(∀ a b,a∈l→F a b→F' a b)→Paired F' l m
 | _,_,.nil,_=>.nil
 | _,_,.cons r t,h=>.cons (h _ _ qd r) (mP t fun a b ha=>h a b (qE _ ha))
theorem a0p {α β:Type} {F:α→β→Prop} {a:α}:∀ {l:List α} {m:List β},Paired F l m→a∈l→∃ b,F a b
 | _,_,.cons r t,h=>by
  rcases qM.mp h with rfl | h
  ·exact ⟨_,r⟩
  ·exact a0p t h
structure RepS (K:qB) (H0 G₀ G H:Hp) (σ:St) (ρ:List Ent):Prop where
 grow:Grow G₀ H0 G H
 len:σ.length=ρ.length
 ent:∀ (i:Nat) (o:Option V) (e:Ent),σ[i]?=some o→ρ[i]?=some e→yG K H0 G H o e
 inj:Inj H σ ρ
 tab:lJ K G H
theorem yG.more {K:qB} {H0 G H G' H':Hp} {o:Option V} {e:Ent} (g:Grow G H G' H') (h:yG K H0 G H o e):yG K H0 G' H' o e:=by
 cases e with
 | no=>trivial
 | val d=>obtain ⟨v,e,r⟩:=h;exact ⟨v,e,r.mono g.gg⟩
 | lst ds=>
  obtain ⟨a,xs,e,h1,h2,h3,r⟩:=h
  exact ⟨a,xs,e,g.hh.lst h1,g.new a h2 (by rw [h1];simp),h3,r.mono g.gg⟩
 | exc c=>obtain ⟨a,C,e,h1,h2⟩:=h;exact ⟨a,C,e,h1,g.hh.keep a _ h2 (by unfold xcO;nofun)⟩
 | nst dss=>
  obtain ⟨a,bs,e,h1,h2,h3,h4,h5,r⟩:=h
  exact ⟨a,bs,e,g.hh.lst h1,g.new a h2 (by rw [h1];simp),h3,h4,h5,Paired.mapP r fun b ds ⟨xs,x1,x2,x3,x4⟩=>⟨xs,g.hh.lst x1,g.new b x2 (by rw [x1];simp),x3,x4.mono g.gg⟩⟩
 | dct kvs=>
  obtain ⟨a,vs,e,h1,h2,h3,r⟩:=h
  exact ⟨a,vs,e,g.hh.keep a _ h1 (by nofun),g.new a h2 (by rw [h1];simp),h3,r.mono g.gg⟩
 | adr a=>exact h
 | ro oa b=>exact oR.more h g.gg g.hh
section
variable {K:qB} {H0 G₀ G H G' H':Hp} {σ:St} {ρ:List Ent}
theorem RepS.more (R:RepS K H0 G₀ G H σ ρ) (g:Grow G H G' H'):RepS K H0 G₀ G' H' σ ρ:=
 ⟨R.grow.trans g,R.len,fun i o e h1 h2=>(R.ent i o e h1 h2).more g,R.inj.other (fun j a' dss h1 h2 vs e=>by
  obtain ⟨a,bs,e1,e2,_⟩:=R.ent j _ _ h1 h2
  cases e1
  rw [g.hh.lst e2] at e
  cases e
  exact e2),R.tab.more g⟩
theorem RepS.sub (R:RepS K H0 G₀ G H σ ρ):aM G H:=R.grow.sub
theorem RepS.at {i:Nat} {e:Ent} (R:RepS K H0 G₀ G H σ ρ) (h:ρ[i]?=some e):∃ o,σ[i]?=some o∧yG K H0 G H o e:=by
 have hi:i<σ.length:=by rw [R.len];exact (qS.mp h).1
 exact ⟨σ[i],by simp [hi],R.ent i _ e (by simp [hi]) h⟩
theorem RepS.val {i:Nat} {d:PyData} (R:RepS K H0 G₀ G H σ ρ) (h:ρ[i]?=some (.val d)):∃ v,σ[i]?=some (some v)∧Rep K G v d:=by
 obtain ⟨o,e,v,rfl,r⟩:=R.at h
 exact ⟨v,e,r⟩
theorem RepS.own {i:Nat} {ds:List PyData} (R:RepS K H0 G₀ G H σ ρ) (h:ρ[i]?=some (.lst ds)):∃ a xs,σ[i]?=some (some (.ref a))∧H a=some (.lst xs)∧G a=none∧H0 a=none∧RepAll K G xs ds:=by
 obtain ⟨o,e,a,xs,rfl,r⟩:=R.at h
 exact ⟨a,xs,e,r⟩
theorem aP {α:Type} {l:List α} {i j:Nat} {x y:α} (h:(l.set i x)[j]?=some y):(j=i∧y=x∧i<l.length)∨(j≠i∧l[j]?=some y):=by
 by_cases e:j=i
 ·subst e
  have hl:j<l.length:=by
   have:=(qS.mp h).1
   simpa using this
  rw [jn hl] at h
  exact .inl ⟨rfl,(qA h).symm,hl⟩
 ·rw [qt (qr e)] at h
  exact .inr ⟨e,h⟩
theorem RepS.set {i:Nat} {v:V} {d:PyData} (R:RepS K H0 G₀ G H σ ρ) (r:Rep K G v d):RepS K H0 G₀ G H (σ.set i (some v)) (ρ.set i (.val d)):=by
 refine ⟨R.grow,by simp [R.len],fun j o e h1 h2=>?_,R.inj.sub fun j e h1 h2=>?_,R.tab⟩
 ·rcases aP h1 with ⟨rfl,rfl,_⟩ | ⟨n,h1⟩
  ·rcases aP h2 with ⟨_,rfl,_⟩ | ⟨n,_⟩
   ·exact ⟨v,rfl,r⟩
   ·exact absurd rfl n
  ·rcases aP h2 with ⟨z,_⟩ | ⟨_,h2⟩
   ·exact absurd z n
   ·exact R.ent j o e h1 h2
 ·rcases aP h1 with ⟨_,rfl,_⟩ | ⟨n,h1⟩
  ·cases h2
  ·exact ⟨h1,qt (qr n)⟩
theorem RepS.freeze {i:Nat} {ds:List PyData} (R:RepS K H0 G₀ G H σ ρ) (h:ρ[i]?=some (.lst ds)):∃ G',aM G G'∧RepS K H0 G₀ G' H σ (ρ.set i (.val (.list ds))):=by
 obtain ⟨a,xs,e,h1,h2,h3,r⟩:=R.own h
 have gg:aM G (upd G a (.lst xs)):=cF h2
 refine ⟨upd G a (.lst xs),gg,⟨⟨R.grow.gg.trans gg,R.grow.hh,fun b o q=>?_,fun b q n=>?_,fun n=>(R.grow.nt n).upd (by nofun)⟩,by simp [R.len],fun j o e' q1 q2=>?_,R.inj.sub fun j e h1 h2=>?_,R.tab.1,R.tab.2.upd (by nofun)⟩⟩
 ·by_cases hb:b=a
  ·subst hb;rw [aJ] at q;cases q;exact h1
  ·rw [aG hb] at q;exact R.sub b o q
 ·have nb:b≠a:=fun z=>n (by rw [z];exact h3)
  rw [aG nb];exact R.grow.new b q n
 ·rcases aP q2 with ⟨rfl,rfl,_⟩ | ⟨nj,q2⟩
  ·rw [e] at q1;cases q1
   exact ⟨.ref a,rfl,.list (.of aJ) (r.mono gg)⟩
  ·have E:=R.ent j o e' q1 q2
   cases e' with
   | no=>trivial
   | val d=>obtain ⟨v,z,rv⟩:=E;exact ⟨v,z,rv.mono gg⟩
   | lst es=>
    obtain ⟨b,ys,z,g1,g2,g3,rv⟩:=E
    have nb:b≠a:=fun w=>by
     subst w z
     exact R.inj.two j i b es ds nj q1 q2 e h
    exact ⟨b,ys,z,g1,by rw [aG nb];exact g2,g3,rv.mono gg⟩
   | exc c=>exact E
   | nst dss=>
    obtain ⟨b,bs,z,g1,g2,g3,g4,g5,rv⟩:=E
    subst z
    obtain ⟨m1,m2⟩:=R.inj.mix i j a b ds dss e h q1 q2
    have ni:∀ c∈bs,c≠a:=fun c hc w=>m2 _ g1 (by subst w;exact je.mpr ⟨c,hc,rfl⟩)
    exact ⟨b,bs,rfl,g1,by rw [aG (qr m1)];exact g2,g3,g4,g5,mP rv fun c dd hc ⟨xs',x1,x2,x3,x4⟩=>⟨xs',x1,by rw [aG (ni c hc)];exact x2,x3,x4.mono gg⟩⟩
   | dct kvs=>
    obtain ⟨b,vs,z,g1,g2,g3,rv⟩:=E
    exact ⟨b,vs,z,g1,by rw [aG (bZ g1 h1 (by nofun))];exact g2,g3,rv.mono gg⟩
   | adr a=>exact E
   | ro oa b=>exact oR.mono E gg
 ·rcases aP h1 with ⟨_,rfl,_⟩ | ⟨n,h1⟩
  ·cases h2
  ·exact ⟨h1,rfl⟩
theorem RepS.wrote {i:Nat} {a:Addr} {ds ds':List PyData} {xs:List V} (R:RepS K H0 G₀ G H σ ρ) (h:ρ[i]?=some (.lst ds)) (e:σ[i]?=some (some (.ref a))) (r:RepAll K G xs ds'):RepS K H0 G₀ G (upd H a (.lst xs)) σ (ρ.set i (.lst ds')):=by
 obtain ⟨a',xs',e',h1,h2,h3,_⟩:=R.own h
 rw [e] at e';cases e'
 refine ⟨⟨R.grow.gg,R.grow.hh.wr h3 h1,fun b o q=>?_,fun b q n=>R.grow.new b q n,R.grow.nt⟩,by simp [R.len],fun j o e' q1 q2=>?_,⟨fun j k b es fs hjk q1 q2 q3 q4=>?_,fun j k b a' es dss q1 q2 q3 q4=>?_,fun j k dss ess q1 q2=>?_,fun j k ks ls q1 q2=>?_⟩,R.tab.wr h1⟩
 ·rw [aG (aL q h2)];exact R.sub b o q
 ·rcases aP q2 with ⟨rfl,rfl,_⟩ | ⟨nj,q2⟩
  ·rw [e] at q1;cases q1
   exact ⟨a,xs,rfl,aJ,h2,h3,r⟩
  ·have E:=R.ent j o e' q1 q2
   cases e' with
   | no=>trivial
   | val d=>exact E
   | lst es=>
    obtain ⟨b,ys,z,g1,g2,g3,rv⟩:=E
    have nb:b≠a:=fun w=>by
     subst w z
     exact R.inj.two j i b es ds nj q1 q2 e h
    exact ⟨b,ys,z,by rw [aG nb];exact g1,g2,g3,rv⟩
   | exc c=>obtain ⟨b,C,z,g1,g2⟩:=E;exact ⟨b,C,z,g1,by rw [aG (bZ g2 h1 (by unfold xcO;nofun))];exact g2⟩
   | nst dss=>
    obtain ⟨b,bs,z,g1,g2,g3,g4,g5,rv⟩:=E
    subst z
    obtain ⟨m1,m2⟩:=R.inj.mix i j a b ds dss e h q1 q2
    have ni:∀ c∈bs,c≠a:=fun c hc w=>m2 _ g1 (by subst w;exact je.mpr ⟨c,hc,rfl⟩)
    exact ⟨b,bs,rfl,by rw [aG (qr m1)];exact g1,g2,g3,g4,g5,mP rv fun c dd hc ⟨xs',x1,x2,x3,x4⟩=>⟨xs',by rw [aG (ni c hc)];exact x1,x2,x3,x4⟩⟩
   | dct kvs=>
    obtain ⟨b,vs,z,g1,g2,g3,rv⟩:=E
    exact ⟨b,vs,z,by rw [aG (bZ g1 h1 (by nofun))];exact g1,g2,g3,rv⟩
   | adr a=>exact E
   | ro oa b=>exact oR.wr E h3
 ·rcases aP q2 with ⟨rfl,_,_⟩ | ⟨n2,q2⟩
  ·rcases aP q4 with ⟨z,_,_⟩ | ⟨n4,q4⟩
   ·exact hjk z.symm
   ·exact R.inj.two j k b ds fs hjk q1 h q3 q4
  ·rcases aP q4 with ⟨z,_,_⟩ | ⟨n4,q4⟩
   ·subst z;exact R.inj.two j k b es ds hjk q1 ‹ρ[j]?=some (Ent.lst es)› q3 h
   ·exact R.inj.two j k b es fs hjk q1 ‹ρ[j]?=some (Ent.lst es)› q3 q4
 ·rcases aP q4 with ⟨_,z,_⟩ | ⟨_,q4⟩
  ·cases z
  ·have old:∃ fs,ρ[j]?=some (.lst fs):=by
    rcases aP q2 with ⟨rfl,_,_⟩ | ⟨_,q2⟩
    ·exact ⟨_,h⟩
    ·exact ⟨_,q2⟩
   obtain ⟨fs,q2⟩:=old
   obtain ⟨m1,m2⟩:=R.inj.mix j k b a' fs dss q1 q2 q3 q4
   have m3:=(R.inj.mix i k a a' ds dss e h q3 q4).1
   exact ⟨m1,fun vs z=>m2 vs (by rw [aG (qr m3)] at z;exact z)⟩
 ·rcases aP q1 with ⟨_,z,_⟩ | ⟨_,q1⟩
  ·cases z
  ·rcases aP q2 with ⟨_,z,_⟩ | ⟨_,q2⟩
   ·cases z
   ·exact R.inj.one j k dss ess q1 q2
 ·rcases aP q1 with ⟨_,z,_⟩ | ⟨_,q1⟩
  ·cases z
  ·rcases aP q2 with ⟨_,z,_⟩ | ⟨_,q2⟩
   ·cases z
   ·exact R.inj.oneD j k ks ls q1 q2
theorem RepS.fresh {i:Nat} {p:Addr} {ds:List PyData} {xs:List V} (R:RepS K H0 G₀ G H σ ρ) (h:H p=none) (r:RepAll K G xs ds):RepS K H0 G₀ G (upd H p (.lst xs)) (σ.set i (some (.ref p))) (ρ.set i (.lst ds)):=by
 have R':=R.more (Grow.side (o:=.lst xs) R.sub h)
 refine ⟨R'.grow,by simp [R.len],fun j o e h1 h2=>?_,⟨fun j k a es fs hjk h1 h2 h3 h4=>?_,fun j k b a' es dss q1 q2 q3 q4=>?_,fun j k dss ess q1 q2=>?_,fun j k ks ls q1 q2=>?_⟩,R'.tab⟩
 ·rcases aP h1 with ⟨rfl,rfl,_⟩ | ⟨n,h1⟩
  ·rcases aP h2 with ⟨_,rfl,_⟩ | ⟨n,_⟩
   ·exact ⟨p,xs,rfl,aJ,R.sub.free h,R.grow.hh.free h,r⟩
   ·exact absurd rfl n
  ·rcases aP h2 with ⟨z,_⟩ | ⟨_,h2⟩
   ·exact absurd z n
   ·exact R'.ent j o e h1 h2
 ·have old:∀ j es,j≠i→σ[j]?=some (some (.ref p))→ρ[j]?=some (.lst es)→False:=fun j es _ q1 q2=>by
   obtain ⟨b,ys,e,g1,_⟩:=R.own q2
   rw [q1] at e;cases e
   rw [h] at g1;cases g1
  rcases aP h2 with ⟨rfl,_,_⟩ | ⟨n2,h2⟩
  ·rcases aP h1 with ⟨_,z,_⟩ | ⟨n,_⟩
   ·cases z
    rcases aP h4 with ⟨z,_,_⟩ | ⟨n4,h4⟩
    ·exact hjk z.symm
    ·rw [qt (qr n4)] at h3
     exact old k fs n4 h3 h4
   ·exact absurd rfl n
  ·rw [qt (qr n2)] at h1
   rcases aP h4 with ⟨zk,_,_⟩ | ⟨n4,h4⟩
   ·subst zk
    rcases aP h3 with ⟨_,z,_⟩ | ⟨n,_⟩
    ·cases z;exact old j es n2 h1 ‹ρ[j]?=some (Ent.lst es)›
    ·exact absurd rfl n
   ·rw [qt (qr n4)] at h3
    exact R.inj.two j k a es fs hjk h1 h2 h3 h4
 ·rcases aP q4 with ⟨_,z,_⟩ | ⟨n4,q4⟩
  ·cases z
  ·rw [qt (qr n4)] at q3
   obtain ⟨a1,bs,z,g1,g2,g3,g4,g5,rv⟩:=R.ent k _ _ q3 q4
   have z':a'=a1:=by cases z;rfl
   subst z'
   have pa:a'≠p:=aL g1 h
   have pb:V.ref p∉bs.map V.ref:=fun z=>by
    obtain ⟨c,hc,e⟩:=je.mp z
    cases e
    obtain ⟨dd,⟨xs',x1,_⟩⟩:=a0p rv hc
    rw [h] at x1;cases x1
   rcases aP q2 with ⟨rfl,_,_⟩ | ⟨n2,q2⟩
   ·rcases aP q1 with ⟨_,z,_⟩ | ⟨n,_⟩
    ·cases z
     exact ⟨qr pa,fun vs e=>by rw [aG pa,g1] at e;cases e;exact pb⟩
    ·exact absurd rfl n
   ·rw [qt (qr n2)] at q1
    obtain ⟨m1,m2⟩:=R.inj.mix j k b a' es dss q1 q2 q3 q4
    exact ⟨m1,fun vs e=>m2 vs (by rw [aG pa] at e;exact e)⟩
 ·rcases aP q1 with ⟨_,z,_⟩ | ⟨_,q1⟩
  ·cases z
  ·rcases aP q2 with ⟨_,z,_⟩ | ⟨_,q2⟩
   ·cases z
   ·exact R.inj.one j k dss ess q1 q2
 ·rcases aP q1 with ⟨_,z,_⟩ | ⟨_,q1⟩
  ·cases z
  ·rcases aP q2 with ⟨_,z,_⟩ | ⟨_,q2⟩
   ·cases z
   ·exact R.inj.oneD j k ks ls q1 q2
theorem RepS.ownD {i:Nat} {kvs:List (Key×PyData)} (R:RepS K H0 G₀ G H σ ρ) (h:ρ[i]?=some (.dct kvs)):∃ a vs,σ[i]?=some (some (.ref a))∧H a=some (.dK vs)∧G a=none∧H0 a=none∧cY K G vs kvs:=by
 obtain ⟨o,e,a,vs,rfl,r⟩:=R.at h
 exact ⟨a,vs,e,r⟩
theorem RepS.freezeD {i:Nat} {kvs:List (Key×PyData)} (R:RepS K H0 G₀ G H σ ρ) (h:ρ[i]?=some (.dct kvs)):∃ G',aM G G'∧RepS K H0 G₀ G' H σ (ρ.set i (.val (.dict (kvs.map fun p=>(lG p.1,p.2))))):=by
 obtain ⟨a,vs,e,h1,h2,h3,r⟩:=R.ownD h
 have gg:aM G (upd G a (.dK vs)):=cF h2
 refine ⟨upd G a (.dK vs),gg,⟨⟨R.grow.gg.trans gg,R.grow.hh,fun b o q=>?_,fun b q n=>?_,fun n=>(R.grow.nt n).upd (by nofun)⟩,by simp [R.len],fun j o e' q1 q2=>?_,R.inj.sub fun j e h1 h2=>?_,R.tab.1,R.tab.2.upd (by nofun)⟩⟩
 ·by_cases hb:b=a
  ·subst hb;rw [aJ] at q;cases q;exact h1
  ·rw [aG hb] at q;exact R.sub b o q
 ·have nb:b≠a:=fun z=>n (by rw [z];exact h3)
  rw [aG nb];exact R.grow.new b q n
 ·rcases aP q2 with ⟨rfl,rfl,_⟩ | ⟨nj,q2⟩
  ·rw [e] at q1;cases q1
   refine ⟨.ref a,rfl,.dict (kvs:=vs) (.inl aJ) ?_ ?_⟩
   ·rw [jT]
    have:=congrArg (List.map lG) r.1
    rw [jT,jT] at this
    exact this.symm
   ·rw [jT];exact r.2.mono gg
  ·have E:=R.ent j o e' q1 q2
   cases e' with
   | no=>trivial
   | val d=>obtain ⟨v,z,rv⟩:=E;exact ⟨v,z,rv.mono gg⟩
   | lst es=>
    obtain ⟨b,ys,z,g1,g2,g3,rv⟩:=E
    exact ⟨b,ys,z,g1,by rw [aG (bZ g1 h1 (by nofun))];exact g2,g3,rv.mono gg⟩
   | exc c=>exact E
   | nst dss=>
    obtain ⟨b,bs,z,g1,g2,g3,g4,g5,rv⟩:=E
    exact ⟨b,bs,z,g1,by rw [aG (bZ g1 h1 (by nofun))];exact g2,g3,g4,g5,mP rv fun c dd hc ⟨xs',x1,x2,x3,x4⟩=>⟨xs',x1,by rw [aG (bZ x1 h1 (by nofun))];exact x2,x3,x4.mono gg⟩⟩
   | dct ks=>exact absurd (R.inj.oneD j i ks kvs q2 h) nj
   | adr a=>exact E
   | ro oa b=>exact oR.mono E gg
 ·rcases aP h1 with ⟨_,rfl,_⟩ | ⟨n,h1⟩
  ·cases h2
  ·exact ⟨h1,rfl⟩
end
structure PD (X:Cx) (e:Expr) (ρ:List Ent) (d:PyData):Prop where
 run:∀ (H0 G₀ G:Hp) (pins:List (Addr×Obj)) (s:Shared) (σ:St) (H:Hp) (Q:VK),Inv X pins σ H s→RepS X.K H0 G₀ G H σ ρ→(∀ v G' H',Grow G H G' H'→Rep X.K G' v d→Q v H') →
  wpAny (model X.prog X.w) X.A (eval e X.env) (EP X pins σ Q) X.xe s
structure PTD (X:Cx) (e:Expr) (ρ:List Ent) (b:Bool):Prop where
 run:∀ (H0 G₀ G:Hp) (pins:List (Addr×Obj)) (s:Shared) (σ:St) (H:Hp) (Q:Bool→Hp→Prop),Inv X pins σ H s→RepS X.K H0 G₀ G H σ ρ→(∀ G' H',Grow G H G' H'→Q b H') →
  wpAny (model X.prog X.w) X.A (isTrue e X.env (eval e X.env)) (TP X pins σ Q) X.xe s
structure PAD (X:Cx) (es:List Expr) (ρ:List Ent) (ds:List PyData):Prop where
 run:∀ (H0 G₀ G:Hp) (pos:Pos) (pins:List (Addr×Obj)) (s:Shared) (σ:St) (H:Hp) (Q:List V→Hp→Prop),Inv X pins σ H s→RepS X.K H0 G₀ G H σ ρ→(∀ vs G' H',Grow G H G' H'→RepAll X.K G' vs ds→Q vs H') →
  wpAny (model X.prog X.w) X.A (spliced (backTo pos (starEach es X.env))) (AP X pins σ Q) X.xe s
def tD (X:Cx) (ρ:List Ent) (d:PyData):TE:=fun σ H Q=>∃ H0 G₀ G,RepS X.K H0 G₀ G H σ ρ∧∀ v G' H',Grow G H G' H'→Rep X.K G' v d→Q v H'
def tTD (X:Cx) (ρ:List Ent) (b:Bool):TT:=fun σ H Q=>∃ H0 G₀ G,RepS X.K H0 G₀ G H σ ρ∧∀ G' H',Grow G H G' H'→Q b H'
def tAD (X:Cx) (ρ:List Ent) (ds:List PyData):TA:=fun σ H Q=>∃ H0 G₀ G,RepS X.K H0 G₀ G H σ ρ∧∀ vs G' H',Grow G H G' H'→RepAll X.K G' vs ds→Q vs H'
section
variable {X:Cx} {e a b c:Expr} {es:List Expr} {ρ:List Ent} {d da db dc:PyData} {ds:List PyData} {pos p:Pos}
theorem PD.pe (h:PD X e ρ d):PE X e (tD X ρ d):=fun pins s σ H Q I ⟨H0,G₀,G,R,k⟩=>h.run H0 G₀ G pins s σ H Q I R k
theorem PTD.pt {b:Bool} (h:PTD X e ρ b):PT X e (tTD X ρ b):=fun pins s σ H Q I ⟨H0,G₀,G,R,k⟩=>h.run H0 G₀ G pins s σ H Q I R k
theorem PAD.pa (h:PAD X es ρ ds):PA X es (tAD X ρ ds):=fun pos pins s σ H Q I ⟨H0,G₀,G,R,k⟩=>h.run H0 G₀ G pos pins s σ H Q I R k
theorem PD.of {t:TE} (h:PE X e t) (k:∀ H0 G₀ G σ H Q,RepS X.K H0 G₀ G H σ ρ→(∀ v G' H',Grow G H G' H'→Rep X.K G' v d→Q v H')→t σ H Q):PD X e ρ d:=
 ⟨fun H0 G₀ G pins s σ H Q I R q=>h pins s σ H Q I (k H0 G₀ G σ H Q R q)⟩
theorem b3X {i:Int} {j}:PD X (.Constant (.int i) j pos) ρ (.int i):=.of b3S fun _ _ _ _ _ _ R q=>q _ _ _ (.refl R.sub) (.int i)
theorem b3W {x:Str} {j}:PD X (.Constant (.str x) j pos) ρ (.str x):=.of a8o fun _ _ _ _ _ _ R q=>q _ _ _ (.refl R.sub) (.str x)
theorem b0U {x:Bool} {j}:PD X (.Constant (.bool x) j pos) ρ (.bool x):=.of b6y fun _ _ _ _ _ _ R q=>q _ _ _ (.refl R.sub) (.bool x)
theorem b0S {j}:PD X (.Constant .none j pos) ρ .none:=.of b3R fun _ _ _ _ _ _ R q=>q _ _ _ (.refl R.sub) .none
theorem b3V (i:Nat) {x:Str} (h:ρ[i]?=some (.val d)) (hN:X.N[i]?=some x:=by rfl) (hv:Vis X.env.scope x:=by first | exact qu rfl | exact qf (qu rfl) | exact qf (qf rfl)) (hd:(x==("__debug__" : Str))=false:=by decide)
  (hcd:(x==("__classdict__" : Str))=false:=by decide):PD X (.Name x pos) ρ d:=.of (cB hN hv hd hcd) fun H0 G₀ G σ H Q R q=>by
 obtain ⟨v,e,r⟩:=R.val h
 exact ⟨v,e,q v G H (.refl R.sub) r⟩
theorem a8w {x:Str} {i:Int} {t:Tok} (hg:Gl X x) (hm:X.mg x=some (.int i t)) (hd:(x==("__debug__" : Str))=false:=by decide):PD X (.Name x pos) ρ (.int i):=
 .of (a5g (v:=.int i) hg hm ⟨t,rfl⟩ hd) fun _ _ _ _ _ _ R q=>q _ _ _ (.refl R.sub) (.int i)
end
end L2.L3
namespace L2.L3
open PySem PySem.Spec PyProof.Rows
section
variable {X:Cx} {e a b c:Expr} {es:List Expr} {ρ:List Ent} {d da db dc:PyData} {ds:List PyData} {pos p:Pos}
theorem vK:PAD X [] ρ []:=⟨fun H0 G₀ G pos pins s σ H Q I R q=>dR pos pins s σ H Q I (q [] G H (.refl R.sub) .nil)⟩
theorem pV (ha:PD X e ρ d) (hr:PAD X es ρ ds) (hs:starEach (e::es) X.env=(false,eval e X.env)::starEach es X.env:=by rfl):PAD X (e::es) ρ (d::ds):=by
 refine ⟨?_⟩
 intro H0 G₀ G pos pins s σ H Q I R q
 exact cQ ha.pe hr.pa hs pos pins s σ H Q I ⟨H0,G₀,G,R,fun x G1 H1 g1 r1=>⟨H0,G₀,G1,R.more g1,fun xs G2 H2 g2 r2=>q _ G2 H2 (g1.trans g2) (.cons (r1.mono g2.gg) r2)⟩⟩
structure CmpD (X:Cx) (op:CmpOp) (da db:PyData) (t:Bool):Prop where
 ex:∃ r:R2,OpR X (compareOp op) r∧∀ x y G H Q,aM G H→Rep X.K G x da→Rep X.K G y db→Q (V.bl t) H→r x y H Q
theorem b5A {i j:Int}:CmpD X .Lt (.int i) (.int j) (decide (i<j)):=⟨_,b6z,fun x y G H Q _ rx ry q=>by cases rx;cases ry;exact ⟨_,_,rfl,rfl,q⟩⟩
theorem b5B {i j:Int}:CmpD X .LtE (.int i) (.int j) (decide (i≤j)):=⟨_,b6A,fun x y G H Q _ rx ry q=>by cases rx;cases ry;exact ⟨_,_,rfl,rfl,q⟩⟩
theorem cmp_gt {i j:Int}:CmpD X .Gt (.int i) (.int j) (decide (j<i)):=⟨_,b6B,fun x y G H Q _ rx ry q=>by cases rx;cases ry;exact ⟨_,_,rfl,rfl,q⟩⟩
theorem b5C {i j:Int}:CmpD X .GtE (.int i) (.int j) (decide (j≤i)):=⟨_,b6C,fun x y G H Q _ rx ry q=>by cases rx;cases ry;exact ⟨_,_,rfl,rfl,q⟩⟩
def b6t (X:Cx) (da db:PyData) (neg:Bool):R2:=fun x y H Q=>Rep X.K H x da∧Rep X.K H y db∧qa da=true∧qa db=true∧Q (.bl (if neg then !PyData.eqv da db else jW da db)) H
theorem b4h (hu:X.A.units+64<cLine) (da db:PyData):OpR X (compareOp .Eq) (b6t X da db false):=by
 intro pins s σ H x y v u Q I rx ry ⟨r1,r2,h1,h2,q⟩
 obtain ⟨as,w1⟩:=r1.reads I rx
 obtain ⟨bs,w2⟩:=r2.reads I ry
 exact eq_dataH w1 w2 h1 h2 hu ⟨.bl _,H,I,rfl,q⟩
theorem b4b (hu:X.A.units+64<cLine) (da db:PyData):OpR X (compareOp .NotEq) (b6t X da db true):=by
 intro pins s σ H x y v u Q I rx ry ⟨r1,r2,h1,h2,q⟩
 obtain ⟨as,w1⟩:=r1.reads I rx
 obtain ⟨bs,w2⟩:=r2.reads I ry
 exact ne_dataH w1 w2 h1 h2 hu ⟨.bl _,H,I,rfl,q⟩
theorem b5D (hu:X.A.units+64<cLine) (h1:qa da=true) (h2:qa db=true):CmpD X .Eq da db (jW da db):=
 ⟨_,b4h hu da db,fun x y G H Q s rx ry q=>⟨rx.mono s,ry.mono s,h1,h2,q⟩⟩
theorem b5z (hu:X.A.units+64<cLine) (h1:qa da=true) (h2:qa db=true):CmpD X .NotEq da db (!PyData.eqv da db):=
 ⟨_,b4b hu da db,fun x y G H Q s rx ry q=>⟨rx.mono s,ry.mono s,h1,h2,q⟩⟩
variable {rest:List Expr}
theorem a5S {K:qB} {G:Hp} {xs:List V} {ds:List PyData} {i:Int} {d:PyData} (r:RepAll K G xs ds) (h:atI ds i=some d):∃ v,atI xs i=some v∧Rep K G v d:=by
 unfold atI at h ⊢
 rw [r.length]
 cases e:ixN ds.length i with
 | none=>rw [e] at h;cases h
 | some j=>
  rw [e] at h
  exact r.get h
def spD (K:qB) (F:List PyData→PyData→Prop):Sp:=fun vs H Q _=>∃ G ds d,(aM G H∧lJ K G H)∧RepAll K G vs ds∧F ds d∧∀ v G' H',Grow G H G' H'→Rep K G' v d→Q v H'
end
end L2.L3
namespace L2.L3
open PySem PySem.Spec PyProof.Rows
def Walk (K:qB) (J:It) (G:Hp) (ds:List PyData):Prop:=
 ∀ (i:Nat) (G' H':Hp),aM G G'→aM G' H'→(∀ d,ds[i]?=some d→J.go i H'∧∀ x H2,J.yld i H' x H2→∃ G2,Grow G' H' G2 H2∧Rep K G2 x d)∧(ds.length≤i→J.stop i H')
def b0o (K:qB) (J:It) (G H:Hp) (ds:List PyData):Prop:=
 ∀ (i:Nat) (G' H':Hp),Grow G H G' H'→(∀ d,ds[i]?=some d→J.go i H'∧∀ x H2,J.yld i H' x H2→∃ G2,Grow G' H' G2 H2∧Rep K G2 x d)∧(ds.length≤i→J.stop i H')
theorem Walk.h {K:qB} {J:It} {G H:Hp} {ds:List PyData} (w:Walk K J G ds):b0o K J G H ds:=fun i G' H' g=>w i G' H' g.gg g.sub
def tID (K:qB) (ρ:List Ent) (ds:List PyData):TI:=fun σ H R=>∃ H0 G₀ G,RepS K H0 G₀ G H σ ρ∧∀ J G' H',Grow G H G' H'→Walk K J G' ds→R J H'
structure PID (X:Cx) (tg iter:Expr) (ρ:List Ent) (ds:List PyData):Prop where
 run:PI X tg iter (tID X.K ρ ds)
theorem a5X {K:qB} {G:Hp} {a:Addr} {xs:List V} {ds:List PyData} (hq:SqL K G a xs) (r:RepAll K G xs ds):Walk K (Itl K a) G ds:=by
 intro i G' H' s1 s2
 refine ⟨fun d e=>?_,fun hl=>⟨xs,(s1.trans s2).seq hq,by rw [r.length];exact hl⟩⟩
 obtain ⟨v,ev,rv⟩:=r.get e
 refine ⟨⟨xs,v,(s1.trans s2).seq hq,ev⟩,fun x H2 ⟨e2,y⟩=>?_⟩
 subst e2
 have z:=y xs ((s1.trans s2).seq hq)
 rw [ev] at z
 cases z
 exact ⟨G',.refl s2,rv.mono s1⟩
theorem a7A {K:qB} {G:Hp} {a:Addr} {xs:List V} {ds:List PyData} (hq:SqT K G a xs) (r:RepAll K G xs ds):Walk K (Itt K a) G ds:=by
 intro i G' H' s1 s2
 refine ⟨fun d e=>?_,fun hl=>⟨xs,pU (s1.trans s2) hq,by rw [r.length];exact hl⟩⟩
 obtain ⟨v,ev,rv⟩:=r.get e
 refine ⟨⟨xs,v,pU (s1.trans s2) hq,ev⟩,fun x H2 ⟨e2,y⟩=>?_⟩
 subst e2
 have z:=y xs (pU (s1.trans s2) hq)
 rw [ev] at z
 cases z
 exact ⟨G',.refl s2,rv.mono s1⟩
def a1q (lo:Int) (n:Nat):List PyData:=(jS n).map fun (k:Nat)=>.int (lo+(k:Int))
theorem a7B {K:qB} {G:Hp} (lo:Int) (n:Nat):Walk K (Itr lo n) G (a1q lo n):=by
 intro i G' H' s1 s2
 unfold a1q
 refine ⟨fun d e=>?_,fun hl=>by rw [qQ,zB] at hl;exact hl⟩
 rw [qJ] at e
 by_cases hi:i<n
 ·rw [zb hi] at e
  cases e
  refine ⟨hi,fun x H2 ⟨e1,e2⟩=>?_⟩
  subst e1 e2
  exact ⟨G',.refl s2,.int _⟩
 ·rw [jB (by simpa using hi)] at e
  cases e
section
variable {X:Cx} {tg iter a b:Expr} {ρ:List Ent} {ds:List PyData} {p pos:Pos}
theorem PI.imp {wi wi':TI} (h:PI X tg iter wi) (k:∀ σ H R,wi' σ H R→wi σ H R):PI X tg iter wi':=fun pins s σ H R I w=>h pins s σ H R I (k σ H R w)
theorem a8l (h:PD X iter ρ (.list ds)):PID X tg iter ρ ds:=⟨PI.imp (a1u h.pe) fun σ H R ⟨H0,G₀,G,S,q⟩=>⟨H0,G₀,G,S,fun v G1 H1 g1 r1=>by
 cases r1 with
 | list hq r=>exact ⟨_,rfl,⟨_,g1.sub.seq hq⟩,q _ _ _ g1 (a5X hq r)⟩⟩⟩
theorem b0M (h:PD X iter ρ (.tuple ds)):PID X tg iter ρ ds:=⟨PI.imp (b3P h.pe) fun σ H R ⟨H0,G₀,G,S,q⟩=>⟨H0,G₀,G,S,fun v G1 H1 g1 r1=>by
 cases r1 with
 | tuple hq r=>exact ⟨_,rfl,⟨_,pU g1.sub hq⟩,q _ _ _ g1 (a7A hq r)⟩⟩⟩
theorem a3W {n:Int} (hm:X.mg "range" = none) (ha:PD X a ρ (.int n)) (h1:-(2 ^ 62)≤n) (h2:n<2 ^ 62) (hs:starEach [a] X.env=[(false,eval a X.env)]:=by rfl) (hs':starEach [a] X.env=(false,eval a X.env)::starEach [] X.env:=by rfl) (hg:Gl X "range":=by rfl) :
  PID X tg (.Call (.Name "range" p) [a] [] pos) ρ (a1q 0 n.toNat):=
 ⟨PI.imp (a6w hg hm (pV ha vK hs').pa hs) fun σ H R ⟨H0,G₀,G,S,q⟩=>⟨H0,G₀,G,S,fun vs G1 H1 g1 r1=>by
  cases r1 with
  | cons r rr=>
   cases rr
   cases r
   exact ⟨n,rfl,h1,h2,q _ _ _ g1 (a7B 0 n.toNat)⟩⟩⟩
end
def tGD (K:qB) (ρ:List Ent) (d:PyData) (ρ':List Ent):TG:=fun v σ H Q=>∃ H0 G₀ G,RepS K H0 G₀ G H σ ρ∧Rep K G v d∧∀ σ',RepS K H0 G₀ G H σ' ρ'→Q σ' H
def b3z (K:qB) (ρ:List Ent) (ds:List PyData) (ρ':List Ent):TGs:=fun vs σ H Q=>∃ H0 G₀ G,RepS K H0 G₀ G H σ ρ∧RepAll K G vs ds∧∀ σ',RepS K H0 G₀ G H σ' ρ'→Q σ' H
structure PGD (X:Cx) (tg:Expr) (ρ:List Ent) (d:PyData) (ρ':List Ent):Prop where
 run:PG X tg (tGD X.K ρ d ρ')
structure PGsD (X:Cx) (ts:List Expr) (ρ:List Ent) (ds:List PyData) (ρ':List Ent):Prop where
 run:PGs X ts (b3z X.K ρ ds ρ')
section
variable {X:Cx} {e:Expr} {es:List Expr} {ρ ρ1 ρ2:List Ent} {d:PyData} {ds:List PyData} {pos:Pos}
theorem a2J (i:Nat) {x:Str} (hN:X.N.Nodup) (hi:X.N[i]?=some x:=by rfl) (hx:Loc X.env.scope x:=by first | exact qu rfl | exact qf rfl) (hf:X.fn x=true∨X.env.scope.names.lookup x=some .local:=by first | exact .inl rfl | exact .inr rfl) :
  PGD X (.Name x pos) ρ d (ρ.set i (.val d)):=⟨fun pins s σ H v u Q I r ⟨H0,G₀,G,S,rv,q⟩=>a5d hN hi hx hf pins s σ H v u Q I r (q _ (S.set rv))⟩
theorem a8m:PGsD X [] ρ [] ρ:=⟨fun pins s σ H vs us Q I r ⟨H0,G₀,G,S,rv,q⟩=>by
 cases rv
 exact b0O pins s σ H [] us Q I r ⟨rfl,q σ S⟩⟩
theorem a6x (h1:PGD X e ρ d ρ1) (h2:PGsD X es ρ1 ds ρ2) (hs:(assignEach (e::es) X.env).map (·.2)=assign e X.env::(assignEach es X.env).map (·.2):=by rfl):PGsD X (e::es) ρ (d::ds) ρ2:=⟨fun pins s σ H vs us Q I r ⟨H0,G₀,G,S,rv,q⟩=>by
 cases rv with
 | cons r1 r2=>exact a2I h1.run h2.run hs pins s σ H _ us Q I r ⟨_,_,rfl,H0,G₀,G,S,r1,fun σ' S'=>⟨H0,G₀,G,S',r2,q⟩⟩⟩
theorem b0P {k:Nat} (hc:X.calm=true) (h:PGsD X es ρ ds ρ1) (hn:(assignEach es X.env).length=ds.length:=by rfl) (hst:(assignEach es X.env).findIdx? (·.1)=none:=by rfl):PGD X (.Tuple es k pos) ρ (.tuple ds) ρ1:=⟨fun pins s σ H v u Q I r ⟨H0,G₀,G,S,rv,q⟩=>by
 cases rv with
 | tuple hq rr=>exact a8n hc h.run hn hst pins s σ H _ u Q I r ⟨_,_,rfl,pU S.sub hq,rr.length,H0,G₀,G,S,rr,q⟩⟩
end
inductive Out where
 | nx (ρ:List Ent)
 | rt (d:PyData)
 | bk (ρ:List Ent)
 | ct (ρ:List Ent)
def b3g (K:qB) (H0 G₀ G:Hp) (D:Ends):Out→Prop
 | .nx ρ=>∀ G' H' σ',aM G G'→RepS K H0 G₀ G' H' σ' ρ→D.nx σ' H'
 | .rt d=>∀ v G' H',aM G G'→Grow G₀ H0 G' H'→Rep K G' v d→D.rt v H'
 | .bk ρ=>∀ G' H' σ',aM G G'→RepS K H0 G₀ G' H' σ' ρ→D.bk σ' H'
 | .ct ρ=>∀ G' H' σ',aM G G'→RepS K H0 G₀ G' H' σ' ρ→D.ct σ' H'
def tSD (K:qB) (ρ:List Ent) (o:Out):TS:=fun D σ H=>∃ H0 G₀ G,RepS K H0 G₀ G H σ ρ∧b3g K H0 G₀ G D o
structure PSD (X:Cx) (st:Stmt) (ρ:List Ent) (o:Out):Prop where
 run:PS X st (tSD X.K ρ o)
inductive Weak:List Ent→List Ent→Prop
 | nil:Weak [] []
 | keep {e:Ent} {a b:List Ent}:Weak a b→Weak (e::a) (e::b)
 | no {e:Ent} {a b:List Ent}:Weak a b→Weak (e::a) (.no::b)
theorem Weak.refl:∀ ρ:List Ent,Weak ρ ρ
 | []=>.nil
 | _::r=>.keep (Weak.refl r)
theorem Weak.at:∀ {a b:List Ent} {i:Nat} {e:Ent},Weak a b→b[i]?=some e→e=.no∨a[i]?=some e
 | _,_,_,_,.nil,h=>by simp at h
 | _,_,0,e,.keep _,h=>.inr (by simpa using h)
 | _,_,0,e,.no _,h=>.inl (by simpa using h.symm)
 | _,_,i+1,e,.keep w,h=>by
  rcases Weak.at (i:=i) w (by simpa using h) with z | z
  ·exact .inl z
  ·exact .inr (by simpa using z)
 | _,_,i+1,e,.no w,h=>by
  rcases Weak.at (i:=i) w (by simpa using h) with z | z
  ·exact .inl z
  ·exact .inr (by simpa using z)
theorem Weak.length:∀ {a b:List Ent},Weak a b→a.length=b.length
 | _,_,.nil=>rfl
 | _,_,.keep w=>by simp [Weak.length w]
 | _,_,.no w=>by simp [Weak.length w]
theorem RepS.weak {K:qB} {H0 G₀ G H:Hp} {σ:St} {ρ ρ':List Ent} (R:RepS K H0 G₀ G H σ ρ) (w:Weak ρ ρ'):RepS K H0 G₀ G H σ ρ':=by
 refine ⟨R.grow,R.len.trans w.length,fun i o e h1 h2=>?_,R.inj.sub fun i e h1 h2=>?_,R.tab⟩
 ·rcases w.at h2 with z | z
  ·subst z;trivial
  ·exact R.ent i o e h1 z
 ·rcases w.at h1 with z | z
  ·subst z;cases h2
  ·exact ⟨z,rfl⟩
section
variable {X:Cx} {st:Stmt} {rest:List Stmt} {ρ ρ1 ρ2:List Ent} {o:Out} {e c:Expr} {d:PyData} {ds:List PyData} {pos:Pos}
theorem PSD.of {t:TS} (h:PS X st t) (k:∀ H0 G₀ G σ H D,RepS X.K H0 G₀ G H σ ρ→b3g X.K H0 G₀ G D o→t D σ H):PSD X st ρ o:=⟨fun pins s σ H D I ⟨H0,G₀,G,S,q⟩=>h pins s σ H D I (k H0 G₀ G σ H D S q)⟩
end
def cJ (cap:List (Option Nat)) (ρ:List Ent):List Ent:=cap.map fun o=>match o with
 | some j=>(match ρ[j]? with | some (.val d)=>.val d | some (.adr a)=>.adr a | some (.ro oa b)=>.ro oa b | _=>.no)
 | none=>.no
theorem uC (cap:List (Option Nat)) (ρ:List Ent):∀ (i:Nat) (e:Ent),(cJ cap ρ)[i]?=some e→xH e=false:=fun i e h=>by
 unfold cJ at h
 rw [qJ] at h
 cases hc:cap[i]? with
 | none=>rw [hc] at h;cases h
 | some c=>
  rw [hc] at h
  cases c with
  | none=>cases h;rfl
  | some j=>
   have h2:(match ρ[j]? with | some (Ent.val d)=>Ent.val d | some (Ent.adr a)=>Ent.adr a | some (Ent.ro oa b)=>Ent.ro oa b | _=>Ent.no)=e:=qA h
   cases hr:ρ[j]? with
   | none=>rw [hr] at h2;subst h2;rfl
   | some q=>rw [hr] at h2;cases q<;>(subst h2;rfl)
theorem RepS.cap {K:qB} {H0 G₀ G H:Hp} {σ:St} {ρ:List Ent} (R:RepS K H0 G₀ G H σ ρ) (cap:List (Option Nat)):RepS K H G G H (eK cap σ) (cJ cap ρ):=by
 refine ⟨.refl R.sub,by simp [eK,cJ],fun i o e h1 h2=>?_,Inj.free (uC cap ρ),R.tab⟩
 ·unfold eK at h1
  unfold cJ at h2
  rw [qJ] at h1 h2
  cases hc:cap[i]? with
  | none=>rw [hc] at h1;cases h1
  | some c=>
   rw [hc] at h1 h2
   cases c with
   | none=>cases h2;trivial
   | some j=>
    have h1:(σ[j]?).getD none=o:=qA h1
    have h2:(match ρ[j]? with | some (Ent.val d)=>Ent.val d | some (Ent.adr a)=>Ent.adr a | some (Ent.ro oa b)=>Ent.ro oa b | _=>Ent.no)=e:=qA h2
    cases hr:ρ[j]? with
    | none=>rw [hr] at h2;subst h2;trivial
    | some q=>
     rw [hr] at h2
     cases q with
     | no=>subst h2;trivial
     | lst ds=>subst h2;trivial
     | exc c=>subst h2;trivial
     | nst dss=>subst h2;trivial
     | dct kvs=>subst h2;trivial
     | adr a=>subst h2;rw [ (R.at hr).choose_spec.1] at h1;exact h1▸(R.at hr).choose_spec.2
     | ro oa b=>
      subst h2
      obtain ⟨o',e1,a,fp,e2,e3,r,_⟩:=R.at hr
      rw [e1] at h1
      subst e2
      exact ⟨a,fp,h1.symm,e3,r,fun x hx z=>by obtain ⟨u,z',_⟩:=r.there x hx;rw [z] at z';cases z'⟩
     | val d=>
      subst h2
      obtain ⟨v,e,r⟩:=R.val hr
      rw [e] at h1
      subst h1
      exact ⟨v,rfl,r⟩
section
variable {X:Cx} {elt iter tg:Expr} {ifs:List Expr} {scope:Scope} {pos spos:Pos} {N':List Str} {cap:List (Option Nat)} {ρ ρb:List Ent} {α:Type} {xs:List α} {φ f:α→PyData} {cnd:α→Bool} {ρx:α→List Ent}
structure PTsD (X:Cx) (ifs:List Expr) (ρ:List Ent) (b:Bool):Prop where
 run:PTs X ifs (tTD X ρ b)
theorem a8d:PTsD X [] ρ true:=⟨fun pins s σ H Q I ⟨H0,G₀,G,R,q⟩=>b0K pins s σ H Q I (q G H (.refl R.sub))⟩
theorem a8c {c:Expr} {t:Bool} (h:PTD X c ρ t):PTsD X [c] ρ t:=⟨b0J h.pt⟩
def gU (K:qB) (xs:List α) (φ:α→PyData) (ρb:List Ent) (ρx:α→List Ent):TG:=fun v σ H Q=>∃ x∈xs,tGD K ρb (φ x) (ρx x) v σ H Q
def tU (K:qB) (xs:List α) (ρx:α→List Ent) (cnd:α→Bool):TT:=fun σ H Q=>∃ x∈xs,∃ H0 G₀ G,RepS K H0 G₀ G H σ (ρx x)∧∀ G' H',Grow G H G' H'→Q (cnd x) H'
def eU (K:qB) (xs:List α) (ρx:α→List Ent) (cnd:α→Bool) (f:α→PyData):TE:=fun σ H Q=>∃ x∈xs,cnd x=true∧∃ H0 G₀ G,RepS K H0 G₀ G H σ (ρx x)∧∀ v G' H',Grow G H G' H'→Rep K G' v (f x)→Q v H'
def eUF (K:qB) (xs:List α) (ρx:α→List Ent) (cnd:α→Bool) (f:α→PyData) (H0 G₀:Hp):TE:=fun σ H Q=>∃ x∈xs,cnd x=true∧∃ G,RepS K H0 G₀ G H σ (ρx x)∧∀ v G' H',Grow G H G' H'→Rep K G' v (f x)→Q v H'
theorem a7I {J:It} {g:TG} {tc:TT} {te te':TE} {σ₀:St} {H:Hp} {Q:VK} (h:∀ σ H Q,te σ H Q→te' σ H Q) (hg:∀ x σ H Q Q',(∀ σ H,Q σ H→Q' σ H)→g x σ H Q→g x σ H Q') (ht:∀ σ H Q Q',(∀ b H,Q b H→Q' b H)→tc σ H Q→tc σ H Q') (t:oZ J g tc te σ₀ H Q):oZ J g tc te' σ₀ H Q:=by
 obtain ⟨W,hW⟩:=t
 refine ⟨W,fun D hD=>⟨(hW D hD).1,fun i m ys σ1 H1 w h1=>?_⟩⟩
 rcases (hW D hD).2 i m ys σ1 H1 w h1 with z | ⟨go,z⟩
 ·exact .inl z
 ·refine .inr ⟨go,fun x H2 y=>hg _ _ _ _ _ (fun σ3 H3 q3=>ht _ _ _ _ (fun b H4 q4=>?_) q3) (z x H2 y)⟩
  cases b with
  | true=>rw [if_pos rfl] at q4 ⊢;exact h _ _ _ q4
  | false=>rw [if_neg (by decide)] at q4 ⊢;exact q4
theorem b3y {K:qB} {J:It} {H0 G₀ G H:Hp} {σ:St} {Q:VK} (R:RepS K H0 G₀ G H σ ρ) (wk:b0o K J G H (xs.map φ)) (hb:Weak (cJ cap ρ) ρb) (hw:∀ x∈xs,Weak (ρx x) ρb) (hz:xs.length≤sizeLine)
  (q:∀ D ys G' H',Grow G H G' H'→G' D=some (.lst ys)→H D=none→RepAll K G' ys ((xs.filter cnd).map f)→Q (.ref D) H'):oZ J (gU K xs φ ρb ρx) (tU K xs ρx cnd) (eUF K xs ρx cnd f H G) (eK cap σ) H Q:=by
 refine ⟨fun D i m ys σ' H'=>m=xs.length - i∧i≤xs.length∧∃ G',RepS K H G G' H' σ' ρb∧G' D=none∧RepAll K G' ys (((xs.take i).filter cnd).map f),fun D hD=>⟨⟨xs.length,by simp,jA _,G,?_,R.sub.free hD,by simpa using RepAll.nil⟩,?_⟩⟩
 ·exact ((R.cap cap).more (.side R.sub hD)).weak hb
 ·rintro i m ys σ1 H1 ⟨rfl,hi,G1,R1,hG1,ra⟩ hD1
  obtain ⟨wgo,wstop⟩:=wk i G1 H1 R1.grow
  by_cases hlt:i<xs.length
  ·have hx:xs[i]?=some xs[i]:=qN hlt
   have hm:xs[i]∈xs:=jM hlt
   obtain ⟨go,yl⟩:=wgo (φ xs[i]) (by rw [qJ,hx];rfl)
   have tk:(xs.take (i+1)).filter cnd=(xs.take i).filter cnd++(if cnd xs[i]=true then [xs[i]] else []):=by
    rw [List.take_succ,hx,List.filter_append]
    cases hcx:cnd xs[i]<;>simp [hcx]
   refine .inr ⟨go,fun x H2 y=>?_⟩
   obtain ⟨G2,g2,rx⟩:=yl x H2 y
   refine ⟨xs[i],hm,H,G,G2,R1.more g2,rx,fun σ3 R3=>⟨xs[i],hm,H,G,G2,R3,fun G4 H4 g4=>?_⟩⟩
   have g14:=g2.trans g4
   have hD4:H4 D=some (.lst ys):=g14.hh.lst hD1
   have hG4:G4 D=none:=g14.new D hG1 (by rw [hD1];simp)
   dsimp only
   by_cases hcx:cnd xs[i]=true
   ·rw [if_pos hcx]
    refine ⟨xs[i],hm,hcx,G4,R3.more g4,fun v G5 H5 g5 rv=>?_⟩
    have hD5:H5 D=some (.lst ys):=g5.hh.lst hD4
    have hG5:G5 D=none:=g5.new D hG4 (by rw [hD4];simp)
    have hlen:ys.length<sizeLine:=by
     have h1:=ra.length
     have h2:(((xs.take i).filter cnd).map f).length≤i:=by
      rw [qQ]
      exact qj (List.length_filter_le _ _) (by rw [kZ];omega)
     omega
    refine ⟨hD5,hlen,xs.length - (i+1),by omega,rfl,hlt,G5,?_,hG5,?_⟩
    ·have R5:RepS K H G G5 H5 σ3 ρb:=((R3.more g4).more g5).weak (hw _ hm)
     -- the list at D has one item more;nothing else speaks of D
     have noOwn:∀ (j:Nat) (e:Ent),ρb[j]?=some e→xH e=false:=fun j e h2=>by
      rcases hb.at h2 with z' | z'
      ·rw [z'];rfl
      ·exact uC cap ρ j e z'
     have hHD:H D=none:=hD
     refine ⟨⟨R5.grow.gg,R5.grow.hh.wr hHD hD5,fun b o e=>?_,R5.grow.new,R5.grow.nt⟩,R5.len,fun j o e h1 h2=>?_,Inj.free (fun j e h2=>noOwn j e h2),R5.tab.wr hD5⟩
     ·rw [aG (aL e hG5)];exact R5.sub b o e
     ·have E:=R5.ent j o e h1 h2
      cases e with
      | no=>trivial
      | val d=>exact E
      | exc c=>obtain ⟨b,C,z,g1,g2⟩:=E;exact ⟨b,C,z,g1,by rw [aG (bZ g2 hD5 (by unfold xcO;nofun))];exact g2⟩
      | lst es=>have:=noOwn j _ h2;cases this
      | nst dss=>have:=noOwn j _ h2;cases this
      | dct kvs=>have:=noOwn j _ h2;cases this
      | adr a=>exact E
      | ro oa b=>exact oR.wr E hHD
    ·rw [tk,if_pos hcx,kI]
     exact (ra.mono ((g14.trans g5).gg)).append (.cons rv .nil)
   ·rw [if_neg hcx]
    refine ⟨hD4,xs.length - (i+1),by omega,rfl,hlt,G4,(R3.more g4).weak (hw _ hm),hG4,?_⟩
    rw [tk,if_neg hcx,jx]
    exact ra.mono g14.gg
  ·refine .inl ⟨wstop (by rw [qQ];omega),?_⟩
   have hi':i=xs.length:=by omega
   subst hi'
   rw [List.take_length] at ra
   have sD:aM G1 (upd G1 D (.lst ys)):=cF hG1
   refine q D ys (upd G1 D (.lst ys)) H1 ⟨R1.grow.gg.trans sD,R1.grow.hh,fun b o e=>?_,fun b e n=>?_,fun n=>(R1.grow.nt n).upd (by nofun)⟩ aJ hD (ra.mono sD)
   ·by_cases hbD:b=D
    ·subst hbD;rw [aJ] at e;cases e;exact hD1
    ·rw [aG hbD] at e;exact R1.sub b o e
   ·rw [aG (fun z=>n (by rw [z];exact hD))]
    exact R1.grow.new b e n
theorem a3F {K:qB} {J:It} {H0 G₀ G H:Hp} {σ:St} {Q:VK} (R:RepS K H0 G₀ G H σ ρ) (wk:b0o K J G H (xs.map φ)) (hb:Weak (cJ cap ρ) ρb) (hw:∀ x∈xs,Weak (ρx x) ρb) (hz:xs.length≤sizeLine)
  (q:∀ D ys G' H',Grow G H G' H'→G' D=some (.lst ys)→H D=none→RepAll K G' ys ((xs.filter cnd).map f)→Q (.ref D) H'):oZ J (gU K xs φ ρb ρx) (tU K xs ρx cnd) (eU K xs ρx cnd f) (eK cap σ) H Q:=
 a7I (t:=b3y R wk hb hw hz q) (fun σ H' Q' ⟨x,hx,hc,G',R',q'⟩=>⟨x,hx,hc,H,G,G',R',q'⟩) (fun v σ H' Q1 Q2 h ⟨x,hx,H1,G1,G2,R2,r2,q2⟩=>⟨x,hx,H1,G1,G2,R2,r2,fun σ3 R3=>h _ _ (q2 σ3 R3)⟩)
  fun σ H' Q1 Q2 h ⟨x,hx,H1,G1,G2,R2,q2⟩=>⟨x,hx,H1,G1,G2,R2,fun G4 H4 g4=>h _ _ (q2 G4 H4 g4)⟩
theorem a6c {K:qB} {J:It} {H0 G₀ G H:Hp} {σ:St} {Q:VK} (R:RepS K H0 G₀ G H σ ρ) (wk:Walk K J G (xs.map φ)) (hb:Weak (cJ cap ρ) ρb) (hw:∀ x∈xs,Weak (ρx x) ρb) (hz:xs.length≤sizeLine)
  (q:∀ D ys G' H',Grow G H G' H'→G' D=some (.lst ys)→H D=none→RepAll K G' ys ((xs.filter cnd).map f)→Q (.ref D) H'):oZ J (gU K xs φ ρb ρx) (tU K xs ρx cnd) (eU K xs ρx cnd f) (eK cap σ) H Q:=
 a3F R wk.h hb hw hz q
theorem a2o {K:qB} {J:It} {H0 G₀ G H:Hp} {σ:St} {Q:VK} (R:RepS K H0 G₀ G H σ ρ) (wk:Walk K J G (xs.map φ)) (hb:Weak (cJ cap ρ) ρb) (hw:∀ x∈xs,Weak (ρx x) ρb) (hz:xs.length≤sizeLine)
  (q:∀ v G' H',Grow G H G' H'→Rep K G' v (.list ((xs.filter cnd).map f))→Q v H'):oZ J (gU K xs φ ρb ρx) (tU K xs ρx cnd) (eU K xs ρx cnd f) (eK cap σ) H Q:=
 a6c R wk hb hw hz fun D ys G' H' g h _ ra=>q _ G' H' g (.list (.of h) ra)
theorem b0T (hc:X.calm=true) (B:Blk X scope N' cap) (hi:PID X tg iter ρ (xs.map φ)) (hb:Weak (cJ cap ρ) ρb) (hw:∀ x∈xs,Weak (ρx x) ρb) (hz:xs.length≤sizeLine)
  (hg:∀ C s₃ H₃ fp x,x∈xs→PGD (bW X scope N' C s₃ H₃ fp) tg ρb (φ x) (ρx x))
  (ht:∀ C s₃ H₃ fp x,x∈xs→PTsD (bW X scope N' C s₃ H₃ fp) ifs (ρx x) (cnd x))
  (he:∀ C s₃ H₃ fp x,x∈xs→cnd x=true→PD (bW X scope N' C s₃ H₃ fp) elt (ρx x) (f x))
  (hs:∀ x,foldedSetIterable iter X.env x=pure x:=by intro _;rfl):PD X (.ListComp elt [⟨tg,iter,ifs,0⟩] scope pos) ρ (.list ((xs.filter cnd).map f)):=
 .of (a5h (g:=gU X.K xs φ ρb ρx) (tc:=tU X.K xs ρx cnd) (te:=eU X.K xs ρx cnd f) hc B hi.run (fun C s₃ H₃ fp pins s σ H v u Q I r ⟨x,hx,q⟩=>(hg C s₃ H₃ fp x hx).run pins s σ H v u Q I r q)
  (fun C s₃ H₃ fp pins s σ H Q I ⟨x,hx,q⟩=>(ht C s₃ H₃ fp x hx).run pins s σ H Q I q) (fun C s₃ H₃ fp pins s σ H Q I ⟨x,hx,hcx,H0,G₀,G,R,q⟩=>(he C s₃ H₃ fp x hx hcx).run H0 G₀ G pins s σ H Q I R q) hs)
  fun H0 G₀ G σ H Q R q=>⟨H0,G₀,G,R,fun J G' H' g wk=>a2o (R.more g) wk hb hw hz fun v G2 H2 g2 r2=>q v G2 H2 (g.trans g2) r2⟩
theorem a8g (i:Nat) {x:Str} {p:Pos} (hN:X.N.Nodup) (hc:X.calm=true) (B:Blk X scope N' cap) (hi:PID X tg iter ρ (xs.map φ)) (hb:Weak (cJ cap ρ) ρb) (hw:∀ x∈xs,Weak (ρx x) ρb) (hz:xs.length≤sizeLine)
  (hg:∀ C s₃ H₃ fp x,x∈xs→PGD (bW X scope N' C s₃ H₃ fp) tg ρb (φ x) (ρx x))
  (ht:∀ C s₃ H₃ fp x,x∈xs→PTsD (bW X scope N' C s₃ H₃ fp) ifs (ρx x) (cnd x))
  (he:∀ C s₃ H₃ fp x,x∈xs→cnd x=true→PD (bW X scope N' C s₃ H₃ fp) elt (ρx x) (f x))
  (hxi:X.N[i]?=some x:=by rfl) (hx:X.env.scope.names.lookup x=some .local:=by rfl)
  (hsw:swapsWith (.ListComp elt [⟨tg,iter,ifs,0⟩] scope pos) (some (.Name x p)) spos.line X.env=pure true:=by rfl)
  (hs:∀ x,foldedSetIterable iter X.env x=pure x:=by intro _;rfl):PSD X (.Assign [.Name x p] (.ListComp elt [⟨tg,iter,ifs,0⟩] scope pos) spos) ρ (.nx (ρ.set i (.val (.list ((xs.filter cnd).map f))))):=
 .of (a5b (g:=gU X.K xs φ ρb ρx) (tc:=tU X.K xs ρx cnd) (te:=eU X.K xs ρx cnd f) hN hxi hx hc B hi.run (fun C s₃ H₃ fp pins s σ H v u Q I r ⟨x,hx,q⟩=>(hg C s₃ H₃ fp x hx).run pins s σ H v u Q I r q)
  (fun C s₃ H₃ fp pins s σ H Q I ⟨x,hx,q⟩=>(ht C s₃ H₃ fp x hx).run pins s σ H Q I q) (fun C s₃ H₃ fp pins s σ H Q I ⟨x,hx,hcx,H0,G₀,G,R,q⟩=>(he C s₃ H₃ fp x hx hcx).run H0 G₀ G pins s σ H Q I R q) hsw hs)
  fun H0 G₀ G σ H D R q=>⟨H0,G₀,G,R,fun J G' H' g wk=>a2o (R.more g) wk hb hw hz fun v G2 H2 g2 r2=>q G2 H2 _ (g.gg.trans g2.gg) (((R.more g).more g2).set r2)⟩
end
def hV (N:List Str) (ds:List PyData):List Ent:=ds.map .val++qV (N.length - ds.length) .no
theorem gY {K:qB} {G H:Hp} {N:List Str} {vs:List V} {ds:List PyData} (s:aM G H∧lJ K G H) (r:RepAll K G vs ds):RepS K H G G H (start N vs) (hV N ds):=by
 have hl:=r.length
 refine ⟨.refl s.1,by simp [start,hV,hl],fun i o e h1 h2=>?_,Inj.free (fun i e h2=>?_),s.2⟩
 ·unfold hV at h2
  unfold start at h1
  by_cases hi:i<ds.length
  ·rw [qc (by simpa using hi),qJ] at h2
   rw [qc (by simp;omega),qJ] at h1
   rw [qN hi] at h2
   obtain ⟨v,ev,rv⟩:=r.get (qN hi)
   rw [ev] at h1
   cases h1;cases h2
   exact ⟨v,rfl,rv⟩
  ·rw [qw (by simpa using hi),jL] at h2
   split at h2
   ·cases h2;trivial
   ·cases h2
 ·unfold hV at h2
  by_cases hi:i<ds.length
  ·rw [qc (by simpa using hi),qJ,qN hi] at h2
   cases h2;rfl
  ·rw [qw (by simpa using hi),jL] at h2
   split at h2
   ·cases h2;rfl
   ·cases h2
section
variable {P:Program} {w:World} {K:qB} {mg:Str→Option Value} {base:Heap}
abbrev fcx (P:Program) (w:World) (K:qB) (mg:Str→Option Value) (base:Heap) (N:List Str) (qual:Str) (scope:Scope) (f:Addr) (cd:Value) (A:Around) (outer:List Env) (s:Shared) (H:Hp) (E:XK):Cx:=(tZ CX0 P w K mg base N qual scope f cd A outer s H E).nox
end
end L2.L3
namespace L2.L3
open PySem PySem.Spec PyProof.Rows
section
variable {prog:Program} {w:World} {A:Around} {E:Value→Shared→Prop} {s:Shared} {l:Addr} {us:List Value} {ns:List Int} {Q:Value→Shared→Prop}
end
section
variable {X:Cx}
variable {e a b c:Expr} {es:List Expr} {ρ:List Ent} {d:PyData} {ds:List PyData} {pos p:Pos}
def b6J:List Int→Int
 | []=>0
 | a::r=>r.foldl max a
def b6I:List Int→Int
 | []=>0
 | a::r=>r.foldl min a
def b6w (K:qB):R2:=fun x y H Q=>∃ l b xs zs,x=.ref l∧y=.ref b∧SqL K H l xs∧SqL K H b zs∧xs.length+zs.length≤sizeLine∧∀ p,H p=none→Q (.ref p) (upd H p (.lst (xs++zs)))
end
end L2.L3
namespace L2.L3
open PySem PySem.Spec PyProof.Rows
def b3f (so:Scope) (NN:List Str) (scope:Scope) (N':List Str) (cap:List (Option Nat)):Bool:=
 decide (scope.kind=.function)&&scope.names.all (fun y=>decide (y.2=.cell→scope.names.lookup y.1=some .cell))&&scope.names.all (fun y=>decide (y.2=.local→scope.names.lookup y.1=some .local))
  && scope.names.all (fun y=>decide (y.2=.free→so.names.lookup y.1=some .cell))
  && (jS cap.length).all (fun i=>match cap[i]? with
   | some (some j)=>(match N'[i]?,NN[j]? with | some x,some y=>decide (x=y∧scope.names.lookup x=some .free) | _,_=>false)
   | _=>true)
  && decide (cap.length=N'.length)&&decide N'.Nodup
theorem cM {X:Cx} {scope so:Scope} {N' NN:List Str} {cap:List (Option Nat)} (hs:X.env.scope=so) (hN:X.N=NN) (h:b3f so NN scope N' cap=true):Blk X scope N' cap:=by
 unfold b3f at h
 simp only [qH,decide_eq_true_eq,jN] at h
 obtain ⟨⟨⟨⟨⟨⟨h1,h2⟩,h3⟩,h4⟩,h5⟩,h6⟩,h7⟩:=h
 refine ⟨h1,h2,h3,fun y hy hk=>?_,fun i j hij=>?_,h6,h7⟩
 ·show X.env.scope.names.lookup y.1=some .cell
  rw [hs]
  exact h4 y hy hk
 ·have hi:i<cap.length:=(qS.mp hij).1
  have q:=h5 i (zV.mpr hi)
  rw [hij] at q
  dsimp only at q
  cases e1:N'[i]? with
  | none=>rw [e1] at q;cases q
  | some x=>
   rw [e1] at q
   cases e2:NN[j]? with
   | none=>rw [e2] at q;cases q
   | some y=>
    rw [e2] at q
    have q':x=y∧scope.names.lookup x=some .free:=of_decide_eq_true q
    exact ⟨x,rfl,by rw [hN,e2,q'.1],q'.2⟩
section
variable {X:Cx} {e a b c:Expr} {es:List Expr} {ρ:List Ent} {d da db dc:PyData} {ds:List PyData} {pos p:Pos}
end
abbrev Mt:=Str×Int×Int
abbrev dM (m:Mt):PyData:=.tuple [.str m.1,.int m.2.1,.int m.2.2]
abbrev dS (s:List Mt):PyData:=.tuple (s.map dM)
end L2.L3
namespace L2.L3
open PySem PySem.Spec PyProof.Rows
section
variable {prog:Program} {w:World} {A:Around} {R:Result→Shared→Prop} {I S:Addr} {fp wr:List Addr} {n:Nat} {P:Nat→Value→Prop} {St:Nat→Heap→Prop} {kw:List (Str×Value)}
end
end L2.L3
namespace L2.L3
open PySem PySem.Spec PyProof.Rows
section
variable {prog:Program} {w:World} {A:Around} {E:Value→Shared→Prop} {s:Shared} {l:Addr} {us:List Value} {ns:List Int} {Q:Value→Shared→Prop}
end
end L2.L3
namespace L2.L3
open PySem PySem.Spec PyProof.Rows
section
variable {X:Cx} {a b:Expr} {ρ:List Ent} {db:PyData} {pos p kp:Pos}
end
end L2.L3
namespace L2.L3
open PySem PySem.Spec PyProof.Rows
section
variable {X:Cx}
theorem a5m:OpR X (binaryOp .Add) (b6w X.K):=by
 intro pins s σ H x y v u Q I rx ry ⟨l,b,xs,zs,e1,e2,h1,h2,hz,q⟩
 subst e1 e2
 cases rx
 cases ry
 obtain ⟨its,r1,p1,_⟩:=I.list h1
 obtain ⟨its2,r2,p2,_⟩:=I.list h2
 obtain ⟨⟨c1,d1,t1,sl1⟩,n1,g1,k1,_,m1⟩:=p1
 obtain ⟨⟨c2,d2,t2,sl2⟩,n2,g2,k2,_,m2⟩:=p2
 dsimp only at k1 m1 k2 m2
 subst k1 m1 k2 m2
 have hz':its.toArray.size+its2.toArray.size≤sizeLine:=by rw [qI,qI,←r1.length,←r2.length];exact hz
 refine concat_meets ⟨_,g1,rfl⟩ ⟨_,g2,rfl⟩ noFill_list_add seq_list_add F.slot_list_add F.entry_list_add (F.args_list_add_2 _ _) (list_addW l b _ _ n1 n2 d1 d2 sl1 sl2 hz') ⟨g1,g2,?_⟩
 have ea:its.toArray++its2.toArray=(its++its2).toArray:=by simp
 rw [ea]
 exact ⟨.ref _,_,I.lnew (t':=s.toks) (r1.append r2) (by rw [jU];exact hz),rfl,q _ I.fresh⟩
def b6u (K:qB):R2:=fun x y H Q=>∃ l b xs zs,x=.ref l∧y=.ref b∧SqT K H l xs∧SqT K H b zs∧xs.length+zs.length≤sizeLine ∧
 (xs=[]→Q (.ref b) H)∧(xs≠[]→zs=[]→Q (.ref l) H)∧(xs≠[]→zs≠[]→∀ p,H p=none→Q (.ref p) (upd H p (.tup (xs++zs))))
theorem b1b:OpR X (binaryOp .Add) (b6u X.K):=by
 intro pins s σ H x y v u Q I rx ry ⟨l,b,xs,zs,e1,e2,h1,h2,hz,q0,q1,q2⟩
 by_cases hx:xs=[]
 ·subst e1 e2
  cases rx
  cases ry
  obtain ⟨its,r1,p1,_⟩:=I.tuple h1
  obtain ⟨its2,r2,p2,_⟩:=I.tuple h2
  obtain ⟨⟨c1,d1,t1,sl1⟩,g1,k1,n1,m1⟩:=p1
  obtain ⟨⟨c2,d2,t2,sl2⟩,g2,k2,n2,m2⟩:=p2
  dsimp only at k1 m1 k2 m2
  subst k1 m1 k2 m2
  have hi:its=[]:=by
   subst hx
   cases r1
   rfl
  refine concat_meets ⟨_,g1,rfl⟩ ⟨_,g2,rfl⟩ noFill_tuple_add seq_tuple_add F.slot_tuple_add F.entry_tuple_add (F.args_tuple_add_2 _ _) (tuple_addW0 l b _ _ n1 n2 d1 d2 sl1 sl2 (by rw [hi];rfl)) ⟨g1,g2,?_⟩
  exact ⟨.ref b,H,I,rfl,q0 hx⟩
 ·exact b1c pins s σ H x y v u Q I rx ry ⟨l,b,xs,zs,e1,e2,h1,h2,hx,hz,q1 hx,q2 hx⟩
variable {e a b c o:Expr} {es:List Expr} {ρ:List Ent} {d da db dc:PyData} {ds:List PyData} {pos p:Pos}
theorem a8x {T id:String} {name:Str} {r:V→List V→Hp→VK→Prop} {apos cpos:Pos} (pa:PlainAttrs T) (slot:Slot T name id) (hty:typeOf (.builtin id)=pure (.type "method_descriptor")) (hm:MtR X id r)
  (ho:PD X o ρ da) (ha:PAD X (e::es) ρ ds) (ht:∀ x G H,aM G H→Rep X.K G x da→tyV X.K T x H)
  (k:∀ x vs G H Q,aM G H→Rep X.K G x da→RepAll X.K G vs ds→(∀ v G' H',Grow G H G' H'→Rep X.K G' v d→Q v H')→r x vs H Q)
  (hbase:attributeBase o name X.env (eval o X.env)=eval o X.env:=by rfl)
  (hfew:((backTo cpos (starEach (e::es) X.env)).all (fun x=>!x.1)&&(backToKw cpos (keywordEach [] X.env)).all (fun x=>x.1.isSome)
   && decide ((e::es).length+([]:List Keyword).length+(if ([]:List Keyword).isEmpty then 0 else 1)<30))=true:=by rfl)
  (hline:(apos.endLine==cpos.line)=true:=by rfl) (hs:starEach (e::es) X.env=(false,eval e X.env)::starEach es X.env:=by rfl) (hplain:(backTo cpos (starEach es X.env)).any (·.1)=false:=by rfl) :
  PD X (.Call (.Attribute o name apos) (e::es) [] cpos) ρ d:=
 .of (a5j pa slot hty hm ho.pe ha.pa hbase hfew hline hs hplain) fun H0 G₀ G σ H Q R q=>⟨H0,G₀,G,R,fun x G1 H1 g1 r1=>⟨ht x G1 H1 g1.sub r1,H0,G₀,G1,R.more g1,fun vs G2 H2 g2 r2=>
  k x vs G2 H2 Q g2.sub (r1.mono g2.gg) r2 fun v G3 H3 g3 r3=>q v G3 H3 (g1.trans (g2.trans g3)) r3⟩⟩
theorem b2p {i j:Int}:CmpD X .Eq (.int i) (.int j) (decide (i=j)):=⟨_,a8F,fun x y G H Q _ rx ry q=>by cases rx;cases ry;exact ⟨rfl,by simpa using q⟩⟩
theorem b2j {i j:Int}:CmpD X .NotEq (.int i) (.int j) (!decide (i=j)):=⟨_,a8E,fun x y G H Q _ rx ry q=>by cases rx;cases ry;exact ⟨rfl,by simpa using q⟩⟩
theorem b2o {i j:Str}:CmpD X .Eq (.str i) (.str j) (decide (i=j)):=⟨_,a8F,fun x y G H Q _ rx ry q=>by cases rx;cases ry;exact ⟨rfl,by simpa using q⟩⟩
theorem b2i {i j:Str}:CmpD X .NotEq (.str i) (.str j) (!decide (i=j)):=⟨_,a8E,fun x y G H Q _ rx ry q=>by cases rx;cases ry;exact ⟨rfl,by simpa using q⟩⟩
theorem b2q {i j:Bool}:CmpD X .Eq (.bool i) (.bool j) (decide (i=j)):=⟨_,a8F,fun x y G H Q _ rx ry q=>by cases rx;cases ry;exact ⟨rfl,by simpa using q⟩⟩
theorem b2k {i j:Bool}:CmpD X .NotEq (.bool i) (.bool j) (!decide (i=j)):=⟨_,a8E,fun x y G H Q _ rx ry q=>by cases rx;cases ry;exact ⟨rfl,by simpa using q⟩⟩
end
end L2.L3
namespace L2.L3
open PySem PySem.Spec PyProof.Rows
structure Callee (P:Program) (w:World) (K:qB) (mg:Str→Option Value) (base:Heap) (x:Str) (k:Nat) (ps:List Str) (Fn:List PyData→PyData→Prop):Prop where
 ex:∃ f fd,mg x=some (.ref f)∧jC K (.ref f)=true∧Binds K fd ps []∧FnOk P w K mg base CX0 k f fd ps (spD K Fn)
structure Def (K:qB) (mg:Str→Option Value) (x:Str) (st:Stmt):Prop where
 ex:∃ f fd,Fun K x x st f fd∧mg x=some (.ref f)
theorem def_mk {K:qB} {h:Heap} {mg:Str→Option Value} {x:Str} {st:Stmt} {f:Addr} {oc:Value} {od an:Option Addr} {sl:Array (Option Value)} {kV doc pm cdv ct:Value} (X:K.In h) (G:h.Ns mainGlobals mg)
  (a:qp K mainGlobals x=some (some (.ref f))) (l:K.lookup f=some ⟨oc,od,.func (jE x x (dQ st) (bI st) (aC st) .none kV doc pm an cdv ct),sl⟩) (c:jz K cdv x=true) (k:jC K (.ref f)=true) :
  Def K mg x st:=⟨f,_,a1K l c k,jl X G a⟩
section
variable {P:Program} {w:World} {K:qB} {mg:Str→Option Value} {base:Heap} {X:Cx} {e:Expr} {es:List Expr} {ρ:List Ent} {d:PyData} {ds:List PyData} {pos p:Pos} {x:Str} {k:Nat} {ps N:List Str} {Fn:List PyData→PyData→Prop}
end
theorem a9E (a b:List PyData):jW (.list a) (.list b)=jq a b:=by rw [jW]
theorem uT:∀ a b:List Str,jq (a.map .str) (b.map .str)=decide (a=b)
 | [],[]=>by simp [jq]
 | [],_::_=>by simp [jq]
 | _::_,[]=>by simp [jq]
 | x::a,y::b=>by
  have ih:=uT a b
  simp only [qF,jq,ih,jW]
  by_cases h:x=y
  ·subst h;by_cases h2:a=b<;>simp [h2]
  ·simp [h]
theorem a1V {ds:List PyData} (h:∀ d∈ds,ki d=true):PyData.canLayAll0 ds=true:=by
 induction ds with
 | nil=>rfl
 | cons d r ih=>
  rw [PyData.canLayAll0,h d qd,ih fun e he=>h e (qE _ he)]
  rfl
theorem a3j {ds:List PyData} {n:Nat} (h:∀ d∈ds,zF d≤n):PyData.depthAll ds≤n:=by
 induction ds with
 | nil=>simp [PyData.depthAll]
 | cons d r ih=>
  have h1:=h d qd
  have h2:=ih fun e he=>h e (qE _ he)
  simp only [PyData.depthAll]
  omega
theorem a6l {d:PyData} {n:Nat} (h1:ki d=true) (h2:zF d≤n) (h3:n≤64):qa d=true:=by
 unfold qa
 rw [h1,Bool.true_and]
 exact decide_eq_true (qj h2 h3)
end L2.L3
namespace L2.L3
open PySem PySem.Spec PyProof.Rows
section
variable {X:Cx} {e a b c o:Expr} {es:List Expr} {ρ:List Ent} {d da db dc:PyData} {ds:List PyData} {pos p p2:Pos}
theorem a3d {ns:List Int} {i:Int}:inV (.int i) (ns.map V.int)=decide (i∈ns):=by
 unfold inV
 induction ns with
 | nil=>rfl
 | cons a r ih=>
  rw [qF,jV,ih]
  have e:eqV (.int a) (.int i)=decide (a=i):=rfl
  rw [e]
  by_cases h:a=i
  ·subst h;simp
  ·have h':¬i=a:=fun z=>h z.symm
   simp [h,h']
theorem a3c {ns:List Str} {i:Str}:inV (.str i) (ns.map V.str)=decide (i∈ns):=by
 unfold inV
 induction ns with
 | nil=>rfl
 | cons a r ih=>
  rw [qF,jV,ih]
  have e:eqV (.str a) (.str i)=(a==i):=rfl
  rw [e]
  by_cases h:a=i
  ·subst h;simp
  ·have h':¬i=a:=fun z=>h z.symm
   simp [h,h']
theorem a0H (ns:List Int):(ns.map V.int).all mW=true:=by simp [mW]
theorem a0G (ns:List Str):(ns.map V.str).all mW=true:=by simp [mW]
end
end L2.L3
namespace L2.L3
open PySem PySem.Spec PyProof.Rows
def tyD:PyData→String
 | .none => "NoneType"
 | .bool _ => "bool"
 | .int _ => "int"
 | .str _ => "str"
 | .list _ => "list"
 | .tuple _ => "tuple"
 | .dict _ => "dict"
example (K:qB):kT K (.type "int") (.type "int")=some true:=by rfl
example (K:qB):kT K (.type "bool") (.type "int")=some true:=by rfl
example (K:qB):kT K (.type "str") (.type "int")=some false:=by rfl
section
variable {X:Cx} {e a b c o:Expr} {es:List Expr} {ρ:List Ent} {d da db dc:PyData} {ds:List PyData} {pos p p2:Pos}
theorem a9c {pins:List (Addr×Obj)} {σ:St} {H:Hp} {s:Shared} {A:Around} {E:Value→Shared→Prop} {Q:Value→Shared→Prop} {cv u:Value} {t:Bool} {v:V} (I:Inv X pins σ H s) (r:Rep X.K H v d) (rx:RelV v u)
  (e:kT X.K (.type (tyD d)) cv=some t) (h:∀ tk,Q (.bool t) { s with toks:=tk }):wpAny (model X.prog X.w) A (call (.builtin "isinstance") [u,cv]) Q E s:=by
 cases r with
 | none=>exact oJ I rx .non e h
 | bool x=>exact oJ I rx (.bl x) e h
 | int x=>exact oJ I rx (.int x) e h
 | str x=>exact oJ I rx (.str x) e h
 | list hq ra=>
  cases rx
  obtain ⟨its,_,⟨o,n,e1,e2,_⟩,_⟩:=I.list hq
  exact qy zq I.kIn ⟨o,e1,e2⟩ e (fun z=>nomatch z) h
 | tuple hq ra=>
  cases rx
  obtain ⟨its,_,⟨o,e1,e2,_⟩,_⟩:=I.tuple hq
  exact qy PySem.W.kitx_tuple I.kIn ⟨o,e1,e2⟩ e (fun z=>nomatch z) h
 | @dict a kvs _ hq _ _=>
  cases (show u=qi a from rx)
  obtain ⟨_,_,vs,_,p⟩:=(show cG X.prog X.w H s.heap a (.dK kvs) from hq.ok I.hok)
  obtain ⟨o,es,ep,h1,h2,_⟩:=p
  exact qy zr I.kIn ⟨o,h1,h2.1⟩ e (fun z=>nomatch z) h
end
end L2.L3
namespace L2.L3
open PySem PySem.Spec PyProof.Rows
theorem a4M:∀ {bs:List Bool} {us:List Value},aX (bs.map V.bl) us→us=bs.map jQ
 | [],_,r=>by cases r;rfl
 | b::bs,_,r=>by
  cases r with
  | cons r1 r2=>cases r1;rw [a4M r2];rfl
theorem range_all (bs:List Bool):((jS bs.length).all fun i=>bs.getD i false)=bs.all id:=by
 rw [kq]
 simp only [jN,zV]
 constructor
 ·intro h b hb
  obtain ⟨i,hi,rfl⟩:=kd.mp hb
  have:=h i hi
  simpa [zO,qN hi] using this
 ·intro h i hi
  have:=h bs[i] (jM hi)
  simpa [zO,qN hi] using this
section
variable {X:Cx} {e a b c o:Expr} {es:List Expr} {ρ:List Ent} {d da db dc:PyData} {ds:List PyData} {pos p p2:Pos}
theorem a7h (hc:X.calm=true):gM X (.builtin "all") (fun xs H Q=>∃ (p:Addr) (bs:List Bool),xs=[.ref p]∧SqL X.K H p (bs.map V.bl)∧Q (.bl (bs.all id)) H):=by
 intro pins s σ H xs us Q I r ⟨p,bs,e,hq,q⟩
 subst e
 obtain ⟨u,rfl,rx⟩:=vals1 r
 cases rx
 obtain ⟨its,rv,pl,hz⟩:=I.list hq
 have ev:=a4M rv
 subst ev
 have hl:=pl.isList
 have lt:p<s.heap.objs.size:=by obtain ⟨o,g,_⟩:=hl;exact qG g
 refine call_all_walk (wpAny_pyIter_list hl ?_)
 refine ⟨s.heap.objs.size,_,_,_,_,_,fun i=>bs.getD i false,rfl,Walks.list (A:=X.A.in1) (I.ok.hd hc) _ p (qU lt) (bs.map jQ).toArray,⟨⟨_,qK _ rfl,rfl,rfl⟩,hl.push _⟩,fun i v s' Q' E' hP hQ=>?_,fun h' tk kp=>?_⟩
 ·have hP:(bs.map jQ).toArray[i]?=some v:=hP
  rw [zN,qJ] at hP
  cases eb:bs[i]? with
  | none=>rw [eb] at hP;cases hP
  | some b=>
   rw [eb] at hP
   cases hP
   refine wpAny_truthy_bool ?_
   have:bs.getD i false=b:=by rw [zO,eb];rfl
   rw [←this]
   exact hQ
 ·have sz:(bs.map jQ).toArray.size=bs.length:=by simp
  rw [sz,range_all]
  refine ⟨.bl _,H,I.kept (fun b o g=>kp b o ?_ (qC _ g)),rfl,q⟩
  intro hb
  have z:b=s.heap.objs.size:=by simpa using hb
  exact absurd (qG g) (by rw [z];exact jG _)
theorem fC {K:qB} {G:Hp}:∀ ns:List Int,RepAll K G (ns.map V.int) (ns.map .int)
 | []=>.nil
 | _::r=>.cons (.int _) (fC r)
def sortI (ns:List Int):List Int:=ns.mergeSort (fun a b=>decide (a≤b))
theorem sortI_perm (ns:List Int):(sortI ns).Perm ns:=List.mergeSort_perm _ _
theorem a1g (ns:List Int):(sortI ns).Pairwise (·≤·):=by
 have h:=List.pairwise_mergeSort (le:=fun (a b:Int)=>decide (a≤b)) (fun a b c h1 h2=>by simp only [decide_eq_true_eq] at *;omega) (fun a b=>by simp only [kM,decide_eq_true_eq];omega) ns
 exact h.imp fun h=>by simpa using h
theorem sortI_eq {ns ms:List Int} (hp:ms.Perm ns) (hs:ms.Pairwise (·≤·)):ms=sortI ns:=PySem.W.ksm_same (hp.trans (sortI_perm ns).symm) hs (a1g ns)
theorem a1Z:gM X (.builtin "sorted") (fun xs H Q=>∃ (p:Addr) (ns:List Int),xs=[.ref p]∧SqL X.K H p (ns.map V.int)∧ns.length<64∧∀ l,H l=none→Q (.ref l) (upd H l (.lst ((sortI ns).map V.int)))):=by
 intro pins s σ H xs us Q I r ⟨p,ns,e,hq,h64,q⟩
 subst e
 obtain ⟨u,rfl,rx⟩:=vals1 r
 cases rx
 obtain ⟨its,rv,pl,hz⟩:=I.list hq
 have hi:=intsAre_of rv
 refine sorted_ints pl.isList hi (by rw [hi.length];exact h64) fun out ns' ho hp hs=>?_
 have e:=sortI_eq hp hs
 subst e
 obtain ⟨ep,g⟩:=sortedAll_at s.heap its out
 have hf:H (s.heap.objs.size+1)=none:=I.hok.fresh (ju _)
 refine ⟨.ref (s.heap.objs.size+1),_,I.laid (t':=s.toks) (fun b o g=>sortedAll_old g) (ju _) ?_,rfl,q _ hf⟩
 refine ⟨?_,out.toList,ep,lN ho,?_⟩
 ·rw [qQ,(sortI_perm ns).length_eq]
  exact qv (gZ (by omega))
 ·rw [g]
end
end L2.L3
namespace L2.L3
open PySem PySem.Spec PyProof.Rows
def Its (n:Nat) (val:Nat→V):It:=⟨fun i _=>i<n,fun i H x H'=>H'=H∧x=val i,fun i _=>n≤i⟩
theorem a3A {P:Program} {w:World} {K:qB} {x:Str} {px:Pos} {it:Addr} {n:Nat} {PP:Nat→Value→Prop} {St:Nat→Heap→Prop} {val:Nat→V} (W:∀ A':Around,A'.handled=none→Walks P w A' it [it] [it] n PP St)
  (hobj:∀ i h,St i h→∃ o,h.get? it=some o∧∀ v,o.data≠.cell v) (hv:∀ i u,i<n→PP i u→RelV (val i) u)
  (hself:∀ (A:Around) (i:Nat) (s:Shared) (Q:Value→Shared→Prop) (E:Value→Shared→Prop),St i s.heap→Q (.ref it) s→wpAny (model P w) A (pyIter (.ref it)) Q E s):Turn P w K (.Name x px) (Its n val) [it] it (fun i h=>i≤n∧St i h) where
 mem:=by simp
 obj:=fun i h st b hb=>by
  have e:b=it:=by simpa using hb
  subst e
  exact hobj i h st.2
 keep:=fun i h h' st k=>⟨st.1,(W {} rfl).frame i h h' st.2 k⟩
 item:=by
  intro X hP hw hK hc i pins s σ H E I hf st hg
  subst hP hw hK
  obtain ⟨f0,f1,f2,f3,f4,f5⟩:=hf it (by simp)
  refine (W X.A (I.ok.hd hc)).item i s _ _ hg st.2 fun u h' tk pu st' kk=>⟨u,rfl,wpAny_pure ?_⟩
  have I1:Inv X pins σ H { s with heap:=h',toks:=tk }:=I.turned (fun b o hb e=>kk b o (by simpa using hb) e) f0 f1 f3 f4 f5
  exact ⟨val i,H,I1,hv i u hg pu,⟨rfl,rfl⟩,⟨hg,st'⟩,fun b hb=>(hf b hb).1⟩
 done:=by
  intro X hP hw hK hc i pins s σ H E I hf st hg
  subst hP hw hK
  obtain ⟨f0,f1,f2,f3,f4,f5⟩:=hf it (by simp)
  have e:i=n:=Nat.le_antisymm st.1 hg
  subst e
  exact (W X.A (I.ok.hd hc)).done s _ _ st.2 fun h' tk kk=>⟨rfl,I.turned (fun b o hb e=>kk b o (by simpa using hb) e) f0 f1 f3 f4 f5⟩
 self:=fun A i s Q E st h=>hself A i s Q E st.2 h
def lettersOf (z:Str):List Str:=z.cps.toList.map fun c=>⟨#[c]⟩
section
variable {X:Cx} {iter a b:Expr} {ρ:List Ent} {p pos px:Pos} {x:Str}
theorem b0N {z:Str} (h:PD X iter ρ (.str z)) (hc:X.calm=true):PID X (.Name x px) iter ρ ((lettersOf z).map .str):=by
 refine ⟨?_⟩
 intro pins s σ H R I ⟨H0,G₀,G,S,q⟩
 refine thn (h.run H0 G₀ G pins s σ H (fun v H'=>v=.str z∧∃ G',Grow G H G' H') I S fun v G' H' g r=>by cases r;exact ⟨rfl,G',g⟩) fun v s1 ⟨y,H1,I1,r1,e1,G1,g1⟩=>?_
 subst e1
 obtain ⟨t,rfl⟩:=r1
 have wk:Walk X.K (Its z.cps.size fun i=>.str ⟨#[z.cps.getD i 0]⟩) G1 ((lettersOf z).map .str):=by
  intro i G' H' s1 s2
  have hl:((lettersOf z).map PyData.str).length=z.cps.size:=by simp [lettersOf]
  refine ⟨fun d e=>?_,fun hle=>by rw [hl] at hle;exact hle⟩
  have hi:i<z.cps.size:=by
   have:=(qS.mp e).1
   rw [hl] at this
   exact this
  refine ⟨hi,fun y H2 ⟨e2,e3⟩=>?_⟩
  subst e2 e3
  refine ⟨G',.refl s2,?_⟩
  have ed:d=.str ⟨#[z.cps.getD i 0]⟩:=by
   unfold lettersOf at e
   rw [qJ,qJ,jK,qo hi] at e
   have:=qA e
   rw [←this]
   simp [kS,hi]
  rw [ed]
  exact .str _
 have hv:∀ i u,i<z.cps.size→SignAt z i u→RelV (.str ⟨#[z.cps.getD i 0]⟩) u:=by
  rintro i u hi ⟨c,t',ec,rfl⟩
  refine ⟨t',?_⟩
  rw [qo hi] at ec
  have:=qA ec
  simp [kS,hi,this]
 have fin:∀ (cl:String) (o:Obj),o={ cls:=.type cl,data:=.fields #[.str z t,.int 0 0] }→(∀ A':Around,A'.handled=none→Walks X.prog X.w A' s1.heap.objs.size [s1.heap.objs.size] [s1.heap.objs.size] z.cps.size (SignAt z) (fun i h=>h.IsStrIter s1.heap.objs.size cl z t i)) →
   (∀ (A:Around) (i:Nat) (s:Shared) (Q:Value→Shared→Prop) (E:Value→Shared→Prop),s.heap.IsStrIter s1.heap.objs.size cl z t i→Q (.ref s1.heap.objs.size) s→wpAny (model X.prog X.w) A (pyIter (.ref s1.heap.objs.size)) Q E s) →
   PIE X pins σ (.Name x px) R (.ref s1.heap.objs.size) { s1 with heap:=s1.heap.push o }:=by
  intro cl o eo W hself
  subst eo
  refine ⟨s1.heap.objs.size,[s1.heap.objs.size],_,_,H1,rfl,I1.kept (t':=s1.toks) fun b o e=>qC _ e,a3A W (fun i h ⟨o,g,_,gd⟩=>⟨o,g,fun v z=>by rw [gd] at z;cases z⟩) hv hself,⟨jA _,⟨_,qK _ rfl,rfl,rfl⟩⟩,fun b hb=>?_,q _ G1 H1 g1 wk⟩
  have e:b=s1.heap.objs.size:=by simpa using hb
  subst e
  exact I1.fpOk (qO _) (I1.hok.fresh (qO _))
 cases ha:z.cps.all (·<128)
 ·exact wpAny_pyIter_wide ha (fin "str_iterator" _ rfl (fun A' hA=>Walks.strWide hA _ z t) fun A i s Q E st hq=>wpAny_pyIter_striter_wide st hq)
 ·exact wpAny_pyIter_ascii ha (fin "str_ascii_iterator" _ rfl (fun A' hA=>Walks.strAscii hA _ z t) fun A i s Q E st hq=>wpAny_pyIter_striter_ascii st hq)
theorem b2l {i j:Str}:CmpD X .LtE (.str i) (.str j) (!decide (j.cps.toList<i.cps.toList)):=⟨fun x y H Q=>∃ i j,x=V.str i∧y=V.str j∧Q (.bl (!decide (j.cps.toList<i.cps.toList))) H,by
 intro pins s σ H x y v u Q I rx ry ⟨i,j,e1,e2,q⟩
 subst e1 e2
 obtain ⟨t,rfl⟩:=rx
 obtain ⟨t',rfl⟩:=ry
 exact PySem.P.le_str ⟨.bl _,H,I,rfl,q⟩,fun x y G H Q _ rx ry q=>by cases rx;cases ry;exact ⟨_,_,rfl,rfl,q⟩⟩
end
end L2.L3
namespace L2.L3
open PySem PySem.Spec PyProof.Rows
theorem cG.there {P:Program} {w:World} {H:Hp} {h:Heap} {a:Addr} {o:HO} (x:cG P w H h a o):∃ u,h.get? a=some u:=by
 cases o with
 | lst xs=>obtain ⟨_,_,_,_,e⟩:=x;exact ⟨_,e⟩
 | tup xs=>obtain ⟨_,_,_,u,e,_⟩:=x;exact ⟨u,e⟩
 | dK kvs=>obtain ⟨_,_,_,_,o,_,_,e,_⟩:=x;exact ⟨_,e⟩
 | dT kvs=>obtain ⟨_,_,_,_,o,_,_,e,_⟩:=x;exact ⟨_,e⟩
 | set S n=>obtain ⟨o,_,_,_,e,_⟩:=x;exact ⟨_,e⟩
 | ins C dx fs=>obtain ⟨_,_,_,e,_⟩:=x;exact ⟨_,e⟩
 | own y=>exact x
 | xd fs=>obtain ⟨_,⟨_,_,_,e,_⟩,_⟩:=x;exact ⟨_,e⟩
 | rng lo hi=>obtain ⟨_,_,_,e⟩:=x;exact ⟨_,e⟩
 | frz ob u=>obtain ⟨e,_⟩:=x;exact ⟨_,e⟩
 | tbl ps=>exact ⟨_,show h.get? a=some _ from x⟩
 | met f y=>exact ⟨_,show h.get? a=some _ from x⟩
 | ext φ=>exact x.2.1
theorem a9k {P:Program} {w:World} {H:Hp} {h:Heap} {a:Addr} (x:HOk P w H h) (e:h.get? a=none):H a=none:=by
 cases q:H a with
 | none=>rfl
 | some u=>obtain ⟨v,z⟩:=cG.there (x a u q);rw [e] at z;cases z
def mX (X:Cx) (b:Addr):Prop:=(b∈X.ex∨X.s₀.heap.get? b=none)∧∀ p∈X.pn,p.1≠b
def pQ (fr:Addr→Prop) (fl:Value) (H:Hp) (a C:Addr) (h:Heap):Prop:=
 fr a∧H a=none∧∃ oe vs a0 T oT ts,h.get? a=some oe∧oe.cls=.ref C∧oe.data=.fields vs∧vs[0]?=some a0 ∧
  vs[1]?=some (.ref T)∧fr T∧H T=none∧T≠a∧h.get? T=some oT∧oT.data=.fields ts∧ts[3]?=some fl
def ExcAt (fr:Addr→Prop) (H:Hp) (a C:Addr) (h:Heap):Prop:=
 (fr a∧H a=none∧∃ oe vs a0,h.get? a=some oe∧oe.cls=.ref C∧oe.data=.fields vs∧vs[0]?=some a0∧vs[1]?=some .none)∨pQ fr .none H a C h
def iZ (X:Cx) (fr:Addr→Prop) (H:Hp) (a C:Addr) (h:Heap):Prop:=ExcAt fr H a C h∨∃ L,X.env.frame=some L∧pQ fr (rawInt L) H a C h
def a5W (X:Cx) (c:Str) (e:Value) (H:Hp) (s:Shared):Prop:=∃ a C,e=.ref a∧dW X.K c=some C∧iZ X (mX X) H a C s.heap
theorem pQ.mono {fr fr':Addr→Prop} {fl:Value} {H:Hp} {a C:Addr} {h:Heap} (x:pQ fr fl H a C h) (k:∀ b,fr b→fr' b):pQ fr' fl H a C h:=by
 obtain ⟨h1,h2,oe,vs,a0,T,oT,ts,e1,e2,e3,e4,e5,e6,e7⟩:=x
 exact ⟨k _ h1,h2,oe,vs,a0,T,oT,ts,e1,e2,e3,e4,e5,k _ e6,e7⟩
theorem ExcAt.mono {fr fr':Addr→Prop} {H:Hp} {a C:Addr} {h:Heap} (x:ExcAt fr H a C h) (k:∀ b,fr b→fr' b):ExcAt fr' H a C h:=by
 rcases x with ⟨h1,h2⟩ | x
 ·exact .inl ⟨k _ h1,h2⟩
 ·exact .inr (x.mono k)
theorem iZ.mono {X:Cx} {fr fr':Addr→Prop} {H:Hp} {a C:Addr} {h:Heap} (x:iZ X fr H a C h) (k:∀ b,fr b→fr' b):iZ X fr' H a C h:=by
 rcases x with x | ⟨L,h1,x⟩
 ·exact .inl (x.mono k)
 ·exact .inr ⟨L,h1,x.mono k⟩
theorem ExcAt.ob {fr:Addr→Prop} {H:Hp} {a C:Addr} {h:Heap} (x:ExcAt fr H a C h):fr a∧H a=none∧∃ oe vs,ExO h a C oe∧oe.data=.fields vs:=by
 rcases x with ⟨h1,h2,oe,vs,a0,e1,e2,e3,_⟩ | ⟨h1,h2,oe,vs,a0,T,oT,ts,e1,e2,e3,_⟩
 ·exact ⟨h1,h2,oe,vs,⟨e1,e2⟩,e3⟩
 ·exact ⟨h1,h2,oe,vs,⟨e1,e2⟩,e3⟩
structure Chg (X:Cx) (fr:Addr→Prop) (cs:List Addr) (H:Hp) (h h':Heap):Prop where
 ch:∀ b∈cs,fr b∧H b=none∧∃ o vs,h.get? b=some o∧o.data=.fields vs
 un:Un (frs X.stack) cs H H h h'
 hok:HOk X.prog X.w H h'
section
variable {X:Cx} {pins:List (Addr×Obj)} {σ:List (Option V)} {H H':Hp} {s:Shared} {h':Heap} {a C:Addr} {fr:Addr→Prop}
theorem a2N {base:Heap} {Ts:List Addr} {a0 fl:Value} (I:Inv X pins σ H s) (hst:X.stack=X.env::X.outer) (ha:fr a∧H a=none∧∃ o vs,s.heap.get? a=some o∧o.data=.fields vs)
  (hT:∀ b∈Ts,fr b∧H b=none∧∃ o vs,s.heap.get? b=some o∧o.data=.fields vs) (hb:base=zL s.heap ((a::Ts)++frs X.stack)) (hnew:∀ b,s.heap.get? b=none→fr b)
  (N:Heap.NotedW base (X.env::X.outer) a (.ref C) a0 fl s.heap h'):Chg X fr (a::Ts) H s.heap h'∧pQ fr fl H a C h':=by
 obtain ⟨st,ff,⟨oe,vs,T,oT,ts,e1,⟨e2,e3⟩,e4,e5,e6,e7,e8,e9,e10⟩,up⟩:=N
 have hmem:∀ b∈frs X.stack,∃ o,s.heap.get? b=some o∧∀ vs,o.data≠.fields vs:=fun b hm=>by
  obtain ⟨_,o,ho,hd⟩:=I.stack.mem hm
  exact ⟨o,ho,hd⟩
 have keep:∀ b o,s.heap.get? b=some o→b∉frs X.stack→b∉a::Ts→h'.get? b=some o:=fun b o e n1 n2=>
  st b o (by rw [hb];exact zZ _ e fun z=>(qg.mp z).elim n2 n1)
 have slot:∀ b o,s.heap.get? b=some o→b∈frs X.stack→∃ sl,h'.get? b=some { o with slots:=sl }:=fun b o e hm=>by
  obtain ⟨o',ho',hd⟩:=hmem b hm
  rw [e] at ho';cases ho'
  exact up b o e hd
 have hch:∀ b∈a::Ts,fr b∧H b=none∧∃ o vs,s.heap.get? b=some o∧o.data=.fields vs:=fun b hm=>by
  rcases qM.mp hm with rfl | hm
  ·exact ha
  ·exact hT b hm
 refine ⟨⟨hch,⟨fun b o e n n1 n2=>keep b o e n1 n2,fun b o e n n1 n2=>slot b o e n1,fun b o e n _=>n,fun b o e n2=>?_,fun _ _ q=>q,fun _ _ _ q=>q,fun _ ps q=>⟨#[],by rw [q];simp⟩⟩,fun b u q=>?_⟩,?_⟩
 ·by_cases hm:b∈frs X.stack
  ·obtain ⟨sl,z⟩:=slot b o e hm
   exact ⟨_,z⟩
  ·exact ⟨o,keep b o e hm n2⟩
 ·have tr:∀ c u,H c=some u→c∉frs X.stack∧c∉a::Ts:=fun c u q=>⟨fun z=>(by rw [I.stkFree c z] at q;cases q),fun z=>(by rw [(hch c z).2.1] at q;cases q)⟩
  refine (I.hok b u q).stay (fun c v hc z=>?_) (fun _ z=>z) fun _ _ z=>z
  rcases hc with rfl | hc
  ·exact keep c v z (tr c u q).1 (tr c u q).2
  ·exact keep c v z (tr c _ hc).1 (tr c _ hc).2
 ·refine ⟨ha.1,ha.2.1,oe,vs,a0,T,oT,ts,e1,e2,e4,e3,e5,?_⟩
  have hh:fr T∧H T=none:=by
   cases q:s.heap.get? T with
   | none=>exact ⟨hnew T q,a9k I.hok q⟩
   | some o=>
    have hm:T∈(a::Ts)++frs X.stack:=Classical.byContradiction fun z=>by
     have:=zZ _ q z
     rw [←hb,e6] at this;cases this
    rcases qg.mp hm with hm | hm
    ·exact ⟨(hch T hm).1,(hch T hm).2.1⟩
    ·exfalso
     obtain ⟨o',ho',hd⟩:=hmem T hm
     obtain ⟨sl,z⟩:=slot T o' ho' hm
     rw [e8] at z;cases z
     exact hd ts e9
  exact ⟨hh.1,hh.2,e7,e8,e9,e10⟩
theorem b1h {M:Model} {A:Around} {E:Value→Shared→Prop} {Q:Unit→Shared→Prop} (hfr:A.frames=some X.stack) (hst:X.stack=X.env::X.outer) (hf:X.env.frame=some X.env.locals) (I:Inv X pins σ H s) (x:ExcAt fr H a C s.heap) (hnew:∀ b,s.heap.get? b=none→fr b)
  (h:∀ h' ch,Chg X fr ch H s.heap h'→pQ fr (rawInt X.env.locals) H a C h'→Q () { s with heap:=h' }):wpAny M A (noteFrame (.ref a) X.env) Q E s:=by
 have frm:∀ (l:List Addr),∀ env∈X.env::X.outer,∀ b,env.frame=some b→b∈l++frs X.stack:=fun l env he b hb=>qW _ (by
  rw [hst];unfold frs
  exact zi.mpr ⟨env,he,hb⟩)
 have hl:=I.stack
 rcases x with ⟨h1,h2,oe,vs,a0,e1,e2,e3,e4,e5⟩ | ⟨h1,h2,oe,vs,a0,T,oT,ts,e1,e2,e3,e4,e5,e6,e7,e8,e9,e10,e11⟩
 ·have hl':s.heap.FunFrames (zL s.heap ([a]++frs X.stack)) (X.env::X.outer):=PySem.W.funFrames_hide (hst▸hl) (frm [a])
  unfold noteFrame
  simp only [hf]
  refine wpAny_bind (wpAny_field e1 e3 e5 ?_)
  rw [if_neg (by decide)]
  refine wpAny_entryW (hst▸hfr) hl' hf e1 (fun b o e=>zg ([a]++frs X.stack) e) (kc ([a]++frs X.stack) (by simp)) e3 (kr.mp e5).1 e4 fun h' N=>?_
  rw [e2] at N
  obtain ⟨c1,c2⟩:=a2N (Ts:=[]) I hst ⟨h1,h2,oe,vs,e1,e3⟩ (fun _ z=>nomatch z) rfl hnew N
  exact h h' _ c1 c2
 ·have hl':s.heap.FunFrames (zL s.heap ([a,T]++frs X.stack)) (X.env::X.outer):=PySem.W.funFrames_hide (hst▸hl) (frm [a,T])
  refine wpAny_noteFrame_onW (hst▸hfr) hl' hf ⟨oe,vs,T,oT,ts,e1,⟨e2,e4⟩,e3,e5,kc ([a,T]++frs X.stack) (by simp),e8,e9,e10,e11⟩ (fun b o e=>zg ([a,T]++frs X.stack) e) (kc ([a,T]++frs X.stack) (by simp)) fun h' N=>?_
  obtain ⟨c1,c2⟩:=a2N (Ts:=[T]) I hst ⟨h1,h2,oe,vs,e1,e3⟩ (fun b z=>by cases qh.mp z;exact ⟨e6,e7,oT,ts,e9,e10⟩) rfl hnew N
  exact h h' _ c1 c2
theorem Chg.same {X:Cx} {fr:Addr→Prop} {H:Hp} {h:Heap} (hok:HOk X.prog X.w H h):Chg X fr [] H h h:=
 ⟨(fun _ z=>nomatch z),⟨fun _ _ e _ _ _=>e,fun _ o e _ _ _=>⟨o.slots,e⟩,fun _ _ _ n _=>n,fun _ o e _=>⟨o,e⟩,fun _ _ q=>q,fun _ _ _ q=>q,fun _ ps q=>⟨#[],by rw [q];simp⟩⟩,hok⟩
theorem wU {M:Model} {A:Around} {E:Value→Shared→Prop} {Q:Unit→Shared→Prop} (hfr:A.frames=some X.stack) (hst:X.stack=X.env::X.outer) (hf:X.env.frame=some X.env.locals) (I:Inv X pins σ H s) (x:iZ X fr H a C s.heap) (hnew:∀ b,s.heap.get? b=none→fr b)
  (h:∀ h' ch,Chg X fr ch H s.heap h'→pQ fr (rawInt X.env.locals) H a C h'→Q () { s with heap:=h' }):wpAny M A (noteFrame (.ref a) X.env) Q E s:=by
 rcases x with x | ⟨L,hL,x⟩
 ·exact b1h hfr hst hf I x hnew h
 ·rw [hf] at hL;cases hL
  have q:=h s.heap [] (Chg.same I.hok) x
  obtain ⟨h1,h2,oe,vs,a0,T,oT,ts,e1,e2,e3,e4,e5,e6,e7,e8,e9,e10,e11⟩:=x
  unfold noteFrame
  simp only [hf]
  refine wpAny_bind (wpAny_field e1 e3 e5 ?_)
  rw [if_pos (by simp)]
  refine wpAny_bind (wpAny_field e9 e10 e11 ?_)
  rw [if_pos (by simp [rawInt])]
  exact wpAny_pure q
theorem a4q {M:Model} {A:Around} {E:Value→Shared→Prop} {Q:Unit→Shared→Prop} {fl:Value} (hok:HOk X.prog X.w H s.heap) (x:pQ fr fl H a C s.heap)
  (h:∀ h' ch,Chg X fr ch H s.heap h'→pQ fr .none H a C h'→Q () { s with heap:=h' }):wpAny M A (setFlight (.ref a) none) Q E s:=by
 obtain ⟨h1,h2,oe,vs,a0,T,oT,ts,e1,e2,e3,e4,e5,e6,e7,e8,e9,e10,e11⟩:=x
 have sz:3<ts.size:=(kr.mp e11).1
 refine wpAny_setFlight_none e1 e3 e5 e9 e10 sz (h _ [T] ⟨fun b z=>?_,⟨fun b o e n _ n2=>?_,fun b o e n _ n2=>?_,fun b o e n _=>n,fun b o e n2=>?_,fun _ _ q=>q,fun _ _ _ q=>q,fun _ ps q=>⟨#[],by rw [q];simp⟩⟩,fun b u q=>?_⟩ ?_)
 ·cases qh.mp z;exact ⟨e6,e7,oT,ts,e9,e10⟩
 ·rw [qY _ _ (fun z=>n2 (by simp [z]))];exact e
 ·exact ⟨o.slots,by rw [qY _ _ (fun z=>n2 (by simp [z]))];exact e⟩
 ·exact ⟨o,by rw [qY _ _ (fun z=>n2 (by simp [z]))];exact e⟩
 ·have tr:∀ c u,H c=some u→T≠c:=fun c u q z=>by rw [←z,e7] at q;cases q
  refine (hok b u q).stay (fun c v hc z=>?_) (fun _ z=>z) fun _ _ z=>z
  rcases hc with rfl | hc
  ·rw [qY _ _ (tr c u q)];exact z
  ·rw [qY _ _ (tr c _ hc)];exact z
 ·refine ⟨h1,h2,oe,vs,a0,T,_,_,?_,e2,e3,e4,e5,e6,e7,e8,jj _ e9 (Obj.isFreed_of_fields (zG e10 _)),zG e10 _,by simp [sz]⟩
  rw [qY _ _ e8];exact e1
theorem xB {M:Model} {A:Around} {E:Value→Shared→Prop} {Q:Unit→Shared→Prop} (hfr:A.frames=some X.stack) (hst:X.stack=X.env::X.outer) (hf:X.env.frame=some X.env.locals) (I:Inv X pins σ H s) (x:iZ X fr H a C s.heap) (hnew:∀ b,s.heap.get? b=none→fr b)
  (h:∀ h' ch,Un (frs X.stack) ch H H s.heap h'→(∀ b∈ch,fr b)→HOk X.prog X.w H h'→ExcAt fr H a C h'→Q () { s with heap:=h' }):wpAny M A (leaving X.env (.ref a)) Q E s:=by
 unfold leaving
 refine wpAny_bind (wU hfr hst hf I x hnew fun h1 ch1 c1 x1=>?_)
 refine a4q (X:=X) (s:={ s with heap:=h1 }) c1.hok x1 fun h2 ch2 c2 x2=>?_
 refine h h2 (ch1++ch2) ((c1.un.mono (fun _ z=>z) fun b z=>jD _ z).trans (c2.un.mono (fun _ z=>z) fun b z=>qW _ z)) (fun b z=>?_) c2.hok (.inr x2)
 rcases qg.mp z with z | z
 ·exact (c1.ch b z).1
 ·exact (c2.ch b z).1
theorem Inv.chg {ch:List Addr} (I:Inv X pins σ H s) (c:Chg X (fun b=>mX X b∧∀ p∈pins,p.1≠b) ch H s.heap h'):Inv X pins σ H { s with heap:=h' }:=by
 obtain ⟨m,hn,hl⟩:=id I.loc
 obtain ⟨oL,es,ep,hoL,rL⟩:=id hn
 have cL:X.env.locals∉ch:=fun z=>by
  obtain ⟨_,_,o,vs,e1,e2⟩:=c.ch _ z
  rw [hoL] at e1;cases e1
  rw [rL.1] at e2;cases e2
 have cC:∀ x d,X.env.cells.lookup x=some d→d∉ch:=fun x d e z=>by
  obtain ⟨_,_,o,vs,e1,e2⟩:=c.ch _ z
  obtain ⟨v,o',e3,e4⟩:=I.cell x d e
  rw [e3] at e1;cases e1
  rw [e4] at e2;cases e2
 have cS:∀ b o,X.s₀.heap.get? b=some o→b∉X.ex→b∉ch:=fun b o e n z=>by
  rcases (c.ch b z).1.1.1 with q | q
  ·exact n q
  ·rw [e] at q;cases q
 have cP:∀ p∈X.pn++pins,p.1∉ch:=fun p hp z=>by
  rcases qg.mp hp with hp | hp
  ·exact (c.ch _ z).1.1.2 p hp rfl
  ·exact (c.ch _ z).1.2 p hp rfl
 have neL:∀ b o,X.s₀.heap.get? b=some o→b≠X.env.locals:=fun b o e=>qU (qP (qG e) I.ok.above)
 have nst:∀ b,b≠X.env.locals→b∉X.fs→b∉frs X.stack:=fun b n1 n2 z=>(qM.mp (I.stkSub b z)).elim n1 n2
 have cellK:∀ x d,X.env.cells.lookup x=some d→∀ v,s.heap.IsCell d v→h'.IsCell d v:=fun x d e v ⟨o,ho,hd⟩=>by
  obtain ⟨sl,q⟩:=c.un.any ho (I.freeC x d e) (cC x d e)
  exact ⟨_,q,hd⟩
 refine ⟨I.ok,I.os,I.bare,⟨fun b o e n hb hx=>?_,fun b o e n hb hx=>?_,I.base.free,fun b o e hx=>?_,I.base.tups,I.base.frzs,I.base.tbls⟩,⟨m,?_,fun i x v e1 e2 e3=>?_⟩,fun x d e=>?_,I.free,I.freeC,fun p hp=>?_,c.hok,I.len⟩
 ·exact c.un.keep b o (I.base.keep b o e n hb hx) (I.base.free b o e n hx) (nst b (neL b o e) hb) (cS b o e hx)
 ·obtain ⟨sl,e1⟩:=I.base.slot b o e n hb hx
  obtain ⟨sl',e2⟩:=c.un.any e1 (I.base.free b o e n hx) (cS b o e hx)
  exact ⟨sl',e2⟩
 ·obtain ⟨o',e1⟩:=I.base.there b o e hx
  exact c.un.there b o' e1 (cS b o e hx)
 ·obtain ⟨sl,q⟩:=c.un.any hoL I.free cL
  exact ⟨_,es,ep,q,rL⟩
 ·obtain ⟨u,r,l⟩:=hl i x v e1 e2 e3
  refine ⟨u,r,?_⟩
  rcases l with l | ⟨k,d,e,z⟩
  ·exact .inl l
  ·exact .inr ⟨k,d,e,cellK x d e _ z⟩
 ·obtain ⟨v,z⟩:=I.cell x d e
  exact ⟨v,cellK x d e v z⟩
 ·obtain ⟨e,n,ne,nf,d⟩:=I.pin p hp
  exact ⟨c.un.keep p.1 p.2 e n (nst p.1 ne nf) (cP p hp),n,ne,nf,d⟩
theorem Inv.track {o:HO} (I:Inv X pins σ H s) (ha:mX X a∧∀ p∈pins,p.1≠a) (hn:H a=none) (hd:∃ u vs,s.heap.get? a=some u∧u.data=.fields vs) (ok:cG X.prog X.w (upd H a o) s.heap a o):Inv X pins σ (upd H a o) s:=by
 obtain ⟨u,vs,hu,hv⟩:=hd
 have nL:X.env.locals≠a:=fun z=>by
  obtain ⟨m,⟨oL,es,ep,hoL,rL⟩,_⟩:=id I.loc
  rw [z,hu] at hoL;cases hoL
  rw [rL.1] at hv;cases hv
 have nC:∀ x d,X.env.cells.lookup x=some d→d≠a:=fun x d e z=>by
  obtain ⟨v,o',e3,e4⟩:=I.cell x d e
  rw [z,hu] at e3;cases e3
  rw [e4] at hv;cases hv
 refine ⟨I.ok,I.os,I.bare,⟨I.base.keep,I.base.slot,fun b o e n hx=>?_,I.base.there,fun b xs e=>?_,fun b o u e=>?_,fun b ps e=>?_⟩,I.loc,I.cell,?_,fun x d e=>?_,fun p hp=>?_,fun b v e=>?_,I.len⟩
 ·rw [aG (fun z=>by
   subst z
   rcases ha.1.1 with q | q
   ·exact hx q
   ·rw [e] at q;cases q)]
  exact I.base.free b o e n hx
 ·have q:=I.base.tups b xs e
  rw [aG (aL q hn)];exact q
 ·have q:=I.base.frzs b o u e
  rw [aG (aL q hn)];exact q
 ·obtain ⟨more,q⟩:=I.base.tbls b ps e
  exact ⟨more,by rw [aG (aL q hn)];exact q⟩
 ·rw [aG nL];exact I.free
 ·rw [aG (nC x d e)];exact I.freeC x d e
 ·obtain ⟨e,n,ne,nf,d⟩:=I.pin p hp
  have np:p.1≠a:=by
   rcases qg.mp hp with hp | hp
   ·exact ha.1.2 p hp
   ·exact ha.2 p hp
  exact ⟨e,by rw [aG np];exact n,ne,nf,d⟩
 ·by_cases hb:b=a
  ·subst hb;rw [aJ] at e;cases e;exact ok
  ·rw [aG hb] at e
   exact (I.hok b v e).stay (fun c w' _ q=>q) (fun c q=>by rw [aG (aL q hn)];exact q) fun c xs q=>by rw [aG (aL q hn)];exact q
end
end L2.L3
namespace L2.L3
open PySem PySem.Spec PyProof.Rows
inductive Re (α:Type) where
 | ok (a:α)
 | ex (c:Str)
abbrev Mm (α:Type):=Option (Re α)
abbrev ret {α:Type} (a:α):Mm α:=some (.ok a)
def bnd {α β:Type} (m:Mm α) (k:α→Mm β):Mm β:=match m with
 | some (.ok a)=>k a
 | some (.ex c)=>some (.ex c)
 | none=>none
def lft {α:Type} (o:Option α):Mm α:=match o with
 | some a=>some (.ok a)
 | none=>none
abbrev EF:=List Ent→Mm PyData
abbrev TF:=List Ent→Mm Bool
abbrev AF:=List Ent→Mm (List PyData)
section
variable {α β:Type}
theorem b2z (a:α) (k:α→Mm β):bnd (some (.ok a)) k=k a:=rfl
theorem bU {m:Mm α} {k:α→Mm β} {r:Re β} (h:bnd m k=some r):(∃ a,m=some (.ok a)∧k a=some r)∨∃ c,m=some (.ex c)∧r=.ex c:=by
 match m,h with
 | some (.ok a),h=>exact .inl ⟨a,rfl,h⟩
 | some (.ex c),h=>exact .inr ⟨c,rfl,(qA h).symm⟩
 | none,h=>cases h
theorem aW {o:Option α} {r:Re α} (h:lft o=some r):∃ a,o=some a∧r=.ok a:=by
 match o,h with
 | some a,h=>exact ⟨a,rfl,(qA h).symm⟩
 | none,h=>cases h
end
def lW (X:Cx) (H0 G₀ G:Hp) (ρ:List Ent) (c:Str):Prop:=
 ∀ (pins:List (Addr×Obj)) (s':Shared) (σ:St) (H' G':Hp) (e:Value),Inv X pins σ H' s'→RepS X.K H0 G₀ G' H' σ ρ→aM G G'→a5W X c e H' s'→X.xe e s'
theorem lW.mono {X:Cx} {H0 G₀ G G':Hp} {ρ:List Ent} {c:Str} (h:lW X H0 G₀ G ρ c) (s:aM G G'):lW X H0 G₀ G' ρ c:=
 fun pins s' σ H' G2 e I R g x=>h pins s' σ H' G2 e I R (s.trans g) x
def a3y (X:Cx) (H0 G₀ G:Hp) (ρ:List Ent) (H:Hp) (Q:VK):Re PyData→Prop
 | .ok d=>∀ v G' H',Grow G H G' H'→Rep X.K G' v d→Q v H'
 | .ex c=>lW X H0 G₀ G ρ c
def a7s (X:Cx) (H0 G₀ G:Hp) (ρ:List Ent) (H:Hp) (Q:Bool→Hp→Prop):Re Bool→Prop
 | .ok b=>∀ G' H',Grow G H G' H'→Q b H'
 | .ex c=>lW X H0 G₀ G ρ c
def a7t (X:Cx) (H0 G₀ G:Hp) (ρ:List Ent) (H:Hp) (Q:List V→Hp→Prop):Re (List PyData)→Prop
 | .ok ds=>∀ vs G' H',Grow G H G' H'→RepAll X.K G' vs ds→Q vs H'
 | .ex c=>lW X H0 G₀ G ρ c
def rE (X:Cx) (f:EF):TE:=fun σ H Q=>∃ ρ r H0 G₀ G,f ρ=some r∧RepS X.K H0 G₀ G H σ ρ∧a3y X H0 G₀ G ρ H Q r
def rT (X:Cx) (f:TF):TT:=fun σ H Q=>∃ ρ r H0 G₀ G,f ρ=some r∧RepS X.K H0 G₀ G H σ ρ∧a7s X H0 G₀ G ρ H Q r
def rA (X:Cx) (f:AF):TA:=fun σ H Q=>∃ ρ r H0 G₀ G,f ρ=some r∧RepS X.K H0 G₀ G H σ ρ∧a7t X H0 G₀ G ρ H Q r
structure DE (X:Cx) (e:Expr) (f:EF):Prop where
 run:PE X e (rE X f)
structure DT (X:Cx) (e:Expr) (f:TF):Prop where
 run:PT X e (rT X f)
structure DW (X:Cx) (e:Expr) (f:TF):Prop where
 run:PW X e (rT X f)
structure DA (X:Cx) (es:List Expr) (f:AF):Prop where
 run:PA X es (rA X f)
section
variable {X:Cx} {H0 G₀ G G1 H H1:Hp} {ρ:List Ent} {σ:St}
theorem a3y.more {Q:VK} {r:Re PyData} (q:a3y X H0 G₀ G ρ H Q r) (g:Grow G H G1 H1):a3y X H0 G₀ G1 ρ H1 Q r:=by
 cases r with
 | ok d=>exact fun v G' H' g' rv=>q v G' H' (g.trans g') rv
 | ex c=>exact lW.mono q g.gg
theorem a7s.more {Q:Bool→Hp→Prop} {r:Re Bool} (q:a7s X H0 G₀ G ρ H Q r) (g:Grow G H G1 H1):a7s X H0 G₀ G1 ρ H1 Q r:=by
 cases r with
 | ok d=>exact fun G' H' g'=>q G' H' (g.trans g')
 | ex c=>exact lW.mono q g.gg
theorem a7t.more {Q:List V→Hp→Prop} {r:Re (List PyData)} (q:a7t X H0 G₀ G ρ H Q r) (g:Grow G H G1 H1):a7t X H0 G₀ G1 ρ H1 Q r:=by
 cases r with
 | ok d=>exact fun v G' H' g' rv=>q v G' H' (g.trans g') rv
 | ex c=>exact lW.mono q g.gg
theorem bE {fa:EF} {β:Type} {k:PyData→Mm β} {r:Re β} (R:RepS X.K H0 G₀ G H σ ρ) (e:bnd (fa ρ) k=some r) {T:VK} (hx:∀ c,r=.ex c→lW X H0 G₀ G ρ c)
  (h:∀ x v G1 H1,Grow G H G1 H1→RepS X.K H0 G₀ G1 H1 σ ρ→Rep X.K G1 v x→k x=some r→T v H1):rE X fa σ H T:=by
 rcases bU e with ⟨x,e1,e2⟩ | ⟨c,e1,e2⟩
 ·exact ⟨ρ,_,H0,G₀,G,e1,R,fun v G1 H1 g1 rv=>h x v G1 H1 g1 (R.more g1) rv e2⟩
 ·exact ⟨ρ,_,H0,G₀,G,e1,R,hx c e2⟩
theorem bT {fa:TF} {β:Type} {k:Bool→Mm β} {r:Re β} (R:RepS X.K H0 G₀ G H σ ρ) (e:bnd (fa ρ) k=some r) {T:Bool→Hp→Prop} (hx:∀ c,r=.ex c→lW X H0 G₀ G ρ c)
  (h:∀ x G1 H1,Grow G H G1 H1→RepS X.K H0 G₀ G1 H1 σ ρ→k x=some r→T x H1):rT X fa σ H T:=by
 rcases bU e with ⟨x,e1,e2⟩ | ⟨c,e1,e2⟩
 ·exact ⟨ρ,_,H0,G₀,G,e1,R,fun G1 H1 g1=>h x G1 H1 g1 (R.more g1) e2⟩
 ·exact ⟨ρ,_,H0,G₀,G,e1,R,hx c e2⟩
theorem bA {fa:AF} {β:Type} {k:List PyData→Mm β} {r:Re β} (R:RepS X.K H0 G₀ G H σ ρ) (e:bnd (fa ρ) k=some r) {T:List V→Hp→Prop} (hx:∀ c,r=.ex c→lW X H0 G₀ G ρ c)
  (h:∀ x v G1 H1,Grow G H G1 H1→RepS X.K H0 G₀ G1 H1 σ ρ→RepAll X.K G1 v x→k x=some r→T v H1):rA X fa σ H T:=by
 rcases bU e with ⟨x,e1,e2⟩ | ⟨c,e1,e2⟩
 ·exact ⟨ρ,_,H0,G₀,G,e1,R,fun v G1 H1 g1 rv=>h x v G1 H1 g1 (R.more g1) rv e2⟩
 ·exact ⟨ρ,_,H0,G₀,G,e1,R,hx c e2⟩
theorem a3y.x {Q:VK} {r:Re PyData} (q:a3y X H0 G₀ G ρ H Q r):∀ c,r=.ex c→lW X H0 G₀ G ρ c:=fun c e=>by subst e;exact q
theorem a7s.x {Q:Bool→Hp→Prop} {r:Re Bool} (q:a7s X H0 G₀ G ρ H Q r):∀ c,r=.ex c→lW X H0 G₀ G ρ c:=fun c e=>by subst e;exact q
theorem a7t.x {Q:List V→Hp→Prop} {r:Re (List PyData)} (q:a7t X H0 G₀ G ρ H Q r):∀ c,r=.ex c→lW X H0 G₀ G ρ c:=fun c e=>by subst e;exact q
end
section
variable {X:Cx} {e a b c:Expr} {es:List Expr} {pos p:Pos} {fa fb fc:EF}
theorem uV {f:EF} (h:∀ ρ r,f ρ=some r→∃ d,r=.ok d∧PD X e ρ d):DE X e f:=⟨fun pins s σ H Q I ⟨ρ,r,H0,G₀,G,ef,R,q⟩=>by
 obtain ⟨d,rfl,hd⟩:=h ρ r ef
 exact hd.run H0 G₀ G pins s σ H Q I R q⟩
theorem DE.pd {f:EF} (h:DE X e f) {ρ:List Ent} {d:PyData} (q:f ρ=some (.ok d)):PD X e ρ d:=⟨fun H0 G₀ G pins s σ H Q I R k=>h.run pins s σ H Q I ⟨ρ,_,H0,G₀,G,q,R,k⟩⟩
theorem DT.ptd {f:TF} (h:DT X e f) {ρ:List Ent} {d:Bool} (q:f ρ=some (.ok d)):PTD X e ρ d:=⟨fun H0 G₀ G pins s σ H Q I R k=>h.run pins s σ H Q I ⟨ρ,_,H0,G₀,G,q,R,k⟩⟩
def cst (d:PyData):EF:=fun _=>some (.ok d)
def var (i:Nat):EF:=fun ρ=>match ρ[i]? with
 | some (.val d)=>some (.ok d)
 | _=>none
theorem aH {i:Int} {j}:DE X (.Constant (.int i) j pos) (cst (.int i)):=uV fun ρ r e=>⟨_,(qA e).symm,b3X⟩
theorem aK {x:Str} {j}:DE X (.Constant (.str x) j pos) (cst (.str x)):=uV fun ρ r e=>⟨_,(qA e).symm,b3W⟩
theorem fF {x:Bool} {j}:DE X (.Constant (.bool x) j pos) (cst (.bool x)):=uV fun ρ r e=>⟨_,(qA e).symm,b0U⟩
theorem rO {j}:DE X (.Constant .none j pos) (cst .none):=uV fun ρ r e=>⟨_,(qA e).symm,b0S⟩
theorem nV {x:Str} {i:Int} (hg:Gl X x) (hm:∃ t,X.mg x=some (.int i t)) (hd:(x==("__debug__" : Str))=false:=by decide):DE X (.Name x pos) (cst (.int i)):=uV fun ρ r e=>⟨_,(qA e).symm,by
 obtain ⟨t,hm⟩:=hm
 exact a8w hg hm hd⟩
theorem b3p {i:Nat} {ρ:List Ent} {r:Re PyData} (h:var i ρ=some r):∃ d,r=.ok d∧ρ[i]?=some (.val d):=by
 unfold var at h
 split at h
 ·rename_i d e;exact ⟨d,(qA h).symm,e⟩
 ·cases h
theorem aD (i:Nat) {x:Str} (hN:X.N[i]?=some x:=by rfl) (hv:Vis X.env.scope x:=by first | exact qu rfl | exact qf (qu rfl) | exact qf (qf rfl)) (hd:(x==("__debug__" : Str))=false:=by decide)
  (hcd:(x==("__classdict__" : Str))=false:=by decide):DE X (.Name x pos) (var i):=uV fun ρ r e=>by
 obtain ⟨d,e1,e2⟩:=b3p e
 exact ⟨d,e1,b3V i e2 hN hv hd hcd⟩
structure OpD (X:Cx) (op:Operator) (x y d:PyData):Prop where
 ex:∃ r:R2,OpR X (binaryOp op) r∧∀ v u G H Q,aM G H→Rep X.K G v x→Rep X.K G u y→(∀ w G' H',Grow G H G' H'→Rep X.K G' w d→Q w H')→r v u H Q
def op2 (g:PyData→PyData→Option PyData) (fa fb:EF):EF:=fun ρ=>bnd (fa ρ) fun x=>bnd (fb ρ) fun y=>lft (g x y)
theorem gP {f:Value→Value→Sem Value}:OpR X f (fun v u H Q=>∃ r,OpR X f r∧r v u H Q):=fun pins s σ H x y v u Q I rx ry ⟨_,h,q⟩=>h pins s σ H x y v u Q I rx ry q
theorem bO {op:Operator} {g:PyData→PyData→Option PyData} (hg:∀ x y d,g x y=some d→OpD X op x y d) (ha:DE X a fa) (hb:DE X b fb):DE X (.BinOp a op b pos) (op2 g fa fb):=
 ⟨fun pins s σ H Q I ⟨ρ,r,H0,G₀,G,e,R,q⟩=>a5f gP ha.run hb.run pins s σ H Q I (bE R e q.x fun x v G1 H1 g1 R1 rv e1=>bE R1 e1 (q.more g1).x fun y u G2 H2 g2 R2 ru e2=>by
  obtain ⟨d,ed,rfl⟩:=aW e2
  obtain ⟨r,h1,h2⟩:=(hg x y d ed).ex
  exact ⟨r,h1,h2 v u G2 H2 Q g2.sub (rv.mono g2.gg) ru fun w G' H' g' rw'=>q w G' H' ((g1.trans g2).trans g') rw'⟩)⟩
def aI:AF:=fun _=>some (.ok [])
def aB (f:EF) (g:AF):AF:=fun ρ=>bnd (f ρ) fun x=>bnd (g ρ) fun xs=>some (.ok (x::xs))
theorem aE:DA X [] aI:=⟨fun pos pins s σ H Q I ⟨ρ,r,H0,G₀,G,e,R,q⟩=>dR pos pins s σ H Q I (by
 cases (qA e);exact q [] G H (.refl R.sub) .nil)⟩
theorem aA {f:AF} (ha:DE X e fa) (hr:DA X es f) (hs:starEach (e::es) X.env=(false,eval e X.env)::starEach es X.env:=by rfl):DA X (e::es) (aB fa f):=
 ⟨fun pos pins s σ H Q I ⟨ρ,r,H0,G₀,G,e,R,q⟩=>cQ ha.run hr.run hs pos pins s σ H Q I (bE R e q.x fun x v G1 H1 g1 R1 rv e1=>bA R1 e1 (q.more g1).x fun ys us G2 H2 g2 R2 ru e2=>by
  cases (qA e2)
  exact q _ G2 H2 (g1.trans g2) (.cons (rv.mono g2.gg) ru))⟩
def dA (n:Nat):Bool:=decide (n≤100000)
theorem fM {n:Nat} (h:dA n=true):n≤sizeLine:=qj (of_decide_eq_true h) (by decide)
theorem a7O {n:Nat} (h:dA n=true):n<sizeLine:=jd (of_decide_eq_true h) (by decide)
def a0t (ds:List PyData):Option PyData:=if dA ds.length then some (.tuple ds) else none
def a0u (ds:List PyData):Option PyData:=if dA ds.length then some (.list ds) else none
def cR (f:AF):EF:=fun ρ=>bnd (f ρ) fun xs=>lft (a0t xs)
def fL (f:AF):EF:=fun ρ=>bnd (f ρ) fun xs=>lft (a0u xs)
theorem a8V {ds:List PyData} {d:PyData} (h:a0t ds=some d):d=.tuple ds∧ds.length≤sizeLine:=by
 unfold a0t at h
 split at h
 ·rename_i z;exact ⟨(qA h).symm,fM z⟩
 ·cases h
theorem a8W {ds:List PyData} {d:PyData} (h:a0u ds=some d):d=.list ds∧ds.length≤sizeLine:=by
 unfold a0u at h
 split at h
 ·rename_i z;exact ⟨(qA h).symm,fM z⟩
 ·cases h
theorem bC {x1} {f:AF} (h:DA X es f):DE X (.Tuple es x1 pos) (cR f):=⟨fun pins s σ H Q I ⟨ρ,r,H0,G₀,G,e,R,q⟩=>a3Y h.run pins s σ H Q I (bA R e q.x fun xs vs G1 H1 g1 R1 rv e1=>by
 obtain ⟨d,ed,rfl⟩:=aW e1
 obtain ⟨rfl,hz⟩:=a8V ed
 exact ⟨by rw [rv.length];exact hz,fun p hp=>q _ _ _ (g1.trans (.put g1.sub hp)) (.tuple (.of aJ) (rv.mono (cF (g1.sub.free hp))))⟩)⟩
theorem cW {f:AF} (h:DA X es f):DE X (.List es pos) (fL f):=⟨fun pins s σ H Q I ⟨ρ,r,H0,G₀,G,e,R,q⟩=>pF h.run pins s σ H Q I (bA R e q.x fun xs vs G1 H1 g1 R1 rv e1=>by
 obtain ⟨d,ed,rfl⟩:=aW e1
 obtain ⟨rfl,hz⟩:=a8W ed
 exact ⟨by rw [rv.length];exact hz,fun p hp=>q _ _ _ (g1.trans (.put g1.sub hp)) (.list (.of aJ) (rv.mono (cF (g1.sub.free hp))))⟩)⟩
def b5G (g:PyData→PyData→Option Bool) (fa fb:EF):EF:=fun ρ=>bnd (fa ρ) fun x=>bnd (fb ρ) fun y=>lft ((g x y).map .bool)
def gS (g:PyData→PyData→Option Bool) (fa fb:EF):TF:=fun ρ=>bnd (fa ρ) fun x=>bnd (fb ρ) fun y=>lft (g x y)
theorem b5v {op:CmpOp} {g:PyData→PyData→Option Bool} (hg:∀ x y t,g x y=some t→CmpD X op x y t) (ha:DE X a fa) (hb:DE X b fb) (hm:behindInMarks op b=false:=by first | exact a1y _ | with_unfolding_all rfl):DE X (.Compare a [op] [b] pos) (b5G g fa fb):=
 ⟨fun pins s σ H Q I ⟨ρ,r,H0,G₀,G,e,R,q⟩=>a5i gP ha.run hb.run hm pins s σ H Q I (bE R e q.x fun x v G1 H1 g1 R1 rv e1=>bE R1 e1 (q.more g1).x fun y u G2 H2 g2 R2 ru e2=>by
  obtain ⟨d,ed,rfl⟩:=aW e2
  obtain ⟨t,et,rfl⟩:=qD.mp ed
  obtain ⟨r,h1,h2⟩:=(hg x y t et).ex
  exact ⟨r,h1,h2 v u G2 H2 Q g2.sub (rv.mono g2.gg) ru (q _ _ _ (g1.trans g2) (.bool _))⟩)⟩
theorem dC {op:CmpOp} {g:PyData→PyData→Option Bool} (hg:∀ x y t,g x y=some t→CmpD X op x y t) (ha:DE X a fa) (hb:DE X b fb) (hm:behindInMarks op b=false:=by first | exact a1y _ | with_unfolding_all rfl):DT X (.Compare a [op] [b] pos) (gS g fa fb):=
 ⟨fun pins s σ H Q I ⟨ρ,r,H0,G₀,G,e,R,q⟩=>a4Z gP ha.run hb.run hm pins s σ H Q I (bE R e q.x fun x v G1 H1 g1 R1 rv e1=>bE R1 e1 (q.more g1).x fun y u G2 H2 g2 R2 ru e2=>by
  obtain ⟨t,et,rfl⟩:=aW e2
  obtain ⟨r,h1,h2⟩:=(hg x y t et).ex
  exact ⟨r,h1,h2 v u G2 H2 _ g2.sub (rv.mono g2.gg) ru ⟨_,rfl,q _ _ (g1.trans g2)⟩⟩)⟩
def b5I (g g':PyData→PyData→Option Bool) (fa fb fc:EF):EF:=fun ρ=>bnd (fa ρ) fun x=>bnd (fb ρ) fun y=>bnd (lft (g x y)) fun t=>if t then bnd (fc ρ) fun z=>lft ((g' y z).map .bool) else some (.ok (.bool false))
def b5H (g g':PyData→PyData→Option Bool) (fa fb fc:EF):TF:=fun ρ=>bnd (fa ρ) fun x=>bnd (fb ρ) fun y=>bnd (lft (g x y)) fun t=>if t then bnd (fc ρ) fun z=>lft (g' y z) else some (.ok false)
theorem b5w {op op':CmpOp} {g g':PyData→PyData→Option Bool} (hg:∀ x y t,g x y=some t→CmpD X op x y t) (hg':∀ x y t,g' x y=some t→CmpD X op' x y t) (ha:DE X a fa) (hb:DE X b fb) (hc:DE X c fc)
  (hm:lastMarks [op,op'] [b,c]=false:=by with_unfolding_all rfl):DE X (.Compare a [op,op'] [b,c] pos) (b5I g g' fa fb fc):=
 ⟨fun pins s σ H Q I ⟨ρ,r,H0,G₀,G,e,R,q⟩=>a8u gP gP ha.run hb.run hc.run hm pins s σ H Q I (bE R e q.x fun x v G1 H1 g1 R1 rv e1=>bE R1 e1 (q.more g1).x fun y u G2 H2 g2 R2 ru e2=>by
  rcases bU e2 with ⟨t,et,e3⟩ | ⟨c,et,_⟩
  ·obtain ⟨t',et',z⟩:=aW et
   cases z
   obtain ⟨r1,h1,h2⟩:=(hg x y _ et').ex
   refine ⟨r1,h1,h2 v u G2 H2 _ g2.sub (rv.mono g2.gg) ru ⟨_,rfl,?_⟩⟩
   cases t with
   | false=>rw [if_neg (by decide)] at e3 ⊢;cases (qA e3);exact q _ _ _ (g1.trans g2) (.bool _)
   | true=>
    rw [if_pos rfl] at e3 ⊢
    exact bE R2 e3 ((q.more g1).more g2).x fun z w G3 H3 g3 R3 rw' e4=>by
     obtain ⟨d,ed,rfl⟩:=aW e4
     obtain ⟨t,et,rfl⟩:=qD.mp ed
     obtain ⟨r2,h3,h4⟩:=(hg' y z t et).ex
     exact ⟨r2,h3,h4 u w G3 H3 Q g3.sub (ru.mono g3.gg) rw' (q _ _ _ ((g1.trans g2).trans g3) (.bool _))⟩
  ·obtain ⟨_,_,z⟩:=aW et;cases z)⟩
theorem b5l {op op':CmpOp} {g g':PyData→PyData→Option Bool} (hg:∀ x y t,g x y=some t→CmpD X op x y t) (hg':∀ x y t,g' x y=some t→CmpD X op' x y t) (ha:DE X a fa) (hb:DE X b fb) (hc:DE X c fc)
  (hm:lastMarks [op,op'] [b,c]=false:=by with_unfolding_all rfl):DT X (.Compare a [op,op'] [b,c] pos) (b5H g g' fa fb fc):=
 ⟨fun pins s σ H Q I ⟨ρ,r,H0,G₀,G,e,R,q⟩=>a8f gP gP ha.run hb.run hc.run hm pins s σ H Q I (bE R e q.x fun x v G1 H1 g1 R1 rv e1=>bE R1 e1 (q.more g1).x fun y u G2 H2 g2 R2 ru e2=>by
  rcases bU e2 with ⟨t,et,e3⟩ | ⟨c,et,_⟩
  ·obtain ⟨t',et',z⟩:=aW et
   cases z
   obtain ⟨r1,h1,h2⟩:=(hg x y _ et').ex
   refine ⟨r1,h1,h2 v u G2 H2 _ g2.sub (rv.mono g2.gg) ru ⟨_,rfl,?_⟩⟩
   cases t with
   | false=>rw [if_neg (by decide)] at e3;cases (qA e3);exact b8m ⟨false,rfl,q _ _ (g1.trans g2)⟩
   | true=>
    rw [if_pos rfl] at e3
    refine b8l ?_
    exact bE R2 e3 ((q.more g1).more g2).x fun z w G3 H3 g3 R3 rw' e4=>by
     obtain ⟨t,et,rfl⟩:=aW e4
     obtain ⟨r2,h3,h4⟩:=(hg' y z t et).ex
     exact ⟨r2,h3,h4 u w G3 H3 _ g3.sub (ru.mono g3.gg) rw' ⟨_,rfl,q _ _ ((g1.trans g2).trans g3)⟩⟩
  ·obtain ⟨_,_,z⟩:=aW et;cases z)⟩
end
end L2.L3
namespace L2.L3
open PySem PySem.Spec PyProof.Rows
section
variable {X:Cx} {e a b c:Expr} {es rest:List Expr} {pos p:Pos} {fa fb fc:EF} {ft fu:TF}
def a2n:PyData→Option Bool
 | .none=>some false
 | .bool b=>some b
 | .int i=>some (i != 0)
 | .str x=>if dA x.length then some ((x.length:Int) != 0) else none
 | .list ds=>some (!ds.isEmpty)
 | .tuple ds=>some (!ds.isEmpty)
 | .dict _=>none
theorem tH {K:qB} {G:Hp} {vs:List V} {ds:List PyData} (r:RepAll K G vs ds):ds.isEmpty=vs.isEmpty:=by
 have h:=r.length
 cases vs<;>cases ds<;>simp at h ⊢
theorem b0r {K:qB} {G H:Hp} {v:V} {d:PyData} {t:Bool} (s:aM G H) (r:Rep K G v d) (h:a2n d=some t):b5T K v H t:=by
 cases r with
 | none=>exact (qA h).symm
 | bool b=>exact (qA h).symm
 | int i=>exact (qA h).symm
 | str x=>
  have h:(if dA x.length=true then some ((x.length:Int) != 0) else none)=some t:=h
  split at h
  ·rename_i z;exact ⟨fM z,(qA h).symm⟩
  ·cases h
 | list hq r=>exact .inl ⟨_,s.seq hq,by rw [←tH r];exact (qA h).symm⟩
 | tuple hq r=>exact .inr (.inl ⟨_,pU s hq,by rw [←tH r];exact (qA h).symm⟩)
 | dict _ _ _=>cases h
def eT (fa:EF):TF:=fun ρ=>bnd (fa ρ) fun x=>lft (a2n x)
theorem iH (ha:DE X a fa) (he:∀ whole,isTrue a X.env whole=(do let v ←whole;standAt a.pos;holding [v] (truthy v)):=by intro _;rfl):DT X a (eT fa):=
 ⟨fun pins s σ H Q I ⟨ρ,r,H0,G₀,G,e,R,q⟩=>a2E ha.run he pins s σ H Q I (bE R e q.x fun x v G1 H1 g1 R1 rv e1=>by
  obtain ⟨t,et,rfl⟩:=aW e1
  exact ⟨t,b0r g1.sub rv et,q _ _ g1⟩)⟩
def eV (ft:TF):TF:=fun ρ=>bnd (ft ρ) fun t=>some (.ok (!t))
theorem iI (ha:DT X a ft):DT X (.UnaryOp .Not a pos) (eV ft):=
 ⟨fun pins s σ H Q I ⟨ρ,r,H0,G₀,G,e,R,q⟩=>a8e ha.run pins s σ H Q I (bT R e q.x fun t G1 H1 g1 R1 e1=>by
  cases (qA e1);exact q _ _ g1)⟩
def nX:PyData→Option Bool
 | .bool b=>some b
 | _=>none
def b4s (fa:EF):EF:=fun ρ=>bnd (fa ρ) fun x=>lft ((nX x).map fun t=>.bool (!t))
theorem nW {d:PyData} {t:Bool} (h:nX d=some t):d=.bool t:=by
 cases d<;>first | (cases h;done) | (cases (qA h);rfl)
theorem b5s (ha:DE X a fa):DE X (.UnaryOp .Not a pos) (b4s fa):=
 ⟨fun pins s σ H Q I ⟨ρ,r,H0,G₀,G,e,R,q⟩=>b3Q ha.run pins s σ H Q I (bE R e q.x fun x v G1 H1 g1 R1 rv e1=>by
  obtain ⟨d,ed,rfl⟩:=aW e1
  obtain ⟨t,et,rfl⟩:=qD.mp ed
  cases nW et
  cases rv
  exact ⟨_,rfl,q _ _ _ g1 (.bool _)⟩)⟩
def b5P (f g:TF):TF:=fun ρ=>bnd (f ρ) fun t=>if t then g ρ else some (.ok false)
def orT (f g:TF):TF:=fun ρ=>bnd (f ρ) fun t=>if t then some (.ok true) else g ρ
theorem b1Y (ha:DT X a ft):DW X (.BoolOp .And [a] pos) ft:=⟨b0G ha.run⟩
theorem tX (ha:DT X a ft):DW X (.BoolOp .Or [a] pos) ft:=⟨a8b ha.run⟩
theorem b5k (ha:DT X a ft) (hb:DW X (.BoolOp .And (b::rest) pos) fu):DW X (.BoolOp .And (a::b::rest) pos) (b5P ft fu):=
 ⟨fun wh pins s σ H Q I ⟨ρ,r,H0,G₀,G,e,R,q⟩=>b3K ha.run hb.run wh pins s σ H Q I (bT R e q.x fun t G1 H1 g1 R1 e1=>by
  cases t with
  | true=>rw [if_pos rfl] at e1 ⊢;exact ⟨ρ,r,H0,G₀,G1,e1,R1,q.more g1⟩
  | false=>rw [if_neg (by decide)] at e1 ⊢;cases (qA e1);exact q _ _ g1)⟩
theorem a0I (ha:DT X a ft) (hb:DW X (.BoolOp .Or (b::rest) pos) fu):DW X (.BoolOp .Or (a::b::rest) pos) (orT ft fu):=
 ⟨fun wh pins s σ H Q I ⟨ρ,r,H0,G₀,G,e,R,q⟩=>b2M ha.run hb.run wh pins s σ H Q I (bT R e q.x fun t G1 H1 g1 R1 e1=>by
  cases t with
  | true=>rw [if_pos rfl] at e1 ⊢;cases (qA e1);exact q _ _ g1
  | false=>rw [if_neg (by decide)] at e1 ⊢;exact ⟨ρ,r,H0,G₀,G1,e1,R1,q.more g1⟩)⟩
theorem DW.dt (h:DW X e ft):DT X e ft:=⟨h.run _⟩
def a7q (f g:EF):EF:=fun ρ=>bnd (f ρ) fun x=>bnd (lft (nX x)) fun t=>if t then g ρ else some (.ok (.bool false))
def orE (f g:EF):EF:=fun ρ=>bnd (f ρ) fun x=>bnd (lft (nX x)) fun t=>if t then some (.ok (.bool true)) else g ρ
theorem a4y {op} (ha:DE X a fa):DE X (.BoolOp op [a] pos) fa:=⟨a8p ha.run⟩
theorem a1R (ha:DE X a fa) (hb:DE X (.BoolOp .And (b::rest) pos) fb):DE X (.BoolOp .And (a::b::rest) pos) (a7q fa fb):=
 ⟨fun pins s σ H Q I ⟨ρ,r,H0,G₀,G,e,R,q⟩=>a8v ha.run hb.run pins s σ H Q I (bE R e q.x fun x v G1 H1 g1 R1 rv e1=>by
  rcases bU e1 with ⟨t,et,e2⟩ | ⟨c,et,_⟩
  ·obtain ⟨t',et',z⟩:=aW et
   cases z
   cases nW et'
   cases rv
   refine ⟨t,rfl,?_⟩
   cases t with
   | true=>rw [if_pos rfl] at e2 ⊢;exact ⟨ρ,r,H0,G₀,G1,e2,R1,q.more g1⟩
   | false=>rw [if_neg (by decide)] at e2 ⊢;cases (qA e2);exact q _ _ _ g1 (.bool _)
  ·obtain ⟨_,_,z⟩:=aW et;cases z)⟩
def ifE (f:TF) (fa fb:EF):EF:=fun ρ=>bnd (f ρ) fun t=>if t then fa ρ else fb ρ
def ixD (x i:PyData):Option PyData:=match x,i with
 | .tuple ds,.int k=>atI ds k
 | .list ds,.int k=>atI ds k
 | .str z,.int k=>if dA z.length then (atI z.cps.toList k).map fun c=>.str ⟨#[c]⟩ else none
 | _,_=>none
theorem b1H {K:qB} {G H:Hp} {v u:V} {x i d:PyData} {Q:VK} (s:aM G H) (rv:Rep K G v x) (ru:Rep K G u i) (h:ixD x i=some d) (q:∀ w,Rep K G w d→Q w H):rIx K v u H Q:=by
 cases ru with
 | int k=>
  cases rv with
  | tuple hq r=>
   obtain ⟨w,e,rw'⟩:=a5S r (show atI _ k=some d from h)
   exact .inr (.inl ⟨_,_,_,w,rfl,rfl,pU s hq,e,q w rw'⟩)
  | list hq r=>
   obtain ⟨w,e,rw'⟩:=a5S r (show atI _ k=some d from h)
   exact .inl ⟨_,_,_,w,rfl,rfl,s.seq hq,e,q w rw'⟩
  | str z=>
   have h:(if dA z.length=true then (atI z.cps.toList k).map fun c=>PyData.str ⟨#[c]⟩ else none)=some d:=h
   split at h
   ·rename_i hz
    obtain ⟨c,ec,rfl⟩:=qD.mp h
    exact .inr (.inr ⟨_,_,c,rfl,rfl,fM hz,ec,q _ (.str _)⟩)
   ·cases h
  | none=>cases h
  | bool b=>cases h
  | int j=>cases h
  | dict _ _ _=>cases h
 | none=>cases rv<;>cases h
 | bool b=>cases rv<;>cases h
 | str b=>cases rv<;>cases h
 | list _ _=>cases rv<;>cases h
 | tuple _ _=>cases rv<;>cases h
 | dict _ _ _=>cases rv<;>cases h
theorem cI (ha:DE X a fa) (hb:DE X b fb) (hs:a2j b:=by exact fun _ _=>rfl):DE X (.Subscript a b pos) (op2 ixD fa fb):=
 ⟨fun pins s σ H Q I ⟨ρ,r,H0,G₀,G,e,R,q⟩=>b2O b4V ha.run hb.run hs pins s σ H Q I (bE R e q.x fun x v G1 H1 g1 R1 rv e1=>bE R1 e1 (q.more g1).x fun y u G2 H2 g2 R2 ru e2=>by
  obtain ⟨d,ed,rfl⟩:=aW e2
  exact b1H g2.sub (rv.mono g2.gg) ru ed fun w rw'=>q w _ _ (g1.trans g2) rw')⟩
structure CallD (X:Cx) (f:Value) (ds:List PyData) (d:PyData):Prop where
 ex:∃ r:List V→Hp→VK→Prop,gM X f r∧∀ vs G H Q,aM G H→RepAll X.K G vs ds→(∀ w G' H',Grow G H G' H'→Rep X.K G' w d→Q w H')→r vs H Q
theorem a0Q {f:Value}:gM X f (fun vs H Q=>∃ r,gM X f r∧r vs H Q):=fun pins s σ H vs us Q I rx ⟨_,h,q⟩=>h pins s σ H vs us Q I rx q
def iL (g:List PyData→Option PyData) (fa:AF):EF:=fun ρ=>bnd (fa ρ) fun xs=>lft (g xs)
theorem dX {id:String} {x:Str} {g:List PyData→Option PyData} {f:AF} (hd:∀ ds d,g ds=some d→CallD X (.builtin id) ds d) (hm:X.mg x=none) (hv:bootBuiltins x=some (.builtin id)) (ha:DA X (e::es) f) (hg:Gl X x:=by rfl)
  (hn:x ≠ "__name__":=by decide) (hdb:(x==("__debug__" : Str))=false:=by decide)
  (he:starEach (e::es) X.env=(false,eval e X.env)::starEach es X.env:=by rfl) (hpl:(backTo pos (starEach es X.env)).any (·.1)=false:=by rfl):DE X (.Call (.Name x p) (e::es) [] pos) (iL g f):=
 ⟨fun pins s σ H Q I ⟨ρ,r,H0,G₀,G,e,R,q⟩=>lO a0Q hg hm hv ha.run hn hdb he hpl pins s σ H Q I (bA R e q.x fun xs vs G1 H1 g1 R1 rv e1=>by
  obtain ⟨d,ed,rfl⟩:=aW e1
  obtain ⟨r,h1,h2⟩:=(hd xs d ed).ex
  exact ⟨r,h1,h2 vs G1 H1 Q g1.sub rv fun w G' H' g' rw'=>q w G' H' (g1.trans g') rw'⟩)⟩
theorem lT {T:String} {x:Str} {g:List PyData→Option PyData} {f:AF} (hd:∀ ds d,g ds=some d→CallD X (.type T) ds d) (hm:X.mg x=none) (hv:bootBuiltins x=some (.type T)) (ha:DA X (e::es) f) (hg:Gl X x:=by rfl)
  (hn:x ≠ "__name__":=by decide) (hdb:(x==("__debug__" : Str))=false:=by decide)
  (he:starEach (e::es) X.env=(false,eval e X.env)::starEach es X.env:=by rfl) (hpl:(backTo pos (starEach es X.env)).any (·.1)=false:=by rfl):DE X (.Call (.Name x p) (e::es) [] pos) (iL g f):=
 ⟨fun pins s σ H Q I ⟨ρ,r,H0,G₀,G,e,R,q⟩=>a6y a0Q hg hm hv ha.run hn hdb he hpl pins s σ H Q I (bA R e q.x fun xs vs G1 H1 g1 R1 rv e1=>by
  obtain ⟨d,ed,rfl⟩:=aW e1
  obtain ⟨r,h1,h2⟩:=(hd xs d ed).ex
  exact ⟨r,h1,h2 vs G1 H1 Q g1.sub rv fun w G' H' g' rw'=>q w G' H' (g1.trans g') rw'⟩)⟩
def fR:Ent→Ent
 | .lst ds=>.val (.list ds)
 | .dct kvs=>.val (.dict (kvs.map fun p=>(lG p.1,p.2)))
 | e=>e
def frzAll (ρ:List Ent):List Ent:=ρ.map fR
def a3U:PyData→Bool
 | .none=>true
 | .bool _=>true
 | .int _=>true
 | .str _=>true
 | _=>false
theorem Rep.plain {K:qB} {G G':Hp} {v:V} {d:PyData} (h:a3U d=true) (r:Rep K G v d):Rep K G' v d:=by
 cases r with
 | none=>exact .none
 | bool b=>exact .bool b
 | int i=>exact .int i
 | str x=>exact .str x
 | list _ _=>cases h
 | tuple _ _=>cases h
 | dict _ _ _=>cases h
end
end L2.L3
namespace L2.L3
open PySem PySem.Spec PyProof.Rows
section
variable {K:qB} {H0 G₀ G H:Hp} {σ:St} {ρ:List Ent}
theorem a9x (ρ:List Ent) (n:Nat):(∃ e,ρ[n]?=some e∧(ρ.take (n+1)).map fR++ρ.drop (n+1)=((ρ.take n).map fR++ρ.drop n).set n (fR e))∨(ρ[n]?=none∧(ρ.take (n+1)).map fR++ρ.drop (n+1)=(ρ.take n).map fR++ρ.drop n):=by
 by_cases hn:n<ρ.length
 ·refine .inl ⟨ρ[n],by simp [hn],?_⟩
  apply jH
  intro j
  rw [ji]
  by_cases hj:j<n
  ·rw [if_neg (by omega),qc (by simp;omega),qc (by simp;omega),qJ,qJ,kD (by omega),kD (by omega)]
  ·by_cases hj2:j=n
   ·subst hj2
    rw [if_pos rfl,if_pos (by simp;omega),qc (by simp;omega),qJ,kD (by omega)]
    simp [hn]
   ·rw [if_neg (by omega),qw (by simp;omega),qw (by simp;omega),zj,zj]
    simp only [qQ,kZ]
    congr 1
    omega
 ·refine .inr ⟨by simp;omega,?_⟩
  rw [List.take_of_length_le (by omega),List.take_of_length_le (by omega),List.drop_of_length_le (by omega),List.drop_of_length_le (by omega)]
theorem RepS.frzTo (R:RepS K H0 G₀ G H σ ρ):∀ n:Nat,∃ G',aM G G'∧RepS K H0 G₀ G' H σ ((ρ.take n).map fR++ρ.drop n)
 | 0=>⟨G,.refl _,by simpa using R⟩
 | n+1=>by
  obtain ⟨G1,s1,R1⟩:=R.frzTo n
  rcases a9x ρ n with ⟨e,he,eq⟩ | ⟨_,eq⟩
  ·have hn:n<ρ.length:=(qS.mp he).1
   have at':((ρ.take n).map fR++ρ.drop n)[n]?=some e:=by
    rw [qw (by simp;omega),zj]
    simp only [qQ,kZ]
    rw [show n+(n - min n ρ.length)=n by omega]
    exact he
   rw [eq]
   cases e with
   | lst ds=>
    obtain ⟨G2,s2,R2⟩:=R1.freeze at'
    exact ⟨G2,s1.trans s2,R2⟩
   | dct kvs=>
    obtain ⟨G2,s2,R2⟩:=R1.freezeD at'
    exact ⟨G2,s1.trans s2,R2⟩
   | val d=>
    refine ⟨G1,s1,?_⟩
    have:((ρ.take n).map fR++ρ.drop n).set n (fR (.val d))=(ρ.take n).map fR++ρ.drop n:=by
     apply jH
     intro j
     rw [ji]
     split
     ·rename_i h;subst h
      rw [at']
      have:=(qS.mp at').1
      rw [if_pos this];rfl
     ·rfl
    rw [this];exact R1
   | no=>
    refine ⟨G1,s1,?_⟩
    have:((ρ.take n).map fR++ρ.drop n).set n (fR .no)=(ρ.take n).map fR++ρ.drop n:=by
     apply jH
     intro j
     rw [ji]
     split
     ·rename_i h;subst h
      rw [at']
      have:=(qS.mp at').1
      rw [if_pos this];rfl
     ·rfl
    rw [this];exact R1
   | exc c=>
    refine ⟨G1,s1,?_⟩
    have:((ρ.take n).map fR++ρ.drop n).set n (fR (.exc c))=(ρ.take n).map fR++ρ.drop n:=by
     apply jH
     intro j
     rw [ji]
     split
     ·rename_i h;subst h
      rw [at']
      have:=(qS.mp at').1
      rw [if_pos this];rfl
     ·rfl
    rw [this];exact R1
   | adr a=>
    refine ⟨G1,s1,?_⟩
    have:((ρ.take n).map fR++ρ.drop n).set n (fR (.adr a))=(ρ.take n).map fR++ρ.drop n:=by
     apply jH
     intro j
     rw [ji]
     split
     ·rename_i h;subst h
      rw [at']
      have:=(qS.mp at').1
      rw [if_pos this];rfl
     ·rfl
    rw [this];exact R1
   | ro oa b=>
    refine ⟨G1,s1,?_⟩
    have:((ρ.take n).map fR++ρ.drop n).set n (fR (.ro oa b))=(ρ.take n).map fR++ρ.drop n:=by
     apply jH
     intro j
     rw [ji]
     split
     ·rename_i h;subst h
      rw [at']
      have:=(qS.mp at').1
      rw [if_pos this];rfl
     ·rfl
    rw [this];exact R1
   | nst dss=>
    refine ⟨G1,s1,?_⟩
    have:((ρ.take n).map fR++ρ.drop n).set n (fR (.nst dss))=(ρ.take n).map fR++ρ.drop n:=by
     apply jH
     intro j
     rw [ji]
     split
     ·rename_i h;subst h
      rw [at']
      have:=(qS.mp at').1
      rw [if_pos this];rfl
     ·rfl
    rw [this];exact R1
  ·rw [eq];exact ⟨G1,s1,R1⟩
theorem RepS.frzAll (R:RepS K H0 G₀ G H σ ρ):∃ G',aM G G'∧RepS K H0 G₀ G' H σ (frzAll ρ):=by
 obtain ⟨G',s,R'⟩:=R.frzTo ρ.length
 refine ⟨G',s,?_⟩
 have:(ρ.take ρ.length).map fR++ρ.drop ρ.length=L3.frzAll ρ:=by simp [L3.frzAll]
 rw [this] at R'
 exact R'
end
section
variable {X:Cx} {e a b c:Expr} {es rest:List Expr} {pos p:Pos} {fa fb fc:EF} {ft fu:TF}
def thT (f:TF):TF:=fun ρ=>match f (frzAll ρ) with
 | some (.ok b)=>some (.ok b)
 | _=>none
theorem a9J (h:DT X e ft):DT X e (thT ft):=⟨fun pins s σ H Q I ⟨ρ,r,H0,G₀,G,ef,R,q⟩=>by
 unfold thT at ef
 split at ef
 ·rename_i b eb
  cases (qA ef)
  obtain ⟨G',s',R'⟩:=R.frzAll
  exact h.run pins s σ H Q I ⟨_,_,H0,G₀,G',eb,R',fun G2 H2 g2=>q G H2 ⟨.refl _,g2.hh,s'.trans (g2.gg.trans g2.sub),fun _ z _=>z,id⟩⟩
 ·cases ef⟩
end
inductive So where
 | nx (ρ:List Ent)
 | rt (d:PyData)
 | bk (ρ:List Ent)
 | ct (ρ:List Ent)
 | xc (c:Str) (ρ:List Ent)
abbrev SF:=List Ent→Option So
def bns {α:Type} (m:Mm α) (ρ:List Ent) (k:α→Option So):Option So:=match m with
 | some (.ok a)=>k a
 | some (.ex c)=>some (.xc c ρ)
 | none=>none
theorem nY {α:Type} {m:Mm α} {ρ:List Ent} {k:α→Option So} {r:So} (h:bns m ρ k=some r):(∃ a,m=some (.ok a)∧k a=some r)∨∃ c,m=some (.ex c)∧r=.xc c ρ:=by
 match m,h with
 | some (.ok a),h=>exact .inl ⟨a,rfl,h⟩
 | some (.ex c),h=>exact .inr ⟨c,rfl,(qA h).symm⟩
 | none,h=>cases h
def sG (X:Cx) (H0 G₀ G:Hp) (D:Ends):So→Prop
 | .nx ρ=>∀ G' H' σ',aM G G'→RepS X.K H0 G₀ G' H' σ' ρ→D.nx σ' H'
 | .rt d=>∀ v G' H',aM G G'→Grow G₀ H0 G' H'→Rep X.K G' v d→D.rt v H'
 | .bk ρ=>∀ G' H' σ',aM G G'→RepS X.K H0 G₀ G' H' σ' ρ→D.bk σ' H'
 | .ct ρ=>∀ G' H' σ',aM G G'→RepS X.K H0 G₀ G' H' σ' ρ→D.ct σ' H'
 | .xc c ρ=>lW X H0 G₀ G ρ c
theorem sG.mono {X:Cx} {H0 G₀ G G':Hp} {D:Ends} {o:So} (h:sG X H0 G₀ G D o) (s:aM G G'):sG X H0 G₀ G' D o:=by
 cases o with
 | nx ρ=>exact fun G2 H' σ' s2 R=>h G2 H' σ' (s.trans s2) R
 | rt d=>exact fun v G2 H' s2 g r=>h v G2 H' (s.trans s2) g r
 | bk ρ=>exact fun G2 H' σ' s2 R=>h G2 H' σ' (s.trans s2) R
 | ct ρ=>exact fun G2 H' σ' s2 R=>h G2 H' σ' (s.trans s2) R
 | xc c ρ=>exact lW.mono h s
def rS (X:Cx) (f:SF):TS:=fun D σ H=>∃ ρ o H0 G₀ G,f ρ=some o∧RepS X.K H0 G₀ G H σ ρ∧sG X H0 G₀ G D o
structure DS (X:Cx) (st:Stmt) (f:SF):Prop where
 run:PS X st (rS X f)
structure DB (X:Cx) (sts:List Stmt) (f:SF):Prop where
 run:PSs X sts (rS X f)
section
variable {X:Cx} {H0 G₀ G H:Hp} {ρ:List Ent} {σ:St} {D:Ends} {o:So}
theorem sE {fa:EF} {k:PyData→Option So} (R:RepS X.K H0 G₀ G H σ ρ) (e:bns (fa ρ) ρ k=some o) (q:sG X H0 G₀ G D o) {T:VK}
  (h:∀ x v G1 H1,Grow G H G1 H1→RepS X.K H0 G₀ G1 H1 σ ρ→Rep X.K G1 v x→k x=some o→sG X H0 G₀ G1 D o→T v H1):rE X fa σ H T:=by
 rcases nY e with ⟨x,e1,e2⟩ | ⟨c,e1,e2⟩
 ·exact ⟨ρ,_,H0,G₀,G,e1,R,fun v G1 H1 g1 rv=>h x v G1 H1 g1 (R.more g1) rv e2 (q.mono g1.gg)⟩
 ·subst e2;exact ⟨ρ,_,H0,G₀,G,e1,R,q⟩
theorem sA {fa:AF} {k:List PyData→Option So} (R:RepS X.K H0 G₀ G H σ ρ) (e:bns (fa ρ) ρ k=some o) (q:sG X H0 G₀ G D o) {T:List V→Hp→Prop}
  (h:∀ x v G1 H1,Grow G H G1 H1→RepS X.K H0 G₀ G1 H1 σ ρ→RepAll X.K G1 v x→k x=some o→sG X H0 G₀ G1 D o→T v H1):rA X fa σ H T:=by
 rcases nY e with ⟨x,e1,e2⟩ | ⟨c,e1,e2⟩
 ·exact ⟨ρ,_,H0,G₀,G,e1,R,fun v G1 H1 g1 rv=>h x v G1 H1 g1 (R.more g1) rv e2 (q.mono g1.gg)⟩
 ·subst e2;exact ⟨ρ,_,H0,G₀,G,e1,R,q⟩
theorem sT {fa:TF} {k:Bool→Option So} (R:RepS X.K H0 G₀ G H σ ρ) (e:bns (fa ρ) ρ k=some o) (q:sG X H0 G₀ G D o) {T:Bool→Hp→Prop}
  (h:∀ x G1 H1,Grow G H G1 H1→RepS X.K H0 G₀ G1 H1 σ ρ→k x=some o→sG X H0 G₀ G1 D o→T x H1):rT X fa σ H T:=by
 rcases nY e with ⟨x,e1,e2⟩ | ⟨c,e1,e2⟩
 ·exact ⟨ρ,_,H0,G₀,G,e1,R,fun G1 H1 g1=>h x G1 H1 g1 (R.more g1) e2 (q.mono g1.gg)⟩
 ·subst e2;exact ⟨ρ,_,H0,G₀,G,e1,R,q⟩
end
section
variable {X:Cx} {st:Stmt} {rest:List Stmt} {f g:SF} {fa fb:EF} {ft:TF} {e c b:Expr} {pos:Pos}
def iO:SF:=fun ρ=>some (.nx ρ)
def eF (f g:SF):SF:=fun ρ=>match f ρ with
 | some (.nx ρ')=>g ρ'
 | r=>r
theorem dE:DB X [] iO:=⟨fun pins s σ H D I ⟨ρ,o,H0,G₀,G,e,R,q⟩=>a5a pins s σ H D I (by cases (qA e);exact q G H σ (.refl _) R)⟩
theorem bN (h1:DS X st f) (h2:DB X rest g):DB X (st::rest) (eF f g):=⟨fun pins s σ H D I ⟨ρ,o,H0,G₀,G,e,R,q⟩=>by
 unfold eF at e
 split at e
 ·rename_i ρ' e1
  refine wpAny_execs_cons (thn (h1.run pins s σ H { D with nx:=fun σ' H'=>rS X g D σ' H' } I ⟨ρ,_,H0,G₀,G,e1,R,fun G' H' σ' s' R'=>⟨ρ',o,H0,G₀,G',e,R',q.mono s'⟩⟩) fun fl s1 z=>?_)
  cases fl with
  | next=>obtain ⟨σ',H',I',z⟩:=z;exact h2.run pins s1 σ' H' D I' z
  | ret v=>exact z
  | brk=>exact z
  | cont=>exact z
 ·rename_i z
  have hn:∀ ρ',o≠.nx ρ':=fun ρ' w=>z ρ' (by rw [e,w])
  have q':sG X H0 G₀ G { D with nx:=fun _ _=>False } o:=by
   cases o with
   | nx ρ'=>exact absurd rfl (hn ρ')
   | rt d=>exact q
   | bk ρ'=>exact q
   | ct ρ'=>exact q
   | xc c ρ'=>exact q
  refine wpAny_execs_cons (thn (h1.run pins s σ H { D with nx:=fun _ _=>False } I ⟨ρ,o,H0,G₀,G,e,R,q'⟩) fun fl s1 z=>?_)
  cases fl with
  | next=>obtain ⟨_,_,_,z⟩:=z;exact z.elim
  | ret v=>exact z
  | brk=>exact z
  | cont=>exact z⟩
theorem aT (h:DS X st f):DB X [st] f:=⟨a1r h.run⟩
def a9y (i:Nat) (f:SF):SF:=fun ρ=>match ρ[i]? with
 | some (.lst ds)=>f (ρ.set i (.val (.list ds)))
 | some (.dct kvs)=>f (ρ.set i (.val (.dict (kvs.map fun p=>(lG p.1,p.2)))))
 | _=>f ρ
theorem a4A (i:Nat) (h:DB X rest f):DB X rest (a9y i f):=⟨fun pins s σ H D I ⟨ρ,o,H0,G₀,G,e,R,q⟩=>by
 unfold a9y at e
 split at e
 ·rename_i ds hi
  obtain ⟨G',s',R'⟩:=R.freeze hi
  exact h.run pins s σ H D I ⟨_,o,H0,G₀,G',e,R',q.mono s'⟩
 ·rename_i kvs hi
  obtain ⟨G',s',R'⟩:=R.freezeD hi
  exact h.run pins s σ H D I ⟨_,o,H0,G₀,G',e,R',q.mono s'⟩
 ·exact h.run pins s σ H D I ⟨ρ,o,H0,G₀,G,e,R,q⟩⟩
def retS (fa:EF):SF:=fun ρ=>bns (fa ρ) ρ fun d=>some (.rt d)
theorem bB (h:DE X e fa):DS X (.Return (some e) pos) (retS fa):=⟨fun pins s σ H D I ⟨ρ,o,H0,G₀,G,e,R,q⟩=>a8h h.run pins s σ H D I (sE R e q fun x v G1 H1 g1 R1 rv e1 q1=>by
 cases (qA e1);exact q1 v G1 H1 (.refl _) R1.grow rv)⟩
def a5y (fa:EF):SF:=fun ρ=>bns (fa ρ) ρ fun _=>some (.nx ρ)
theorem a5G (h:DE X e fa) (hs:swapsWith e none pos.line X.env=pure false:=by rfl):DS X (.Expr e pos) (a5y fa):=⟨fun pins s σ H D I ⟨ρ,o,H0,G₀,G,e,R,q⟩=>oG h.run hs pins s σ H D I (sE R e q fun x v G1 H1 g1 R1 rv e1 q1=>by
 cases (qA e1);exact q1 G1 H1 σ (.refl _) R1)⟩
def ifS (ft:TF) (f g:SF):SF:=fun ρ=>bns (ft ρ) ρ fun t=>if t then f ρ else g ρ
theorem eP {x y:List Stmt} (hc:DT X c ft) (ha:DB X x f) (hb:DB X y g):DS X (.If c x y pos) (ifS ft f g):=⟨fun pins s σ H D I ⟨ρ,o,H0,G₀,G,e,R,q⟩=>b2N hc.run ha.run hb.run pins s σ H D I (sT R e q fun t G1 H1 g1 R1 e1 q1=>by
 cases t with
 | true=>rw [if_pos rfl] at e1 ⊢;exact ⟨ρ,o,H0,G₀,G1,e1,R1,q1⟩
 | false=>rw [if_neg (by decide)] at e1 ⊢;exact ⟨ρ,o,H0,G₀,G1,e1,R1,q1⟩)⟩
def sP (i:Nat) (fa:EF):SF:=fun ρ=>bns (fa ρ) ρ fun d=>some (.nx (ρ.set i (.val d)))
theorem mT (i:Nat) {x:Str} {p:Pos} (hN:X.N.Nodup) (h:DE X e fa) (hi:X.N[i]?=some x:=by rfl) (hx:Loc X.env.scope x:=by first | exact qu rfl | exact qf rfl)
  (hs:swapsWith e (some (.Name x p)) pos.line X.env=pure false:=by rfl) (hf:X.fn x=true∨X.env.scope.names.lookup x=some .local:=by first | exact .inl rfl | exact .inr rfl) :
  DS X (.Assign [.Name x p] e pos) (sP i fa):=⟨fun pins s σ H D I ⟨ρ,o,H0,G₀,G,e,R,q⟩=>wO hN hi hx h.run hs hf pins s σ H D I (sE R e q fun x v G1 H1 g1 R1 rv e1 q1=>by
 cases (qA e1);exact q1 G1 H1 _ (.refl _) (R1.set rv))⟩
def a8O (i:Nat) (f:AF):SF:=fun ρ=>bns (f ρ) ρ fun ds=>if dA ds.length then some (.nx (ρ.set i (.lst ds))) else none
theorem a9M (i:Nat) {x:Str} {p p2:Pos} {es:List Expr} {f:AF} (hN:X.N.Nodup) (h:DA X es f) (hi:X.N[i]?=some x:=by rfl) (hx:Loc X.env.scope x:=by first | exact qu rfl | exact qf rfl)
  (hs:swapsWith (.List es p2) (some (.Name x p)) pos.line X.env=pure false:=by rfl) (hf:X.fn x=true∨X.env.scope.names.lookup x=some .local:=by first | exact .inl rfl | exact .inr rfl) :
  DS X (.Assign [.Name x p] (.List es p2) pos) (a8O i f):=⟨fun pins s σ H D I ⟨ρ,o,H0,G₀,G,e,R,q⟩=>wO hN hi hx (pF h.run) hs hf pins s σ H D I (sA R e q fun ds vs G1 H1 g1 R1 rv e1 q1=>by
 split at e1
 ·rename_i hz
  cases (qA e1)
  exact ⟨by rw [rv.length];exact fM hz,fun a ha=>q1 G1 _ _ (.refl _) (R1.fresh ha rv)⟩
 ·cases e1)⟩
end
end L2.L3
namespace L2.L3
open PySem PySem.Spec PyProof.Rows
section
variable {X:Cx} {st:Stmt} {rest:List Stmt} {f g:SF} {fa fb:EF} {ft:TF} {e c b:Expr} {pos p:Pos}
inductive Tg where
 | nm (i:Nat)
 | tp (is:List Nat)
 | nn (i:Nat) (js:List Nat)
def eZ:List Ent→List Nat→List PyData→List Ent
 | ρ,i::is,d::ds=>eZ (ρ.set i (.val d)) is ds
 | ρ,_,_=>ρ
def tgD (t:Tg) (ρ:List Ent) (d:PyData):Option (List Ent):=match t,d with
 | .nm i,d=>some (ρ.set i (.val d))
 | .tp is,.tuple ds=>if is.length=ds.length then some (eZ ρ is ds) else none
 | .nn i js,.tuple [d,.tuple ds]=>if js.length=ds.length then some (eZ (ρ.set i (.val d)) js ds) else none
 | _,_=>none
structure DG (X:Cx) (tg:Expr) (t:Tg):Prop where
 run:∀ ρ d ρ',tgD t ρ d=some ρ'→PGD X tg ρ d ρ'
structure DGs (X:Cx) (ts:List Expr) (is:List Nat):Prop where
 run:∀ ρ ds,is.length=ds.length→PGsD X ts ρ ds (eZ ρ is ds)
theorem fY (i:Nat) {x:Str} (hN:X.N.Nodup) (hi:X.N[i]?=some x:=by rfl) (hx:Loc X.env.scope x:=by first | exact qu rfl | exact qf rfl) (hf:X.fn x=true∨X.env.scope.names.lookup x=some .local:=by first | exact .inl rfl | exact .inr rfl) :
  DG X (.Name x pos) (.nm i):=⟨fun ρ d ρ' h=>by cases (qA h);exact a2J i hN hi hx hf⟩
theorem a1Q:DGs X [] []:=⟨fun ρ ds h=>by
 cases ds with
 | nil=>exact a8m
 | cons _ _=>cases h⟩
theorem lR (i:Nat) {x:Str} {es:List Expr} {is:List Nat} (hN:X.N.Nodup) (h:DGs X es is) (hi:X.N[i]?=some x:=by rfl) (hx:Loc X.env.scope x:=by first | exact qu rfl | exact qf rfl)
  (hf:X.fn x=true∨X.env.scope.names.lookup x=some .local:=by first | exact .inl rfl | exact .inr rfl)
  (hs:(assignEach (.Name x pos::es) X.env).map (·.2)=assign (.Name x pos) X.env::(assignEach es X.env).map (·.2):=by rfl):DGs X (.Name x pos::es) (i::is):=⟨fun ρ ds hl=>by
 cases ds with
 | nil=>cases hl
 | cons d ds=>exact a6x (a2J i hN hi hx hf) (h.run _ ds (by simpa using hl)) hs⟩
theorem a9R {es:List Expr} {is:List Nat} {k:Nat} (hc:X.calm=true) (h:DGs X es is) (hn:(assignEach es X.env).length=is.length:=by rfl) (hst:(assignEach es X.env).findIdx? (·.1)=none:=by rfl):DG X (.Tuple es k pos) (.tp is):=⟨fun ρ d ρ' hq=>by
 cases d with
 | tuple ds=>
  have hq:(if is.length=ds.length then some (eZ ρ is ds) else none)=some ρ':=hq
  split at hq
  ·rename_i hl
   cases (qA hq)
   exact b0P hc (h.run ρ ds hl) (hn.trans hl) hst
  ·cases hq
 | none=>cases hq
 | bool _=>cases hq
 | int _=>cases hq
 | str _=>cases hq
 | list _=>cases hq
 | dict _=>cases hq⟩
theorem b3w {i:Nat} {js:List Nat} {ρ ρ':List Ent} {d:PyData} (h:tgD (.nn i js) ρ d=some ρ'):∃ a ds,d=.tuple [a,.tuple ds]∧js.length=ds.length∧ρ'=eZ (ρ.set i (.val a)) js ds:=by
 unfold tgD at h
 split at h
 ·rename_i e;cases e
 ·rename_i e;cases e
 ·rename_i i' js' a ds e
  cases e
  split at h
  ·rename_i hl;exact ⟨a,ds,rfl,hl,(qA h).symm⟩
  ·cases h
 ·cases h
def rG (X:Cx) (t:Tg):TG:=fun v σ H Q=>∃ ρ d ρ' H0 G₀ G,tgD t ρ d=some ρ'∧RepS X.K H0 G₀ G H σ ρ∧Rep X.K G v d∧∀ σ',RepS X.K H0 G₀ G H σ' ρ'→Q σ' H
theorem DG.pg {tg:Expr} {t:Tg} (h:DG X tg t):PG X tg (rG X t):=fun pins s σ H v u Q I r ⟨ρ,d,ρ',H0,G₀,G,e,R,rv,q⟩=>(h.run ρ d ρ' e).run pins s σ H v u Q I r ⟨H0,G₀,G,R,rv,q⟩
def b3q (t:Tg) (fa:EF):SF:=fun ρ=>bns (fa ρ) ρ fun d=>(tgD t ρ d).map So.nx
theorem b5m {tg:Expr} {t:Tg} (h:DE X e fa) (hg:DG X tg t) (hs:swapsWithSole [tg] e pos.line X.env=pure false:=by rfl) (hw:swappedStores [tg] e X.env=pure none:=by rfl)
  (h1:(assignEach [tg] X.env).map (·.2)=[assign tg X.env]:=by rfl):DS X (.Assign [tg] e pos) (b3q t fa):=⟨fun pins s σ H D I ⟨ρ,o,H0,G₀,G,ef,R,q⟩=>
 a8j h.run hg.pg hs hw h1 pins s σ H D I (sE R ef q fun d v G1 H1 g1 R1 rv e1 q1=>by
  obtain ⟨ρ',e2,rfl⟩:=qD.mp e1
  exact ⟨ρ,d,ρ',H0,G₀,G1,e2,R1,rv,fun σ' R'=>q1 G1 H1 σ' (.refl _) R'⟩)⟩
def b8K (X:Cx) (H0 G₀ G:Hp) (ρ:List Ent) (H:Hp) (R:It→Hp→Prop):Re (List PyData)→Prop
 | .ok ds=>∀ J G' H',Grow G H G' H'→Walk X.K J G' ds→R J H'
 | .ex c=>lW X H0 G₀ G ρ c
def rIt (X:Cx) (f:AF):TI:=fun σ H R=>∃ ρ r H0 G₀ G,f ρ=some r∧RepS X.K H0 G₀ G H σ ρ∧b8K X H0 G₀ G ρ H R r
structure DI (X:Cx) (tg iter:Expr) (f:AF):Prop where
 run:PI X tg iter (rIt X f)
theorem DI.pid {tg iter:Expr} {f:AF} (h:DI X tg iter f) {ρ:List Ent} {ds:List PyData} (e:f ρ=some (.ok ds)):PID X tg iter ρ ds:=⟨fun pins s σ H R I ⟨H0,G₀,G,S,q⟩=>h.run pins s σ H R I ⟨ρ,_,H0,G₀,G,e,S,q⟩⟩
theorem b7e {tg iter:Expr} {f:AF} (h:∀ ρ r,f ρ=some r→∃ ds,r=.ok ds∧PID X tg iter ρ ds):DI X tg iter f:=⟨fun pins s σ H R I ⟨ρ,r,H0,G₀,G,e,S,q⟩=>by
 obtain ⟨ds,rfl,hp⟩:=h ρ r e
 exact hp.run pins s σ H R I ⟨H0,G₀,G,S,q⟩⟩
def wA:PyData→Option (List PyData)
 | .list ds=>some ds
 | .tuple ds=>some ds
 | _=>none
def yJ (fa:EF):AF:=fun ρ=>bnd (fa ρ) fun x=>lft (wA x)
theorem nU {tg iter:Expr} (h:DE X iter fa):DI X tg iter (yJ fa):=⟨fun pins s σ H R I ⟨ρ,r,H0,G₀,G,e,S,q⟩=>by
 rcases bU e with ⟨x,e1,e2⟩ | ⟨c,e1,e2⟩
 ·obtain ⟨ds,e3,rfl⟩:=aW e2
  cases x with
  | list es=>cases (qA e3);exact (a8l (h.pd e1)).run pins s σ H R I ⟨H0,G₀,G,S,q⟩
  | tuple es=>cases (qA e3);exact (b0M (h.pd e1)).run pins s σ H R I ⟨H0,G₀,G,S,q⟩
  | none=>cases e3
  | bool _=>cases e3
  | int _=>cases e3
  | str _=>cases e3
  | dict _=>cases e3
 ·subst e2
  exact a1u h.run pins s σ H R I ⟨ρ,_,H0,G₀,G,e1,S,q⟩⟩
def intD:PyData→Option Int
 | .int i=>some i
 | _=>none
theorem oK {d:PyData} {i:Int} (h:intD d=some i):d=.int i:=by
 cases d<;>first | (cases h;done) | (cases (qA h);rfl)
def a5u (n:Int):Bool:=decide (-(2 ^ 62)≤n)&&decide (n<2 ^ 62)
theorem xL {n:Int} (h:a5u n=true):-(2 ^ 62)≤n∧n<2 ^ 62:=by
 unfold a5u at h
 rw [qH] at h
 exact ⟨of_decide_eq_true h.1,of_decide_eq_true h.2⟩
def a7Y (fa:EF):AF:=fun ρ=>match fa ρ with
 | some (.ok (.int n))=>if a5u n then some (.ok (a1q 0 n.toNat)) else none
 | _=>none
theorem a5I {tg a:Expr} (hm:X.mg "range" = none) (h:DE X a fa) (hs:starEach [a] X.env=[(false,eval a X.env)]:=by rfl) (hs':starEach [a] X.env=(false,eval a X.env)::starEach [] X.env:=by rfl) (hg:Gl X "range":=by rfl) :
  DI X tg (.Call (.Name "range" p) [a] [] pos) (a7Y fa):=b7e fun ρ r e=>by
 unfold a7Y at e
 split at e
 ·rename_i n en
  split at e
  ·rename_i hr
   exact ⟨_,(qA e).symm,a3W hm (h.pd en) (xL hr).1 (xL hr).2 hs hs' hg⟩
  ·cases e
 ·cases e
def wY (t:Tg) (fb:SF):List PyData→List Ent→Option So
 | [],ρ=>some (.nx ρ)
 | d::ds,ρ=>match tgD t ρ d with
  | none=>none
  | some ρ1=>(match fb ρ1 with
   | some (.nx ρ2)=>wY t fb ds ρ2
   | some (.ct ρ2)=>wY t fb ds ρ2
   | some (.bk ρ2)=>some (.nx ρ2)
   | some (.rt d)=>some (.rt d)
   | some (.xc c ρ2)=>some (.xc c ρ2)
   | none=>none)
def b5d (t:Tg) (fi:AF) (fb:SF):SF:=fun ρ=>bns (fi ρ) ρ fun ds=>wY t fb ds ρ
theorem b5o {tg iter:Expr} {body:List Stmt} {t:Tg} {fi:AF} (hp:PassesOwn (model X.prog X.w) X.A X.env X.xe) (hc:X.calm=true) (hi:DI X tg iter fi) (hg:DG X tg t) (hb:DB X body g)
  (hs:∀ x,foldedSetIterable iter X.env x=pure x:=by intro _;rfl):DS X (.For tg iter body [] pos) (b5d t fi g):=⟨fun pins s σ H D I ⟨ρ,o,H0,G₀,G,ef,R,q⟩=>
 a8i hp hc hi.run hg.pg hb.run hs pins s σ H D I (by
  rcases nY ef with ⟨ds,e1,e2⟩ | ⟨c,e1,e2⟩
  ·refine ⟨ρ,_,H0,G₀,G,e1,R,fun J G1 H1 g1 wk=>?_⟩
   refine ⟨fun i m σ' H'=>m=ds.length - i∧i≤ds.length∧∃ ρ' G',aM G1 G'∧RepS X.K H0 G₀ G' H' σ' ρ'∧wY t g (ds.drop i) ρ'=some o,⟨ds.length,by simp,jA _,ρ,G1,.refl _,R.more g1,by simpa using e2⟩,?_⟩
   rintro i m σ' H' ⟨rfl,hin,ρ',G',s',R',e'⟩
   obtain ⟨wgo,wstop⟩:=wk i G' H' s' R'.sub
   by_cases hlt:i<ds.length
   ·rw [List.drop_eq_getElem_cons hlt] at e'
    have hx:ds[i]?=some ds[i]:=qN hlt
    refine .inr ⟨(wgo _ hx).1,fun σ2 H2=>∃ ρ2 G2,aM G1 G2∧RepS X.K H0 G₀ G2 H2 σ2 ρ2∧wY t g (ds.drop (i+1)) ρ2=some o,?_,fun x H2 y=>?_⟩
    ·rintro σ2 H2 ⟨ρ2,G2,s2,R2,e2⟩
     exact ⟨ds.length - (i+1),by omega,rfl,hlt,ρ2,G2,s2,R2,e2⟩
    ·obtain ⟨G2,g2,rx⟩:=(wgo _ hx).2 x H2 y
     unfold wY at e'
     split at e'
     ·cases e'
     ·rename_i ρ1 et
      refine ⟨ρ',ds[i],ρ1,H0,G₀,G2,et,R'.more g2,rx,fun σ3 R3=>?_⟩
      have sg:aM G1 G2:=s'.trans g2.gg
      split at e'
      ·rename_i ρ2 eb
       exact ⟨ρ1,_,H0,G₀,G2,eb,R3,fun G4 H4 σ4 s4 R4=>⟨ρ2,G4,sg.trans s4,R4,e'⟩⟩
      ·rename_i ρ2 eb
       exact ⟨ρ1,_,H0,G₀,G2,eb,R3,fun G4 H4 σ4 s4 R4=>⟨ρ2,G4,sg.trans s4,R4,e'⟩⟩
      ·rename_i ρ2 eb
       cases (qA e')
       exact ⟨ρ1,_,H0,G₀,G2,eb,R3,fun G4 H4 σ4 s4 R4=>q G4 H4 σ4 (g1.gg.trans (sg.trans s4)) R4⟩
      ·rename_i d' eb
       cases (qA e')
       exact ⟨ρ1,_,H0,G₀,G2,eb,R3,fun v G4 H4 s4 gr rv=>q v G4 H4 (g1.gg.trans (sg.trans s4)) gr rv⟩
      ·rename_i c' ρ2 eb
       cases (qA e')
       exact ⟨ρ1,_,H0,G₀,G2,eb,R3,lW.mono q (g1.gg.trans sg)⟩
      ·cases e'
   ·have hi':i=ds.length:=by omega
    subst hi'
    rw [List.drop_length] at e'
    cases (qA e')
    exact .inl ⟨wstop (qO _),q G' H' σ' (g1.gg.trans s') R'⟩
  ·subst e2
   exact ⟨ρ,_,H0,G₀,G,e1,R,q⟩)⟩
end
end L2.L3
namespace L2.L3
open PySem PySem.Spec PyProof.Rows
def rB (t:Tg) (ρb:List Ent) (ft:TF) (fe:EF):List PyData→Option (List PyData)
 | []=>some []
 | d::ds=>match tgD t ρb d with
  | none=>none
  | some ρx=>(match ft ρx with
   | some (.ok true)=>(match fe ρx with
    | some (.ok v)=>(rB t ρb ft fe ds).map (v::·)
    | _=>none)
   | some (.ok false)=>rB t ρb ft fe ds
   | _=>none)
def gL (t:Tg) (cap:List (Option Nat)) (fi:AF) (ft:TF) (fe:EF):EF:=fun ρ=>bnd (fi ρ) fun ds=>if dA ds.length then lft ((rB t (cJ cap ρ) ft fe ds).map .list) else none
def ttT:TF:=fun _=>some (.ok true)
def cX (t:Tg) (ρb:List Ent) (d:PyData):List Ent:=(tgD t ρb d).getD []
def cT (t:Tg) (ρb:List Ent) (ft:TF) (d:PyData):Bool:=match ft (cX t ρb d) with
 | some (.ok b)=>b
 | _=>false
def cV (t:Tg) (ρb:List Ent) (fe:EF) (d:PyData):PyData:=match fe (cX t ρb d) with
 | some (.ok v)=>v
 | _=>.none
theorem pZ {t:Tg} {ρb:List Ent} {ft:TF} {fe:EF}:∀ {ds es:List PyData},rB t ρb ft fe ds=some es →
  (∀ d∈ds,tgD t ρb d=some (cX t ρb d)∧ft (cX t ρb d)=some (.ok (cT t ρb ft d))∧(cT t ρb ft d=true→fe (cX t ρb d)=some (.ok (cV t ρb fe d))))∧es=(ds.filter (cT t ρb ft)).map (cV t ρb fe)
 | [],es,h=>by
  cases (qA h)
  exact ⟨fun _ z=>absurd z (by simp),rfl⟩
 | d::ds,es,h=>by
  unfold rB at h
  split at h
  ·cases h
  ·rename_i ρx et
   have ex:cX t ρb d=ρx:=by unfold cX;rw [et];rfl
   split at h
   ·rename_i e1
    have e1':cT t ρb ft d=true:=by unfold cT;rw [ex,e1]
    split at h
    ·rename_i v ev
     obtain ⟨es',e3,rfl⟩:=qD.mp h
     obtain ⟨i1,i2⟩:=pZ e3
     have evv:cV t ρb fe d=v:=by unfold cV;rw [ex,ev]
     refine ⟨fun d' hd=>?_,?_⟩
     ·rcases qM.mp hd with rfl | hd
      ·rw [ex,e1',evv];exact ⟨et,e1,fun _=>ev⟩
      ·exact i1 d' hd
     ·rw [ql e1',qF,evv,i2]
    ·cases h
   ·rename_i e1
    have e1':cT t ρb ft d=false:=by unfold cT;rw [ex,e1]
    obtain ⟨i1,i2⟩:=pZ h
    refine ⟨fun d' hd=>?_,?_⟩
    ·rcases qM.mp hd with rfl | hd
     ·rw [ex,e1'];exact ⟨et,e1,fun z=>by cases z⟩
     ·exact i1 d' hd
    ·rw [qx (by rw [e1'];decide),i2]
   ·cases h
def a1d (cap:List (Option Nat)):Tg→Bool
 | .nm i=>(match cap[i]? with | some (some _)=>false | _=>true)
 | .tp is=>is.all fun i=>match cap[i]? with | some (some _)=>false | _=>true
 | .nn i js=>(match cap[i]? with | some (some _)=>false | _=>true)&&js.all fun i=>match cap[i]? with | some (some _)=>false | _=>true
theorem nD:∀ {a b:List Ent} {i:Nat} {e:Ent},Weak a b→(b[i]?=some .no∨b[i]?=none)→Weak (a.set i e) b
 | _,_,_,_,.nil,_=>.nil
 | _::_,_,0,_,.keep w,h=>by
  rcases h with h | h
  ·cases (qA h);exact .no w
  ·cases h
 | _::_,_,0,_,.no w,_=>.no w
 | _::_,_,i+1,_,.keep w,h=>.keep (nD w (by simpa using h))
 | _::_,_,i+1,_,.no w,h=>.no (nD w (by simpa using h))
theorem a1U {cap:List (Option Nat)} {ρ:List Ent} {i:Nat} (h:(match cap[i]? with | some (some _)=>false | _=>true)=true):(cJ cap ρ)[i]?=some .no∨(cJ cap ρ)[i]?=none:=by
 unfold cJ
 rw [qJ]
 cases e:cap[i]? with
 | none=>exact .inr rfl
 | some o=>
  rw [e] at h
  cases o with
  | none=>exact .inl rfl
  | some j=>cases h
theorem vO {cap:List (Option Nat)} {ρ:List Ent}:∀ {is:List Nat} {ds:List PyData} {a:List Ent},(is.all fun i=>match cap[i]? with | some (some _)=>false | _=>true)=true→Weak a (cJ cap ρ)→Weak (eZ a is ds) (cJ cap ρ)
 | [],ds,a,_,w=>by cases ds<;>exact w
 | i::is,[],a,_,w=>w
 | i::is,d::ds,a,h,w=>by
  rw [zD,qH] at h
  exact vO (is:=is) (ds:=ds) (a:=a.set i (.val d)) h.2 (nD w (a1U h.1))
theorem a0Z {cap:List (Option Nat)} {ρ ρx:List Ent} {t:Tg} {d:PyData} (hf:a1d cap t=true) (h:tgD t (cJ cap ρ) d=some ρx):Weak ρx (cJ cap ρ):=by
 cases t with
 | nm i=>cases (qA h);exact nD (.refl _) (a1U hf)
 | tp is=>
  cases d with
  | tuple ds=>
   have h:(if is.length=ds.length then some (eZ (cJ cap ρ) is ds) else none)=some ρx:=h
   split at h
   ·cases (qA h);exact vO hf (.refl _)
   ·cases h
  | none=>cases h
  | bool _=>cases h
  | int _=>cases h
  | str _=>cases h
  | list _=>cases h
  | dict _=>cases h
 | nn i js=>
  obtain ⟨a,ds,rfl,hl,rfl⟩:=b3w h
  have hf:((match cap[i]? with | some (some _)=>false | _=>true)&&js.all fun i=>match cap[i]? with | some (some _)=>false | _=>true)=true:=hf
  rw [qH] at hf
  exact vO hf.2 (nD (.refl _) (a1U hf.1))
section
variable {X:Cx} {elt iter tg:Expr} {ifs:List Expr} {scope:Scope} {pos spos p:Pos} {N':List Str} {cap:List (Option Nat)} {t:Tg} {fi:AF} {ft:TF} {fe:EF}
structure DTs (X:Cx) (ifs:List Expr) (f:TF):Prop where
 run:∀ ρ b,f ρ=some (.ok b)→PTsD X ifs ρ b
theorem rK:DTs X [] ttT:=⟨fun ρ b e=>by cases (qA e);exact a8d⟩
theorem vN {c:Expr} (h:DT X c ft):DTs X [c] ft:=⟨fun ρ b e=>a8c (h.ptd e)⟩
theorem iV (hc:X.calm=true) (B:Blk X scope N' cap) (hi:DI X tg iter fi) (hf:a1d cap t=true) (hg:∀ C s₃ H₃ fp,DG (bW X scope N' C s₃ H₃ fp) tg t) (ht:∀ C s₃ H₃ fp,DTs (bW X scope N' C s₃ H₃ fp) ifs ft)
  (he:∀ C s₃ H₃ fp,DE (bW X scope N' C s₃ H₃ fp) elt fe) (hs:∀ x,foldedSetIterable iter X.env x=pure x:=by intro _;rfl):DE X (.ListComp elt [⟨tg,iter,ifs,0⟩] scope pos) (gL t cap fi ft fe):=⟨fun pins s σ H Q I ⟨ρ,r,H0,G₀,G,e,R,q⟩=>by
 rcases bU e with ⟨ds,e1,e2⟩ | ⟨c,e1,e2⟩
 ·split at e2
  ·rename_i hz
   obtain ⟨d,ed,rfl⟩:=aW e2
   obtain ⟨es,e3,rfl⟩:=qD.mp ed
   obtain ⟨k1,rfl⟩:=pZ e3
   exact (b0T (xs:=ds) (φ:=fun d=>d) (ρb:=cJ cap ρ) (ρx:=cX t (cJ cap ρ)) (cnd:=cT t (cJ cap ρ) ft) (f:=cV t (cJ cap ρ) fe) hc B (by simpa using hi.pid e1) (.refl _) (fun x hx=>a0Z hf (k1 x hx).1) (fM hz)
    (fun C s₃ H₃ fp x hx=>(hg C s₃ H₃ fp).run _ _ _ (k1 x hx).1) (fun C s₃ H₃ fp x hx=>(ht C s₃ H₃ fp).run _ _ (k1 x hx).2.1) (fun C s₃ H₃ fp x hx hcx=>(he C s₃ H₃ fp).pd ((k1 x hx).2.2 hcx)) hs).run H0 G₀ G pins s σ H Q I R q
  ·cases e2
 ·subst e2
  exact a5h (g:=fun _ _ _ _=>False) (tc:=fun _ _ _=>False) (te:=fun _ _ _=>False) hc B hi.run (fun _ _ _ _ _ _ _ _ _ _ _ _ _ z=>z.elim) (fun _ _ _ _ _ _ _ _ _ _ z=>z.elim) (fun _ _ _ _ _ _ _ _ _ _ z=>z.elim) hs pins s σ H Q I
   ⟨ρ,_,H0,G₀,G,e1,R,q⟩⟩
theorem b2a (i:Nat) {x:Str} (hN:X.N.Nodup) (hc:X.calm=true) (B:Blk X scope N' cap) (hi:DI X tg iter fi) (hf:a1d cap t=true) (hg:∀ C s₃ H₃ fp,DG (bW X scope N' C s₃ H₃ fp) tg t) (ht:∀ C s₃ H₃ fp,DTs (bW X scope N' C s₃ H₃ fp) ifs ft)
  (he:∀ C s₃ H₃ fp,DE (bW X scope N' C s₃ H₃ fp) elt fe)
  (hxi:X.N[i]?=some x:=by rfl) (hx:X.env.scope.names.lookup x=some .local:=by rfl)
  (hsw:swapsWith (.ListComp elt [⟨tg,iter,ifs,0⟩] scope pos) (some (.Name x p)) spos.line X.env=pure true:=by rfl)
  (hs:∀ x,foldedSetIterable iter X.env x=pure x:=by intro _;rfl):DS X (.Assign [.Name x p] (.ListComp elt [⟨tg,iter,ifs,0⟩] scope pos) spos) (sP i (gL t cap fi ft fe)):=⟨fun pins s σ H D I ⟨ρ,o,H0,G₀,G,e,R,q⟩=>by
 rcases nY e with ⟨d,e1,e2⟩ | ⟨c,e1,e2⟩
 ·cases (qA e2)
  rcases bU e1 with ⟨ds,e3,e4⟩ | ⟨c,_,e4⟩
  ·split at e4
   ·rename_i hz
    obtain ⟨d',ed,z⟩:=aW e4
    cases z
    obtain ⟨es,e5,rfl⟩:=qD.mp ed
    obtain ⟨k1,rfl⟩:=pZ e5
    exact (a8g i (xs:=ds) (φ:=fun d=>d) (ρb:=cJ cap ρ) (ρx:=cX t (cJ cap ρ)) (cnd:=cT t (cJ cap ρ) ft) (f:=cV t (cJ cap ρ) fe) hN hc B (by simpa using hi.pid e3) (.refl _) (fun x hx=>a0Z hf (k1 x hx).1) (fM hz)
     (fun C s₃ H₃ fp x hx=>(hg C s₃ H₃ fp).run _ _ _ (k1 x hx).1) (fun C s₃ H₃ fp x hx=>(ht C s₃ H₃ fp).run _ _ (k1 x hx).2.1) (fun C s₃ H₃ fp x hx hcx=>(he C s₃ H₃ fp).pd ((k1 x hx).2.2 hcx)) hxi hx hsw hs).run pins s σ H D I ⟨H0,G₀,G,R,q⟩
   ·cases e4
  ·cases e4
 ·subst e2
  rcases bU e1 with ⟨ds,e3,e4⟩ | ⟨c',e3,e4⟩
  ·split at e4
   ·obtain ⟨_,_,z⟩:=aW e4;cases z
   ·cases e4
  ·cases e4
   exact a5b (g:=fun _ _ _ _=>False) (tc:=fun _ _ _=>False) (te:=fun _ _ _=>False) hN hxi hx hc B hi.run (fun _ _ _ _ _ _ _ _ _ _ _ _ _ z=>z.elim) (fun _ _ _ _ _ _ _ _ _ _ z=>z.elim) (fun _ _ _ _ _ _ _ _ _ _ z=>z.elim) hsw hs pins s σ H D I
    ⟨ρ,_,H0,G₀,G,e3,R,q⟩⟩
end
def vX (m:Nat) (ds:List PyData):List Ent:=ds.map .val++qV (m - ds.length) .no
def mM (m n:Nat) (f:SF) (ds:List PyData):Mm PyData:=if ds.length=n then (match f (vX m ds) with
 | some (.rt d)=>some (.ok d)
 | some (.nx _)=>some (.ok .none)
 | _=>none) else none
abbrev aZ (P:Program) (w:World) (K:qB) (mg:Str→Option Value) (base:Heap) (x:Str) (k:Nat) (ps:List Str) (F:List PyData→Mm PyData):Prop:=
 Callee P w K mg base x k ps fun ds d=>F ds=some (.ok d)
section
variable {P:Program} {w:World} {K:qB} {mg:Str→Option Value} {base:Heap} {X:Cx} {e:Expr} {es:List Expr} {pos p:Pos} {x:Str} {k:Nat} {ps N:List Str} {F:List PyData→Mm PyData}
def bS (F:List PyData→Mm PyData) (fa:AF):EF:=fun ρ=>bnd (fa ρ) fun ds=>match F ds with
 | some (.ok d)=>some (.ok d)
 | _=>none
theorem bQ {fa:AF} (C:aZ X.prog X.w X.K X.mg X.base x k ps F) (hr:Room k X.A) (ha:DA X (e::es) fa) (hg:Gl X x:=by rfl) (hdb:(x==("__debug__" : Str))=false:=by decide)
  (he:starEach (e::es) X.env=(false,eval e X.env)::starEach es X.env:=by rfl) (hpl:(backTo pos (starEach es X.env)).any (·.1)=false:=by rfl):DE X (.Call (.Name x p) (e::es) [] pos) (bS F fa):=⟨fun pins s σ H Q I ⟨ρ,r,H0,G₀,G,e',R,q⟩=>by
 obtain ⟨f,fd,a,b,c,Fk⟩:=C.ex
 refine b0R Fk hr hg a b c .nil (b2P (X:=X)) ha.run hdb he hpl pins s σ H Q I (bA R e' q.x fun ds vs G1 H1 g1 R1 rv e1=>?_)
 split at e1
 ·rename_i d ed
  cases (qA e1)
  exact ⟨G1,ds,d,⟨g1.sub,R1.tab⟩,by simpa using rv,ed,fun v G2 H2 g2 r2=>q v G2 H2 (g1.trans g2) r2⟩
 ·cases e1⟩
theorem sN (N:List Str) (ds:List PyData):hV N ds=vX N.length ds:=rfl
theorem b5e {st:Stmt} {f:SF} {fa:Addr} {fd:FuncData} (m n:Nat) (Fu:Fun K x x st fa fd) (S:FnScope N ps (aC st)) (hm:N.length=m) (hn:ps.length=n)
  (body:∀ (cdv:Value) (A:Around) (outer:List Env) (s:Shared) (H:Hp) (E:XK),Room k (A.deeper (envOfC x (aC st) s.heap.objs.size fa cdv))→DB (fcx P w K mg base N x (aC st) fa cdv A outer s H E) (bI st) f) :
  FnOk P w K mg base CX0 (k+1) fa fd ps (spD K fun ds d=>mM m n f ds=some (.ok d)):=by
 refine Fu.ok S (fun vs H Q E ⟨G,ds,d,s,r,hF,_⟩=>?_) (fun cdv A outer s H vs Q E hr ⟨G,ds,d,sm,r,hF,q⟩=>?_)
 ·have hF:mM m n f ds=some (.ok d):=hF
  unfold mM at hF
  split at hF
  ·rename_i hl;rw [r.length,hl,hn]
  ·cases hF
 ·have hF:mM m n f ds=some (.ok d):=hF
  unfold mM at hF
  split at hF
  ·rw [←hm,←sN] at hF
   split at hF
   ·rename_i d' e
    cases (qA hF)
    exact ⟨_,(body cdv A outer s H E hr).run,hV N ds,_,H,G,G,e,gY sm r,fun v G' H' _ g rv=>q v G' H' g rv⟩
   ·rename_i ρ' e
    cases (qA hF)
    exact ⟨_,(body cdv A outer s H E hr).run,hV N ds,_,H,G,G,e,gY sm r,fun G' H' σ' _ R'=>q .non G' H' R'.grow .none⟩
   ·cases hF
  ·cases hF
theorem cK {st:Stmt} {f:SF} (m n:Nat) (D:Def K mg x st) (S:FnScope N ps (aC st)) (hm:N.length=m) (hn:ps.length=n)
  (hb:∀ (kV doc pm:Value) (an:Option Addr) (cdv ct:Value) (us:List Value),us.length=ps.length→bindArgs (jE x x (dQ st) (bI st) (aC st) .none kV doc pm an cdv ct) ⟨us,[]⟩=pure (ps.zip us))
  (body:∀ (fa:Addr) (cdv:Value) (A:Around) (outer:List Env) (s:Shared) (H:Hp) (E:XK),Room k (A.deeper (envOfC x (aC st) s.heap.objs.size fa cdv))→DB (fcx P w K mg base N x (aC st) fa cdv A outer s H E) (bI st) f) :
  aZ P w K mg base x (k+1) ps (mM m n f):=by
 obtain ⟨fa,fd,Fu,hmg⟩:=D.ex
 exact ⟨fa,fd,hmg,Fu.kp,Fu.binds hb,b5e m n Fu S hm hn fun cdv A outer s H E hr=>body fa cdv A outer s H E hr⟩
end
end L2.L3
namespace L2.L3
open PySem PySem.Spec PyProof.Rows
def iP {α:Type} (f:PyData→Option α):List PyData→Option (List α)
 | []=>some []
 | d::ds=>match f d with
  | none=>none
  | some a=>(iP f ds).map (a::·)
def a7P:PyData→Option Str
 | .str i=>some i
 | _=>none
theorem a1e {d:PyData} {i:Str} (h:a7P d=some i):d=.str i:=by
 cases d<;>first | (cases h;done) | (cases (qA h);rfl)
theorem eA {α:Type} {f:PyData→Option α} {g:α→PyData} (h:∀ d a,f d=some a→d=g a):∀ {ds:List PyData} {as:List α},iP f ds=some as→ds=as.map g
 | [],as,e=>by cases (qA e);rfl
 | d::ds,as,e=>by
  unfold iP at e
  split at e
  ·cases e
  ·rename_i a ea
   obtain ⟨as',e',rfl⟩:=qD.mp e
   rw [qF,←h d a ea,eA h e']
theorem yD {α:Type} {f:PyData→Option α} {g:α→PyData} (h:∀ a,f (g a)=some a):∀ as:List α,iP f (as.map g)=some as
 | []=>rfl
 | a::as=>by rw [qF,iP,h a];show (iP f (as.map g)).map (a::·)=_;rw [yD h as];rfl
theorem a6g (ns:List Str):iP a7P (ns.map .str)=some ns:=yD (g:=.str) (fun _=>rfl) ns
section
variable {X:Cx} {x y d:PyData}
theorem b4j {op:Operator} {g:Int→Int→Int} {i j:Int} (ho:OpR X (binaryOp op) (rI0 fun i j=>.int (g i j))):OpD X op (.int i) (.int j) (.int (g i j)):=⟨_,ho,fun v u G H Q s rv ru q=>by
 cases rv;cases ru;exact ⟨_,_,rfl,rfl,q _ _ _ (.refl s) (.int _)⟩⟩
theorem a1x {op:Operator} {C:Int→Int→Prop} {g:Int→Int→Int} {i j:Int} (ho:OpR X (binaryOp op) (rI C fun i j=>.int (g i j))) (hc:C i j):OpD X op (.int i) (.int j) (.int (g i j)):=⟨_,ho,fun v u G H Q s rv ru q=>by
 cases rv;cases ru;exact ⟨_,_,rfl,rfl,hc,q _ _ _ (.refl s) (.int _)⟩⟩
def nZ (x y:PyData):Option PyData:=match x,y with
 | .int i,.int j=>some (.int (i+j))
 | .str i,.str j=>if dA (i.length+j.length) then some (.str (i++j)) else none
 | .list a,.list b=>if dA (a.length+b.length) then some (.list (a++b)) else none
 | .tuple a,.tuple b=>if dA (a.length+b.length) then some (.tuple (a++b)) else none
 | _,_=>none
theorem fI (x y d:PyData) (h:nZ x y=some d):OpD X .Add x y d:=by
 unfold nZ at h
 split at h
 ·cases (qA h);exact b4j b4i
 ·split at h
  ·rename_i i j hz
   cases (qA h)
   exact ⟨_,a4a,fun v u G H Q s rv ru q=>by cases rv;cases ru;exact ⟨_,_,rfl,rfl,fM hz,q _ _ _ (.refl s) (.str _)⟩⟩
  ·cases h
 ·split at h
  ·rename_i a b hz
   cases (qA h)
   exact ⟨_,a5m,fun v u G H Q s rv ru q=>by
    cases rv with
    | list h1 r1=>cases ru with
     | list h2 r2=>exact ⟨_,_,_,_,rfl,rfl,s.seq h1,s.seq h2,by rw [r1.length,r2.length];exact fM hz,fun l hl=>q _ _ _ (.put s hl) (.list (.of aJ) ((r1.append r2).mono (cF (s.free hl))))⟩⟩
  ·cases h
 ·split at h
  ·rename_i a b hz
   cases (qA h)
   exact ⟨_,b1b,fun v u G H Q s rv ru q=>by
    cases rv with
    | tuple h1 r1=>cases ru with
     | tuple h2 r2=>
      refine ⟨_,_,_,_,rfl,rfl,pU s h1,pU s h2,by rw [r1.length,r2.length];exact fM hz,fun z=>?_,fun z z2=>?_,fun _ _ l hl=>q _ _ _ (.put s hl) (.tuple (.of aJ) ((r1.append r2).mono (cF (s.free hl))))⟩
      ·subst z
       cases r1
       exact q _ G H (.refl s) (.tuple h2 r2)
      ·subst z2
       cases r2
       exact q _ G H (.refl s) (by rw [jx];exact .tuple h1 r1)⟩
  ·cases h
 ·cases h
def b7N (x y:PyData):Option PyData:=match x,y with
 | .int i,.int j=>some (.int (i - j))
 | _,_=>none
def lC (i:Int):Bool:=decide (-(2 ^ 64)<i)&&decide (i<2 ^ 64)
theorem a0h {i:Int} (h:lC i=true):-(2 ^ 64)<i∧i<2 ^ 64:=by
 unfold lC at h
 rw [qH] at h
 exact ⟨of_decide_eq_true h.1,of_decide_eq_true h.2⟩
def pX (x y:PyData):Option PyData:=match x,y with
 | .int i,.int j=>if lC i || lC j then some (.int (i*j)) else none
 | _,_=>none
theorem tK (x y d:PyData) (h:pX x y=some d):OpD X .Mult x y d:=by
 unfold pX at h
 split at h
 ·split at h
  ·rename_i hz
   cases (qA h)
   rw [kM] at hz
   exact a1x b4c (hz.imp a0h a0h)
  ·cases h
 ·cases h
def mZ (x y:PyData):Option PyData:=match x,y with
 | .int i,.int j=>if 0<j then some (.int (i % j)) else none
 | _,_=>none
theorem gG (x y d:PyData) (h:mZ x y=some d):OpD X .Mod x y d:=by
 unfold mZ at h
 split at h
 ·split at h
  ·rename_i hz
   cases (qA h)
   exact a1x b4d hz
  ·cases h
 ·cases h
def b1P (x y:PyData):Option PyData:=match x,y with
 | .int i,.int j=>if 0<j∧j<1073741824 then some (.int (i / j)) else none
 | _,_=>none
theorem b5g (x y d:PyData) (h:b1P x y=some d):OpD X .FloorDiv x y d:=by
 unfold b1P at h
 split at h
 ·split at h
  ·rename_i hz
   cases (qA h)
   exact a1x b1a hz
  ·cases h
 ·cases h
def ltD (x y:PyData):Option Bool:=match x,y with
 | .int i,.int j=>some (decide (i<j))
 | _,_=>none
def leD (x y:PyData):Option Bool:=match x,y with
 | .int i,.int j=>some (decide (i≤j))
 | .str i,.str j=>some (!decide (j.cps.toList<i.cps.toList))
 | _,_=>none
def gtD (x y:PyData):Option Bool:=match x,y with
 | .int i,.int j=>some (decide (j<i))
 | _,_=>none
def geD (x y:PyData):Option Bool:=match x,y with
 | .int i,.int j=>some (decide (j≤i))
 | _,_=>none
theorem b2R (x y:PyData) (t:Bool) (h:ltD x y=some t):CmpD X .Lt x y t:=by
 unfold ltD at h;split at h
 ·cases (qA h);exact b5A
 ·cases h
theorem a0A (x y:PyData) (t:Bool) (h:leD x y=some t):CmpD X .LtE x y t:=by
 unfold leD at h;split at h
 ·cases (qA h);exact b5B
 ·cases (qA h);exact b2l
 ·cases h
theorem b2U (x y:PyData) (t:Bool) (h:gtD x y=some t):CmpD X .Gt x y t:=by
 unfold gtD at h;split at h
 ·cases (qA h);exact cmp_gt
 ·cases h
theorem b6Z (x y:PyData) (t:Bool) (h:geD x y=some t):CmpD X .GtE x y t:=by
 unfold geD at h;split at h
 ·cases (qA h);exact b5C
 ·cases h
def eqD (x y:PyData):Option Bool:=match x,y with
 | .int i,.int j=>some (decide (i=j))
 | .str i,.str j=>some (decide (i=j))
 | .bool i,.bool j=>some (decide (i=j))
 | x,y=>if qa x&&qa y then some (jW x y) else none
def neD (x y:PyData):Option Bool:=match x,y with
 | .int i,.int j=>some (!decide (i=j))
 | .str i,.str j=>some (!decide (i=j))
 | .bool i,.bool j=>some (!decide (i=j))
 | x,y=>if qa x&&qa y then some (!PyData.eqv x y) else none
theorem a3g (hu:X.A.units+64<cLine) (x y:PyData) (t:Bool) (h:eqD x y=some t):CmpD X .Eq x y t:=by
 unfold eqD at h;split at h
 ·cases (qA h);exact b2p
 ·cases (qA h);exact b2o
 ·cases (qA h);exact b2q
 ·split at h
  ·rename_i hz
   rw [qH] at hz
   cases (qA h);exact b5D hu hz.1 hz.2
  ·cases h
theorem oU (hu:X.A.units+64<cLine) (x y:PyData) (t:Bool) (h:neD x y=some t):CmpD X .NotEq x y t:=by
 unfold neD at h;split at h
 ·cases (qA h);exact b2j
 ·cases (qA h);exact b2i
 ·cases (qA h);exact b2k
 ·split at h
  ·rename_i hz
   rw [qH] at hz
   cases (qA h);exact b5z hu hz.1 hz.2
  ·cases h
def inD (x y:PyData):Option Bool:=match x,wA y with
 | .int i,some ds=>(iP intD ds).map fun ns=>decide (i∈ns)
 | .str i,some ds=>(iP a7P ds).map fun ns=>decide (i∈ns)
 | _,_=>none
def b4x (x y:PyData):Option Bool:=(inD x y).map (!·)
theorem iR {K:qB} {G H:Hp} {v:V} {y:PyData} {ds:List PyData} (s:aM G H) (h:wA y=some ds) (r:Rep K G v y):∃ p vs,v=.ref p∧(SqL K H p vs∨SqT K H p vs)∧RepAll K G vs ds:=by
 cases r with
 | list hq r=>cases (qA h);exact ⟨_,_,rfl,.inl (s.seq hq),r⟩
 | tuple hq r=>cases (qA h);exact ⟨_,_,rfl,.inr (pU s hq),r⟩
 | dict _ _ _=>cases h
 | none=>cases h
 | bool _=>cases h
 | int _=>cases h
 | str _=>cases h
theorem b6T (x y:PyData) (t:Bool) (h:inD x y=some t):CmpD X .In x y t:=by
 unfold inD at h;split at h
 ·rename_i i ds e
  obtain ⟨ns,e2,rfl⟩:=qD.mp h
  have:=eA (g:=.int) (fun d a q=>oK q) e2
  subst this
  exact ⟨_,a0q,fun v u G H Q s rv ru q=>by
   obtain ⟨p,vs,rfl,hq,r⟩:=iR s e ru
   have e3:=r.ints
   subst e3
   cases rv
   exact ⟨p,_,rfl,hq,rfl,a0H ns,by rw [a3d];simpa using q⟩⟩
 ·rename_i i ds e
  obtain ⟨ns,e2,rfl⟩:=qD.mp h
  have:=eA (g:=.str) (fun d a q=>a1e q) e2
  subst this
  exact ⟨_,a0q,fun v u G H Q s rv ru q=>by
   obtain ⟨p,vs,rfl,hq,r⟩:=iR s e ru
   have e3:=r.strs
   subst e3
   cases rv
   exact ⟨p,_,rfl,hq,rfl,a0G ns,by rw [a3c];simpa using q⟩⟩
 ·cases h
theorem b4v (x y:PyData) (t:Bool) (h:b4x x y=some t):CmpD X .NotIn x y t:=by
 unfold b4x at h
 obtain ⟨t',hq,rfl⟩:=qD.mp h
 clear h
 unfold inD at hq;split at hq
 ·rename_i i ds e
  obtain ⟨ns,e2,rfl⟩:=qD.mp hq
  have:=eA (g:=.int) (fun d a q=>oK q) e2
  subst this
  exact ⟨_,pW,fun v u G H Q s rv ru q=>by
   obtain ⟨p,vs,rfl,hq,r⟩:=iR s e ru
   have e3:=r.ints
   subst e3
   cases rv
   exact ⟨p,_,rfl,hq,rfl,a0H ns,by rw [a3d];simpa using q⟩⟩
 ·rename_i i ds e
  obtain ⟨ns,e2,rfl⟩:=qD.mp hq
  have:=eA (g:=.str) (fun d a q=>a1e q) e2
  subst this
  exact ⟨_,pW,fun v u G H Q s rv ru q=>by
   obtain ⟨p,vs,rfl,hq,r⟩:=iR s e ru
   have e3:=r.strs
   subst e3
   cases rv
   exact ⟨p,_,rfl,hq,rfl,a0G ns,by rw [a3c];simpa using q⟩⟩
 ·cases hq
def xA (ds:List PyData):Option PyData:=match ds with
 | [.list xs]=>some (.int xs.length)
 | [.tuple xs]=>some (.int xs.length)
 | [.str z]=>if dA z.length then some (.int z.length) else none
 | _=>none
theorem pH (ds:List PyData) (d:PyData) (h:xA ds=some d):CallD X (.builtin "len") ds d:=by
 unfold xA at h;split at h
 ·cases (qA h)
  exact ⟨_,mU,fun vs G H Q s r q=>by
   cases r with | cons r rr=>cases rr;cases r with | list hq r=>exact ⟨_,_,rfl,.inl (s.seq hq),by rw [r.length];exact q _ G H (.refl s) (.int _)⟩⟩
 ·cases (qA h)
  exact ⟨_,mU,fun vs G H Q s r q=>by
   cases r with | cons r rr=>cases rr;cases r with | tuple hq r=>exact ⟨_,_,rfl,.inr (pU s hq),by rw [r.length];exact q _ G H (.refl s) (.int _)⟩⟩
 ·split at h
  ·rename_i hz
   cases (qA h)
   exact ⟨_,a2a,fun vs G H Q s r q=>by
    cases r with | cons r rr=>cases rr;cases r with | str z=>exact ⟨_,rfl,fM hz,q _ G H (.refl s) (.int _)⟩⟩
  ·cases h
 ·cases h
def b8g (ds:List PyData):Option PyData:=match ds with
 | [.int i,.int j]=>some (.int (max i j))
 | [.list xs]=>(match iP intD xs with | some (n::ns)=>some (.int (b6J (n::ns))) | _=>none)
 | _=>none
def b8e (ds:List PyData):Option PyData:=match ds with
 | [.int i,.int j]=>some (.int (min i j))
 | [.list xs]=>(match iP intD xs with | some (n::ns)=>some (.int (b6I (n::ns))) | _=>none)
 | _=>none
def allB (ds:List PyData):Option PyData:=match ds with
 | [.list xs]=>(iP nX xs).map fun ns=>.bool (ns.all id)
 | _=>none
theorem b0m (hc:X.calm=true) (ds:List PyData) (d:PyData) (h:allB ds=some d):CallD X (.builtin "all") ds d:=by
 unfold allB at h;split at h
 ·obtain ⟨ns,e,rfl⟩:=qD.mp h
  have:=eA (g:=.bool) (fun d a q=>nW q) e
  subst this
  exact ⟨_,a7h hc,fun vs G H Q s r q=>by
   cases r with | cons r rr=>cases rr;cases r with | list hq r=>
    have e:=r.bools
    subst e
    exact ⟨_,ns,rfl,s.seq hq,q _ G H (.refl s) (.bool _)⟩⟩
 ·cases h
def uW (ds:List PyData):Option PyData:=match ds with
 | [.list xs]=>some (.tuple xs)
 | [.tuple xs]=>some (.tuple xs)
 | _=>none
theorem sK (ds:List PyData) (d:PyData) (h:uW ds=some d):CallD X (.type "tuple") ds d:=by
 unfold uW at h;split at h
 ·cases (qA h)
  exact ⟨_,oX,fun vs G H Q s r q=>by
   cases r with | cons r rr=>cases rr;cases r with | list hq r=>exact ⟨_,_,rfl,.inl ⟨s.seq hq,fun l hl=>q _ _ _ (.put s hl) (.tuple (.of aJ) (r.mono (cF (s.free hl))))⟩⟩⟩
 ·cases (qA h)
  exact ⟨_,oX,fun vs G H Q s r q=>by
   cases r with | cons r rr=>cases rr;cases r with | tuple hq r=>exact ⟨_,_,rfl,.inr ⟨pU s hq,q _ G H (.refl s) (.tuple hq r)⟩⟩⟩
 ·cases h
def b6M (ds:List PyData):Option PyData:=match ds with
 | [.list xs]=>some (.list xs)
 | [.tuple xs]=>some (.list xs)
 | _=>none
def b8u (ds:List PyData):Option PyData:=match ds with
 | [.bool b]=>some (.int (if b then 1 else 0))
 | [.int i]=>some (.int i)
 | _=>none
def b3F (ds:List PyData):Option PyData:=match ds with
 | [.list xs]=>(match iP intD xs with | some ns=>if ns.length<64 then some (.list ((sortI ns).map .int)) else none | none=>none)
 | _=>none
theorem b3D (ds:List PyData) (d:PyData) (h:b3F ds=some d):CallD X (.builtin "sorted") ds d:=by
 unfold b3F at h;split at h
 ·split at h
  ·rename_i xs ns e
   split at h
   ·rename_i hl
    cases (qA h)
    have:=eA (g:=.int) (fun d a q=>oK q) e
    subst this
    exact ⟨_,a1Z,fun vs G H Q s r q=>by
     cases r with | cons r rr=>cases rr;cases r with | list hq r=>
      have e:=r.ints
      subst e
      exact ⟨_,ns,rfl,s.seq hq,hl,fun l hn=>q _ _ _ (.put s hn) (.list (.of aJ) (fC _))⟩⟩
   ·cases h
  ·cases h
 ·cases h
end
section
variable {X:Cx} {a b:Expr} {pos p p2:Pos} {fa fb:EF}
def a8Q:PyData→Option PyData
 | .int i=>some (.int (-i))
 | _=>none
def op1 (g:PyData→Option PyData) (fa:EF):EF:=fun ρ=>bnd (fa ρ) fun x=>lft (g x)
theorem a4z (ha:DE X a fa):DE X (.UnaryOp .USub a pos) (op1 a8Q fa):=⟨fun pins s σ H Q I ⟨ρ,r,H0,G₀,G,e,R,q⟩=>b6x b3r ha.run pins s σ H Q I (bE R e q.x fun x v G1 H1 g1 R1 rv e1=>by
 obtain ⟨d,ed,rfl⟩:=aW e1
 cases x with
 | int i=>cases (qA ed);cases rv;exact ⟨_,rfl,q _ _ _ g1 (.int _)⟩
 | none=>cases ed
 | bool _=>cases ed
 | str _=>cases ed
 | list _=>cases ed
 | tuple _=>cases ed
 | dict _=>cases ed)⟩
end
end L2.L3
namespace L2.L3
open PySem PySem.Spec PyProof.Rows
def a9Z (g1 g2 g3:PyData→PyData→Option Bool) (fa fb fc fd:EF):EF:=fun ρ=>bnd (fa ρ) fun x=>bnd (fb ρ) fun y=>bnd (lft (g1 x y)) fun t=>if t then bnd (fc ρ) fun z=>bnd (lft (g2 y z)) fun u=>if u then bnd (fd ρ) fun w=>lft ((g3 z w).map .bool) else some (.ok (.bool false)) else some (.ok (.bool false))
def isB (k x:PyData):Option Bool:=match k,x with
 | .none,.none=>some true
 | .none,.bool _=>some false
 | .none,.int _=>some false
 | .none,.str _=>some false
 | .none,.list _=>some false
 | .none,.tuple _=>some false
 | .none,.dict _=>some false
 | .bool a,.bool b=>some (b==a)
 | _,_=>none
def isE (neg:Bool) (k:PyData) (fa:EF):EF:=fun ρ=>bnd (fa ρ) fun x=>lft ((isB k x).map fun t=>.bool (neg != t))
def isT (neg:Bool) (k:PyData) (fa:EF):TF:=fun ρ=>bnd (fa ρ) fun x=>lft ((isB k x).map fun t=>neg != t)
abbrev OF:=List Ent→Mm (Option Int)
def tyI:PyData→Option Bool
 | .int _=>some true
 | .bool _=>some true
 | .dict _=>none
 | _=>some false
def tyB:PyData→Option Bool
 | .bool _=>some true
 | .dict _=>none
 | _=>some false
def tyS:PyData→Option Bool
 | .str _=>some true
 | .dict _=>none
 | _=>some false
def tyT:PyData→Option Bool
 | .tuple _=>some true
 | .dict _=>none
 | _=>some false
def b1I (T:String) (x:PyData):Option Bool:=if T = "int" then tyI x else if T = "bool" then tyB x else if T = "str" then tyS x else if T = "tuple" then tyT x else none
def isD (T:String) (x:PyData):Option PyData:=(b1I T x).map .bool
def xW (ns:List Int):List Int:=ns.foldl (fun a n=>if n∈a then a else a++[n]) []
def fU (ns:List Str):List Str:=ns.foldl (fun a n=>if n∈a then a else a++[n]) []
def cH (a b:Str):Bool:=!decide (b.cps.toList<a.cps.toList)
def gH (ns:List Str):List Str:=ns.mergeSort cH
def a0g (x:PyData):Option PyData:=match x with
 | .list xs=>(match iP intD xs with
  | some ns=>if ns.length<64 then some (.list ((sortI (xW ns)).map .int)) else none
  | none=>(match iP a7P xs with
   | some ns=>if ns.length<64 then some (.list ((gH (fU ns)).map .str)) else none
   | none=>none))
 | _=>none
end L2.L3
namespace L2.L3
open PySem PySem.Spec PyProof.Rows
section
variable {X:Cx} {e a b c d:Expr} {es:List Expr} {pos p p2:Pos} {fa fb fc fd:EF}
theorem b2g {o1 o2 o3:CmpOp} {g1 g2 g3:PyData→PyData→Option Bool} (h1:∀ x y t,g1 x y=some t→CmpD X o1 x y t) (h2:∀ x y t,g2 x y=some t→CmpD X o2 x y t) (h3:∀ x y t,g3 x y=some t→CmpD X o3 x y t)
  (ha:DE X a fa) (hb:DE X b fb) (hc:DE X c fc) (hd:DE X d fd) (hm:lastMarks [o1,o2,o3] [b,c,d]=false:=by with_unfolding_all rfl):DE X (.Compare a [o1,o2,o3] [b,c,d] pos) (a9Z g1 g2 g3 fa fb fc fd):=⟨fun pins s σ H Q I ⟨ρ,r,H0,G₀,G,ef,R,q⟩=>by
 refine Compare_chain (thn (ha.run pins s σ H (fun v H1=>rE X fb σ H1 fun u H2=>∃ x y G2 t,CmpD X o1 x y t∧Rep X.K G2 v x∧Rep X.K G2 u y∧RepS X.K H0 G₀ G2 H2 σ ρ∧a3y X H0 G₀ G2 ρ H2 Q r ∧
   (if t then bnd (fc ρ) fun z=>bnd (lft (g2 y z)) fun u=>if u then bnd (fd ρ) fun w=>lft ((g3 z w).map .bool) else some (.ok (.bool false)) else some (.ok (.bool false)))=some r) I
  (bE R ef q.x fun x v G1 H1 k1 R1 rv e1=>bE R1 e1 (q.more k1).x fun y u G2 H2 k2 R2 ru e2=>by
   rcases bU e2 with ⟨t,et,e3⟩ | ⟨_,et,_⟩
   ·obtain ⟨t',et',z⟩:=aW et
    cases z
    exact ⟨x,y,G2,_,h1 x y _ et',rv.mono k2.gg,ru,R2,(q.more k1).more k2,e3⟩
   ·obtain ⟨_,_,z⟩:=aW et;cases z)) fun v s1 ⟨xv,H1,I1,r1,q1⟩=>chain_link (thn (hb.run pins s1 σ H1 _ I1 q1) fun u s2 ⟨yv,H2,I2,r2,x,y,G2,t,ct,rx,ry,R2,q2,e3⟩=>?_)) hm
 obtain ⟨rr,hr1,hr2⟩:=ct.ex
 refine thn (hr1 pins s2 σ H2 xv yv v u (fun w H'=>w=.bl t∧H'=H2) I2 r1 r2 (hr2 xv yv G2 H2 _ R2.sub rx ry ⟨rfl,rfl⟩)) fun dv s3 ⟨z,H3,I3,r3,ez,eH⟩=>?_
 subst ez eH
 cases r3
 refine wpAny_truthy_bool ?_
 cases t with
 | false=>
  refine ite_ff ?_
  rw [if_neg (by decide)] at e3
  cases (qA e3)
  exact ⟨.bl false,H3,I3,rfl,q2 _ _ _ (.refl R2.sub) (.bool _)⟩
 | true=>
  refine ite_tt ?_
  rw [if_pos rfl] at e3
  refine chain_link (thn (hc.run pins s3 σ H3 (fun w H4=>∃ z G4 t,CmpD X o2 y z t∧Rep X.K G4 yv y∧Rep X.K G4 w z∧RepS X.K H0 G₀ G4 H4 σ ρ∧a3y X H0 G₀ G4 ρ H4 Q r ∧
    (if t then bnd (fd ρ) fun w=>lft ((g3 z w).map .bool) else some (.ok (.bool false)))=some r) I3
   (bE R2 e3 q2.x fun z w G4 H4 k4 R4 rw' e4=>by
    rcases bU e4 with ⟨t,et,e5⟩ | ⟨_,et,_⟩
    ·obtain ⟨t',et',z'⟩:=aW et
     cases z'
     exact ⟨z,G4,_,h2 y z _ et',ry.mono k4.gg,rw',R4,q2.more k4,e5⟩
    ·obtain ⟨_,_,z'⟩:=aW et;cases z')) fun w s4 ⟨wv,H4,I4,r4,z,G4,t,ct2,ry4,rz,R4,q4,e5⟩=>?_)
  obtain ⟨rr2,hr3,hr4⟩:=ct2.ex
  refine thn (hr3 pins s4 σ H4 yv wv u w (fun w H'=>w=.bl t∧H'=H4) I4 r2 r4 (hr4 yv wv G4 H4 _ R4.sub ry4 rz ⟨rfl,rfl⟩)) fun dv2 s5 ⟨z2,H5,I5,r5,ez2,eH2⟩=>?_
  subst ez2 eH2
  cases r5
  refine wpAny_truthy_bool ?_
  cases t with
  | false=>
   refine ite_ff ?_
   rw [if_neg (by decide)] at e5
   cases (qA e5)
   exact ⟨.bl false,H5,I5,rfl,q4 _ _ _ (.refl R4.sub) (.bool _)⟩
  | true=>
   refine ite_tt ?_
   rw [if_pos rfl] at e5
   refine chain_last (thn (hd.run pins s5 σ H5 (fun k H6=>∃ rr,OpR X (compareOp o3) rr∧rr wv k H6 Q) I5
    (bE R4 e5 q4.x fun wd k G6 H6 k6 R6 rk e6=>by
     obtain ⟨d',ed,rfl⟩:=aW e6
     obtain ⟨t,et,rfl⟩:=qD.mp ed
     obtain ⟨rr3,hr5,hr6⟩:=(h3 z wd t et).ex
     exact ⟨rr3,hr5,hr6 wv k G6 H6 Q k6.sub (rz.mono k6.gg) rk (q4 _ _ _ k6 (.bool _))⟩)) fun k s6 ⟨kv,H6,I6,r6,rr3,hr5,q6⟩=>hr5 pins s6 σ H6 wv kv w k Q I6 r4 r6 q6)⟩
theorem b4f:OpR X (compareOp .Is) (fun x y H Q=>∃ c d,x=.bl c∧y=.bl d∧Q (.bl (c==d)) H):=by
 intro pins s σ H x y v u Q I rx ry ⟨c,d,e1,e2,q⟩
 subst e1 e2
 cases rx;cases ry
 exact is_bool (bM I q rfl)
theorem b2n {x:PyData} {t:Bool} (h:isB .none x=some t):CmpD X .Is x .none t:=⟨_,b4e,fun v u G H Q s rv ru q=>by
 cases ru
 refine ⟨rfl,?_⟩
 cases rv<;>(have h:=qA h;subst h;simpa using q)⟩
theorem a9g {c:Bool} {x:PyData} {t:Bool} (h:isB (.bool c) x=some t):∃ d,x=.bool d∧t=(d==c):=by
 cases x<;>first | (cases h;done) | (exact ⟨_,rfl,(qA h).symm⟩)
theorem b2m {c:Bool} {x:PyData} {t:Bool} (h:isB (.bool c) x=some t):CmpD X .Is x (.bool c) t:=by
 obtain ⟨d,rfl,rfl⟩:=a9g h
 exact ⟨_,b4f,fun v u G H Q s rv ru q=>by cases rv;cases ru;exact ⟨_,_,rfl,rfl,q⟩⟩
def isG (neg:Bool) (k:PyData) (x y:PyData):Option Bool:=match k,y with
 | .none,.none=>(isB k x).map fun t=>neg != t
 | .bool a,.bool b=>if a=b then (isB k x).map fun t=>neg != t else none
 | _,_=>none
theorem b4X (neg:Bool) (k:PyData) (hk:k=.none∨∃ c,k=.bool c):isT neg k fa=gS (isG neg k) fa (cst k):=by
 funext ρ
 unfold isT gS cst
 cases fa ρ with
 | none=>rfl
 | some r=>cases r with
  | ex c=>rfl
  | ok x=>
   rcases hk with rfl | ⟨c,rfl⟩
   ·rfl
   ·show lft _=lft _;simp only [isG,if_pos]
theorem b4Y {k x y:PyData} {t:Bool} (h:isG false k x y=some t):CmpD X .Is x y t:=by
 unfold isG at h
 split at h
 ·obtain ⟨t',e,rfl⟩:=qD.mp h
  have:=b2n (X:=X) e
  cases t'<;>exact this
 ·split at h
  ·rename_i hab
   subst hab
   obtain ⟨t',e,rfl⟩:=qD.mp h
   have:=b2m (X:=X) e
   cases t'<;>exact this
  ·cases h
 ·cases h
theorem a4w {j} (ha:DE X a fa):DT X (.Compare a [.Is] [.Constant .none j p] pos) (isT false .none fa):=by rw [b4X _ _ (.inl rfl)];exact dC (fun _ _ _ h=>b4Y h) ha rO
end
end L2.L3
namespace L2.L3
open PySem PySem.Spec PyProof.Rows
section
variable {X:Cx} {a b:Expr} {elts:List Expr} {k0:Nat} {p0 pos p:Pos} {fa fb:EF}
end
end L2.L3
namespace L2.SX
open PySem
def oS (xs:Array Nat):Prop:=xs.toList.Pairwise (·<·)
theorem oS.lt {xs:Array Nat} (h:oS xs) {i j:Nat} (hij:i<j) (hj:j<xs.size):xs[i]<xs[j]:=by
 have:=List.pairwise_iff_getElem.mp h i j (by simpa using Nat.lt_trans hij hj) (by simpa using hj) hij
 simpa using this
theorem a9r {xs:Array Nat} {j:Nat} (h:oS xs):∀ (fuel lo hi:Nat),hi - lo≤fuel→lo≤hi→hi≤xs.size→(∀ i (hi':i<xs.size),i<lo→xs[i]<j)→(∀ i (hi':i<xs.size),hi≤i→j≤xs[i]) →
  kg xs j fuel lo hi≤xs.size∧(∀ i (hi':i<xs.size),i<kg xs j fuel lo hi→xs[i]<j)∧∀ i (hi':i<xs.size),kg xs j fuel lo hi≤i→j≤xs[i]
 | 0,lo,hi,hf,hl,hs,h1,h2=>by
  have:lo=hi:=by omega
  subst this
  unfold kg
  exact ⟨hs,h1,h2⟩
 | fuel+1,lo,hi,hf,hl,hs,h1,h2=>by
  unfold kg
  by_cases hlt:lo<hi
  ·rw [if_pos hlt]
   dsimp only
   have hm:(lo+hi) / 2<xs.size:=by omega
   have hg:xs.getD ((lo+hi) / 2) j=xs[(lo+hi) / 2]:=by simp [kS,hm]
   rw [hg]
   by_cases hc:xs[(lo+hi) / 2]<j
   ·rw [if_pos hc]
    refine a9r h fuel _ hi (by omega) (by omega) hs (fun i hi' hlt'=>?_) h2
    by_cases he:i=(lo+hi) / 2
    ·subst he;exact hc
    ·exact Nat.lt_trans (h.lt (by omega) hm) hc
   ·rw [if_neg hc]
    refine a9r h fuel lo _ (by omega) (by omega) (by omega) h1 (fun i hi' hge=>?_)
    by_cases he:i=(lo+hi) / 2
    ·subst he;omega
    ·have:=h.lt (i:=(lo+hi) / 2) (j:=i) (by omega) hi'
     omega
  ·rw [if_neg hlt]
   have:lo=hi:=by omega
   subst this
   exact ⟨hs,h1,h2⟩
theorem yA {xs:Array Nat} (h:oS xs) (j:Nat):qX xs j≤xs.size∧(∀ i (hi':i<xs.size),i<qX xs j→xs[i]<j)∧∀ i (hi':i<xs.size),qX xs j≤i→j≤xs[i]:=
 a9r h _ _ _ (by omega) (jA _) (qO _) (fun _ _ z=>absurd z (by omega)) (fun i hi' z=>absurd z (by omega))
theorem a4H {xs:Array Nat} (h:oS xs) {i:Nat} (hi:i<xs.size):qX xs (xs[i]+1)=i+1:=by
 obtain ⟨b1,b2,b3⟩:=yA h (xs[i]+1)
 have c1:¬qX xs (xs[i]+1)≤i:=fun z=>by have:=b3 i hi z;omega
 have c2:¬i+1<qX xs (xs[i]+1):=fun z=>by
  have lt:i+1<xs.size:=by omega
  have:=b2 (i+1) lt z
  have:=h.lt (i:=i) (j:=i+1) (by omega) lt
  omega
 omega
theorem a4G (xs:Array Nat) (h:oS xs):qX xs 0=0:=by
 obtain ⟨b1,b2,b3⟩:=yA h 0
 cases e:qX xs 0 with
 | zero=>rfl
 | succ n=>
  have:=b2 0 (by omega) (by omega)
  omega
theorem a7Z {xs:Array Nat} (h:oS xs) {j:Nat} (hn:xs[qX xs j]?≠some j):oS (SetTable.insertAt xs (qX xs j) j):=by
 obtain ⟨b1,b2,b3⟩:=yA h j
 unfold oS
 rw [SetTable.toList_insertAt,List.pairwise_append]
 have ne:∀ i (hi':i<xs.size),qX xs j≤i→j<xs[i]:=fun i hi' hge=>by
  have a:=b3 i hi' hge
  by_cases e:xs[i]=j
  ·exfalso
   by_cases e2:i=qX xs j
   ·exact hn (by rw [←e2];simp [hi',e])
   ·have lt:qX xs j<i:=by omega
    have:=h.lt (i:=qX xs j) (j:=i) lt hi'
    have:=b3 (qX xs j) (by omega) (qO _)
    omega
  ·omega
 refine ⟨h.sublist (List.take_sublist _ _),?_,fun a ha b hb=>?_⟩
 ·rw [jF]
  refine ⟨fun a ha=>?_,h.sublist (List.drop_sublist _ _)⟩
  obtain ⟨k,hk,e⟩:=kd.mp ha
  rw [List.getElem_drop] at e
  subst e
  have:qX xs j+k<xs.size:=by simpa using (by rw [List.length_drop,qR] at hk;omega:qX xs j+k<xs.size)
  have:=ne (qX xs j+k) this (by omega)
  simpa using this
 ·obtain ⟨k,hk,e⟩:=kd.mp ha
  rw [List.getElem_take] at e
  subst e
  rw [kZ,qR] at hk
  have k1:k<xs.size:=by omega
  have ak:=b2 k k1 (by omega)
  have ak':xs.toList[k]'(by simpa using k1)<j:=by simpa using ak
  rcases qM.mp hb with rfl | hb
  ·exact ak'
  ·obtain ⟨k',hk',e'⟩:=kd.mp hb
   rw [List.getElem_drop] at e'
   subst e'
   have k2:qX xs j+k'<xs.size:=by rw [List.length_drop,qR] at hk';omega
   have:=ne (qX xs j+k') k2 (by omega)
   have:j<xs.toList[qX xs j+k']'(by simpa using k2):=by simpa using this
   omega
structure TOk (t:SetTable) (led:Bool):Prop where
 led:t.led=led
 rise:t.plain=true→oS t.place
theorem TOk.fresh (led:Bool):TOk (SetTable.fresh 0 0 led) led:=⟨rfl,fun _=>by simp [SetTable.fresh,oS]⟩
theorem TOk.standIn {t:SetTable} {led:Bool} (h:TOk t led) (n:Nat):TOk (t.standIn n) led:=⟨h.led,fun z=>by cases z⟩
theorem TOk.off {t:SetTable} {led:Bool} (h:TOk t led):TOk { t with plain:=false } led:=⟨h.led,fun z=>by cases z⟩
theorem TOk.orStandIn {t:SetTable} {led:Bool} (h:TOk t led) (n:Nat):TOk (t.orStandIn n) led:=by
 unfold SetTable.orStandIn
 split
 ·exact h
 ·exact h.standIn n
theorem a6k {t:SetTable} {j:Nat} (h:t.slot j=.empty∨t.slot j=.dummy):t.place[qX t.place j]?≠some j:=by
 intro z
 have:t.slot j=.live (qX t.place j):=by
  unfold SetTable.slot
  dsimp only
  rw [if_pos (by rw [z];simp)]
 rcases h with h | h<;>(rw [this] at h;cases h)
theorem pE {t:SetTable} {f:Nat→Int} {h:Int}:∀ (fuel:Nat) (p:SetTable.Probe) (j:Nat) (d:Option Nat),(∀ k,p.dummy=some k→t.slot k=.dummy)→SetTable.probe.go t f h fuel p=some (.empty j d) →
  (t.slot j=.empty)∧∀ k,d=some k→t.slot k=.dummy
 | 0,p,j,d,_,e=>by unfold SetTable.probe.go at e;cases e
 | fuel+1,p,j,d,hd,e=>by
  unfold SetTable.probe.go at e
  split at e
  ·rename_i es
   cases (qA e)
   exact ⟨es,hd⟩
  ·rename_i es
   refine pE fuel _ j d (fun k hk=>?_) e
   have adv:∀ q:SetTable.Probe,(t.advance q).dummy=q.dummy:=fun q=>by unfold SetTable.advance;split<;>rfl
   rw [adv] at hk
   cases hk
   exact es
  ·split at e
   ·cases e
   ·refine pE fuel _ j d (fun k hk=>?_) e
    have adv:∀ q:SetTable.Probe,(t.advance q).dummy=q.dummy:=fun q=>by unfold SetTable.advance;split<;>rfl
    rw [adv] at hk
    exact hd k hk
theorem TOk.layNew {t:SetTable} {led:Bool} (h:TOk t led) (es:Array (Int×Value)) (hs:Int) (x:Value):TOk (layNew t es hs x).2.1 led:=by
 unfold PySem.layNew
 split
 ·rename_i slot wd e
  dsimp only
  have hput:TOk (t.put slot).1 led:=by
   refine ⟨h.led,fun hp=>?_⟩
   have hr:oS t.place:=h.rise hp
   refine a7Z hr (a6k ?_)
   unfold SetTable.freeSlot SetTable.probe at e
   split at e
   ·rename_i j d em
    obtain ⟨a,b⟩:=pE _ _ j d (fun k hk=>by simp [SetTable.probeStart] at hk) em
    cases (qA e)
    cases d with
    | none=>exact .inl a
    | some k=>exact .inr (b k rfl)
   ·cases e
  exact hput.orStandIn _
 ·exact h.standIn _
theorem TOk.relayAll {t:SetTable} {led:Bool} (h:TOk t led) (es:Array (Int×Value)) (wanted:Nat):TOk (relayAll t es wanted).2.1 led:=by
 unfold PySem.relayAll
 split
 ·rename_i t' order e
  dsimp only
  split
  ·unfold SetTable.relaid SetTable.laid at e
   cases ho:SetTable.layClean (SetTable.sizeAbove wanted - 1) (es.map (·.1)) with
   | none=>rw [ho] at e;cases e
   | some owner=>
    rw [ho] at e
    have e:=qA e
    have e1:=(congrArg Prod.fst e).symm
    dsimp only at e1
    subst e1
    refine ⟨h.led,fun _=>?_⟩
    show List.Pairwise (·<·) _
    simp only [za]
    rw [List.pairwise_map,List.pairwise_filterMap]
    refine List.pairwise_lt_range.imp ?_
    intro a b hab x hx y hy
    obtain ⟨u,_,rfl⟩:=qD.mp hx
    obtain ⟨v,_,rfl⟩:=qD.mp hy
    exact hab
  ·exact h.standIn _
 ·exact h.standIn _
end L2.SX
namespace L2.SX
open PySem PyProof.Rows
section
variable {prog:Program} {w:World} {K:Type} [DecidableEq K]
structure Good (knd:KeyKind prog w K) (h:Heap) (a:Addr) (ks:List K) (led:Bool):Prop where
 ex:∃ o es ep t,h.get? a=some o∧o.ExactSet∧o.data=.set es ep t∧ElemsOf knd es.toList∧(∀ k,k∈ks↔∃ e∈es.toList,knd.is k e.2=true)∧es.size=ks.length∧t.fits es.size=true∧TOk t led
 nd:ks.Nodup
 few:ks.length<scanBound
def addK (ks:List K) (k:K):List K:=if k∈ks then ks else ks++[k]
variable {knd:KeyKind prog w K} {A:Around} {E:Value→Shared→Prop} {s:Shared} {a:Addr} {ks:List K} {led:Bool}
theorem Good.keeps {h h':Heap} (g:Good knd h a ks led) (k:∀ o,h.get? a=some o→h'.get? a=some o):Good knd h' a ks led:=by
 obtain ⟨o,es,ep,t,ho,r⟩:=g.ex
 exact ⟨⟨o,es,ep,t,k o ho,r⟩,g.nd,g.few⟩
theorem stored {h:Heap} {o:Obj} {es es':Array (Int×Value)} {ep:Nat} {t t':SetTable} (ho:h.get? a=some o) (hd:o.data=.set es ep t):(h.update a (Obj.putSet es' t')).get? a=some { o with data:=.set es' (ep+1) t' }:=by
 have e:=putSet_of es' t' hd
 have q:=jj (Obj.putSet es' t') ho (by rw [e];rfl)
 rw [e] at q
 exact q
theorem fI {k:K} {x:Value} {Q:Bool→Shared→Prop} (hkey:knd.is k x=true) (hsc:x.scannable=true) (g:Good knd s.heap a ks led) (hroom:ks.length+1<scanBound)
  (h:∀ h' b,jk a s.heap h'→Good knd h' a (addK ks k) led→Q b { s with heap:=h' }):wpAny (model prog w) A (setAddHashed a x (knd.hash k)) Q E s:=by
 obtain ⟨o,es,ep,t,ho,hex,hd,hel,hmem,hn,hf,hT⟩:=g.ex
 have hb:es.size<scanBound:=by rw [hn];exact g.few
 unfold setAddHashed setAddHashedIn
 refine wpAny_holding (wpAny_bind (wpAny_setState_of ho hd hf ?_))
 dsimp only
 rw [byScan_of hsc hb hel]
 simp only [↓reduceIte]
 unfold setAddByScan
 refine wpAny_bind (wpAny_bind (wpAny_rule (wpAny_bind (wpAny_setScan_of hkey ho hd hf hel ?_))))
 cases hr:List.findIdx? (fun e=>knd.is k e.2) es.toList with
 | some j=>
  dsimp only
  obtain ⟨hj,hpj,_⟩:=List.findIdx?_eq_some_iff_getElem.mp hr
  have hk:k∈ks:=(hmem k).mpr ⟨es.toList[j],jM hj,hpj⟩
  refine wpAny_pure (wpAny_pure ?_)
  have q:=h s.heap false (Heap.SameBut.refl a s.heap) (by unfold addK;rw [if_pos hk];exact g)
  exact q
 | none=>
  dsimp only
  have hk:k∉ks:=fun z=>by
   obtain ⟨e,he,hp⟩:=(hmem k).mp z
   have:=List.findIdx?_eq_none_iff.mp hr e he
   rw [hp] at this
   cases this
  have gone:∀ (b:Bool) {s₁:Shared} {Q':Unit→Shared→Prop},Q' () s₁→wpAny (model prog w) A (match b with | true=>rule "set.scan.the-table-gave-way" | false=>pure ()) Q' E s₁:=by
   intro b s₁ Q' q
   cases b
   ·exact wpAny_pure q
   ·exact wpAny_rule q
  have hperm:=layNew_perm t es (knd.hash k) x
  have hfits:=layNew_fits t es (knd.hash k) x
  have hTL:=hT.layNew es (knd.hash k) x
  generalize layNew t es (knd.hash k) x=L at hperm hfits hTL ⊢
  obtain ⟨es1,t1,wd,gave⟩:=L
  dsimp only at hperm hfits hTL ⊢
  rw [Array.toList_push] at hperm
  have hel1:ElemsOf knd es1.toList:=(hel.push hkey hsc).perm hperm
  have hmem1:∀ k',k'∈addK ks k↔∃ e∈es1.toList,knd.is k' e.2=true:=by
   intro k'
   unfold addK
   rw [if_neg hk,qg,qh,hmem k']
   constructor
   ·rintro (⟨e,he,hp⟩ | rfl)
    ·exact ⟨e,hperm.mem_iff.mpr (jD _ he),hp⟩
    ·exact ⟨_,hperm.mem_iff.mpr (qW _ (qh.mpr rfl)),hkey⟩
   ·rintro ⟨e,he,hp⟩
    rcases qg.mp (hperm.mem_iff.mp he) with he | he
    ·exact .inl ⟨e,he,hp⟩
    ·rw [qh] at he
     subst he
     exact .inr (knd.inj x k' k hp hkey)
  have hlen:(addK ks k).length=ks.length+1:=by unfold addK;rw [if_neg hk];simp
  have hsz1:es1.size=(addK ks k).length:=by rw [hlen,←hn,←qR,hperm.length_eq];simp
  have hb1:es1.size<scanBound:=by rw [hsz1,hlen];exact hroom
  have hnd:(addK ks k).Nodup:=by
   unfold addK
   rw [if_neg hk,jh]
   exact ⟨g.nd,by simp,fun a ha b hb=>by rw [qh] at hb;subst hb;exact fun z=>hk (z▸ha)⟩
  have tail:∀ {gv:Bool→Sem Unit} (hgv:∀ (b:Bool) (s₁:Shared) (Q':Unit→Shared→Prop),Q' () s₁→wpAny (model prog w) A (gv b) Q' E s₁) {t2:SetTable},t2.fits es1.size=true→TOk t2 led→∀ {R:Option Bool→Shared→Prop},(∀ h',jk a s.heap h'→Good knd h' a (addK ks k) led→R (some true) { s with heap:=h' }) →
    wpAny (model prog w) A (do
     storeSet a es1 t2
     if (!wd&&t2.tooFull)=true then do
       gv (relayAll t2 es1 (kE es1.size)).2.2
       storeSet a (relayAll t2 es1 (kE es1.size)).1 (relayAll t2 es1 (kE es1.size)).2.1
       pure (some true)
      else pure (some true)) R E s:=by
   intro gv hgv t2 hf2 hT2 R hR
   refine wpAny_bind (wpAny_storeSet_of ho hd ?_ (fits_of_scanBound hb1))
   have ho1:=stored (es':=es1) (t':=t2) ho hd
   have sb1:=Heap.SameBut.update s.heap a (Obj.putSet es1 t2)
   split
   ·have p2:=relayAll_perm t2 es1 (kE es1.size)
    have f2:=relayAll_fits t2 es1 (kE es1.size)
    have hT3:=hT2.relayAll es1 (kE es1.size)
    generalize relayAll t2 es1 (kE es1.size)=W at p2 f2 hT3 ⊢
    obtain ⟨es2,t3,gv2⟩:=W
    dsimp only at p2 f2 hT3 ⊢
    have sz2:es2.size=es1.size:=by rw [←qR,p2.length_eq,qR]
    refine wpAny_bind (hgv _ _ _ ?_)
    refine wpAny_bind (wpAny_storeSet_of ho1 rfl ?_ (fits_of_scanBound (by rw [sz2];exact hb1)))
    have ho2:=stored (a:=a) (es':=es2) (t':=t3) ho1 rfl
    refine wpAny_pure (hR _ (sb1.trans (Heap.SameBut.update _ a _)) ⟨⟨_,es2,_,t3,ho2,hex,rfl,hel1.perm p2,fun k'=>(hmem1 k').trans ⟨fun ⟨e,he,q⟩=>⟨e,p2.mem_iff.mpr he,q⟩,fun ⟨e,he,q⟩=>⟨e,p2.mem_iff.mp he,q⟩⟩,by rw [sz2];exact hsz1,f2,hT3⟩,hnd,by rw [hlen];exact hroom⟩)
   ·exact wpAny_pure (hR _ sb1 ⟨⟨_,es1,_,t2,ho1,hex,rfl,hel1,hmem1,hsz1,hf2,hT2⟩,hnd,by rw [hlen];exact hroom⟩)
  refine wpAny_bind (gone _ ?_)
  split
  ·refine wpAny_bind ?_
   rw [hashByValue_scannable 8 hsc]
   refine wpAny_pure ?_
   split
   ·refine tail (fun b s₁ Q' q=>by cases b<;>first | exact wpAny_pure q | exact wpAny_rule q) hfits hTL fun h' sb gg=>?_
    dsimp only
    exact wpAny_pure (h h' true sb gg)
   ·refine tail (fun b s₁ Q' q=>by cases b<;>first | exact wpAny_pure q | exact wpAny_rule q) (SetTable.fits_plain_off hfits) hTL.off fun h' sb gg=>?_
    dsimp only
    exact wpAny_pure (h h' true sb gg)
  ·refine wpAny_bind (wpAny_pure ?_)
   simp only [↓reduceIte]
   refine tail (fun b s₁ Q' q=>by cases b<;>first | exact wpAny_pure q | exact wpAny_rule q) hfits hTL fun h' sb gg=>?_
   dsimp only
   exact wpAny_pure (h h' true sb gg)
end
section
variable {prog:Program} {w:World} {K:Type} [DecidableEq K] {knd:KeyKind prog w K} {A:Around} {R:Result→Shared→Prop} {I:Addr} {fp wr:List Addr} {G:Array GenState→Array GenState→Prop} {n:Nat} {P:Nat→Value→Prop} {St:Nat→Shared→Prop} {led:Bool}
def metK (val:Nat→K) (i:Nat):List K:=((jS i).map val).foldl addK []
theorem a0w (val:Nat→K) (i:Nat):metK val (i+1)=addK (metK val i) (val i):=by unfold metK;rw [List.range_succ,kI,List.foldl_append];rfl
theorem metK_len (val:Nat→K):∀ i,(metK val i).length≤i
 | 0=>by simp [metK]
 | i+1=>by
  have:=metK_len val i
  rw [a0w];unfold addK;split
  ·omega
  ·simp;omega
theorem b1u (W:WalksS prog w A.in1 I fp wr G n P St) (S:Addr) (hSf:S∉fp) (val:Nat→K) (hval:∀ i v,P i v→knd.is (val i) v=true∧v.scannable=true)
  (hpy:∀ i v (A':Around) (E':Value→Shared→Prop) (s':Shared) (Q':Int→Shared→Prop),P i v→Q' (knd.hash (val i)) { s' with toks:=s'.toks+1 }→wpAny (model prog w) A' (pyHash v) Q' E' s') (hb:n+1<scanBound) :
  ∀ (m i:Nat) (s:Shared),n - i=m→i≤n→St i s→Good knd s.heap S (metK val i) led→(∀ s',Moved (S::wr) G s s'→Good knd s'.heap S (metK val n) led→R (.ok (.ret .none)) s') →
   codeAny (model prog w) A (.builtin "set.update.loop" ⟨[.ref S,.ref I],[]⟩) R s:=by
 have nw:S∉wr:=fun z=>hSf (W.sub _ z)
 have up:∀ b∈wr,b∈S::wr:=fun b hb=>qE _ hb
 intro m
 induction m with
 | zero=>
  intro i s hm hi st g hR
  obtain rfl:i=n:=by omega
  refine codeAny_builtin F.entry_set_update_loop ?_
  rw [ja vA _]
  show wpAny _ A.in1 (pyNext (.ref I)>>=_) _ _ s
  refine wpAny_bind (W.done s _ _ st fun s' mv=>?_)
  exact wpAny_pure (hR s' (mv.mono up) (g.keeps fun o e=>mv.heap S o nw e))
 | succ m ih=>
  intro i s hm hi st g hR
  have lt:i<n:=by omega
  refine codeAny_builtin F.entry_set_update_loop ?_
  rw [ja vA _]
  show wpAny _ A.in1 (pyNext (.ref I)>>=_) _ _ s
  refine wpAny_bind (W.item i s _ _ lt st fun v s' pv st' mv=>?_)
  have g':=g.keeps (h':=s'.heap) fun o e=>mv.heap S o nw e
  obtain ⟨hk,hsc⟩:=hval i v pv
  show wpAny _ A.in1 (holding [v] (setAdd S v)>>=_) _ _ s'
  refine wpAny_bind (wpAny_holding ?_)
  unfold setAdd
  refine wpAny_holding (wpAny_bind (hpy i v _ _ _ _ pv ?_))
  have room:(metK val i).length+1<scanBound:=by have:=metK_len val i;omega
  refine fI (knd:=knd) (s:={ s' with toks:=s'.toks+1 }) hk hsc g' room fun h' b sb g2=>?_
  rw [←a0w] at g2
  refine wpAny_pure ⟨plainId_quiet vA _,ih (i+1) _ (by omega) lt (W.frame _ s' _ _ st' (ju _) fun c hc o e=>?_) g2 fun s'' mv'' g''=>?_⟩
  ·rw [sb.2 c (fun z:c=S=>hSf (z▸hc))]
   exact e
  ·refine hR s'' (Moved.trans W.gtrans ((mv.mono up).then_heap (ju _) fun c o hc e=>?_) mv'') g''
   rw [sb.2 c (fun z:c=S=>hc (by rw [z];exact qd))]
   exact e
end
end L2.SX
namespace L2.SX
open PySem PyProof.Rows
def ledOf (w:World):Bool:=!w.params.followText "set-order"
abbrev fW (w:World):Obj:={ cls:=.type "set", dict:=none,data:=.set #[] 0 (.fresh 0 0 (ledOf w)) }
section
variable {prog:Program} {w:World} {A:Around} {E:Value→Shared→Prop} {s:Shared} {K:Type} [DecidableEq K] {knd:KeyKind prog w K}
theorem a9p (h:Heap):Good knd (h.push (fW w)) h.objs.size [] (ledOf w):=
 ⟨⟨_,#[],0,_,qK _ rfl,⟨rfl,rfl,rfl⟩,rfl,fun e he=>by simp at he,fun k=>by simp,rfl,rfl,.fresh _⟩,List.nodup_nil,by show 0<scanBound;decide⟩
theorem new_one (v:Value) {Q1:Value→Shared→Prop} (h:Q1 (.ref s.heap.objs.size) { s with heap:=s.heap.push (fW w) }):codeAny (model prog w) A (.call (.builtin "set.__new__") ⟨[.type "set", v],[]⟩) (wants Q1 E) s:=by
 refine codeAny_of_tree ?_
 show wpAny _ A.in1 (checkBuiltinCall "set.__new__" ⟨[.type "set", v],[]⟩>>=fun _=>again (.builtin "set.__new__" ⟨[.type "set", v],[]⟩)) _ _ s
 refine wpAny_bind (wpAny_of_eq (F.newCall_set_1 v) (wpAny_pure ⟨plainId_quiet F.plain_set_new _,codeAny_builtin F.entry_set_new ?_⟩))
 rw [ja F.plain_set_new _]
 unfold Builtin.«set.__new__» Builtin.Frozenset.newClass
 have sub:=sub_set_self
 obtain ⟨hp,gs,dr,tk,os⟩:=s
 dsimp only
 wp_walk
 refine wpAny_askSetting (wpAny_pure ?_)
 dsimp only [newObj]
 exact wpAny_bind (wpAny_alloc (wpAny_pure (wpAny_pure h)))
theorem set_of {l:Addr} {items:Array Value} {val:Nat→K} {Q:Value→Shared→Prop} (hh:A.handled=none) (hl:s.heap.IsList l items) (hval:∀ i v,items[i]?=some v→knd.is (val i) v=true∧v.scannable=true)
  (hpy:∀ i v (A':Around) (E':Value→Shared→Prop) (s':Shared) (Q':Int→Shared→Prop),items[i]?=some v→Q' (knd.hash (val i)) { s' with toks:=s'.toks+1 }→wpAny (model prog w) A' (pyHash v) Q' E' s') (hb:items.size+1<scanBound)
  (h:∀ (h':Heap) (tk:Nat),Good knd h' s.heap.objs.size (metK val items.size) (ledOf w)→(∀ b o,b<s.heap.objs.size→s.heap.get? b=some o→h'.get? b=some o)→Q (.ref s.heap.objs.size) { s with heap:=h',toks:=tk }) :
  wpAny (model prog w) A (call (.type "set") [.ref l]) Q E s:=by
 obtain ⟨c,tl,hmro⟩:=kP.mro
 have hmade:=kP.made
 have hsub:=kP.sub
 refine wpAny_call (codeAny_of_tree ?_)
 show wpAny _ _ (callAny (.type "set") ⟨[.ref l],[]⟩) _ _ _
 refine wpAny_pure ⟨Code.quiet_builtin _ (by decide +kernel),codeAny_builtin F.entry_type_call ?_⟩
 rw [Around.under_plain (weight_type_call_type "set" [.ref l] []) rfl]
 have n1:=kP.notType
 have n2:=kP.canCreate
 have n3:=F.typeCall_set_1 (.ref l)
 repeat (any_goals (first | assumption | wp_step))
 refine codeAny_mono (new_one (.ref l) (E:=E) (Q1:=fun ob s1=>ob=.ref s.heap.objs.size∧s1={ s with heap:=s.heap.push (fW w) }) ⟨rfl,rfl⟩) fun r s1 hr=>?_
 cases r with
 | error e=>exact hr
 | ok fl=>
  cases fl with
  | ret ob=>
   obtain ⟨rfl,rfl⟩:=hr
   have hS:(s.heap.push (fW w)).get? s.heap.objs.size=some (fW w):=qK _ rfl
   have hT:Shared.TypeIs { s with heap:=s.heap.push (fW w) } (.ref s.heap.objs.size) "set" := ⟨_,hS,rfl⟩
   have k1:=kP.init.lookup
   have k2:=kP.init.bind (.ref s.heap.objs.size)
   repeat (any_goals (first | assumption | wp_step))
   refine codeAny_mono (codeAny_call_builtin (R:=wants (fun r s2=>r=.none∧∃ h' tk,s2={ s with heap:=h',toks:=tk }∧Good knd h' s.heap.objs.size (metK val items.size) (ledOf w)∧∀ b o,b<s.heap.objs.size→s.heap.get? b=some o→h'.get? b=some o) E)
    kP.init.plain F.entry_set_init (check_set_init_1 hT ?_)) fun r2 s2 hr2=>?_
   ·obtain ⟨ol,g0,c0,nl,d0⟩:=hl
    obtain ⟨ocl,odc,odt,osl⟩:=ol
    dsimp only at c0 d0
    subst c0 d0
    have g1:(s.heap.push (fW w)).get? l=some { cls:=.type "list", dict:=odc,data:=.seq items nl,slots:=osl }:=qC _ g0
    have s1:=F.sub_list_set
    have s2:=F.sub_list_frozenset
    have ne:(kN "list" == kN "dict")=false:=by decide
    have L1:(s.heap.push (fW w)).IsList l items:=⟨_,g1,rfl,nl,rfl⟩
    unfold Builtin.«set.__init__» noKeywords Builtin.Frozenset.updateFrom
    generalize hI:pyIter=PI
    wp_walk
    subst hI
    refine wpAny_pyIter_list L1 (wpAny_bind (wpAny_runValue ?_))
    have lt:l<s.heap.objs.size:=qG g0
    have h3:A.in1.in1.in1.handled=none:=by simp [hh]
    have nI:l≠(s.heap.push (fW w)).objs.size:=by
     rw [jJ];exact qU (jY lt)
    have nf:s.heap.objs.size∉[(s.heap.push (fW w)).objs.size,l]:=by
     rw [jJ]
     intro z
     rcases qM.mp z with z | z
     ·exact absurd z (qU (kY _))
     ·rw [qh] at z
      exact absurd z (kC lt)
    refine b1u (knd:=knd) (led:=ledOf w) ((Walks.list h3 _ l nI items).toS) s.heap.objs.size nf val hval hpy hb (items.size - 0) 0 _ (by omega) (jA _) ⟨⟨_,qK _ rfl,rfl,rfl⟩,L1.push _⟩ ?g0 ?gR
    case g0=>exact (a9p (knd:=knd) s.heap).keeps fun o e=>qC _ e
    case gR=>
     intro s' mv g'
     obtain ⟨h',gs',dr',tk',os'⟩:=s'
     obtain rfl:gs'=s.gens:=mv.gens
     obtain rfl:dr'=s.drawn:=mv.drawn
     obtain rfl:os'=s.os:=mv.os
     show wpAny _ _ _ _ _ _
     refine wpAny_pure ?_
     show wpAny _ _ (ret jf) _ _ _
     refine wpAny_pure ⟨rfl,h',tk',rfl,g',fun b o hb' e=>?_⟩
     refine mv.heap b o (fun z=>?_) (qC _ (qC _ e))
     rcases qM.mp z with z | z
     ·exact absurd z (qU hb')
     ·rw [qh,jJ] at z
      exact absurd z (qU (jY hb'))
   ·cases r2 with
    | error e=>exact hr2
    | ok fl2=>
     cases fl2 with
     | ret r=>
      obtain ⟨rfl,h',tk,rfl,g',kp⟩:=hr2
      repeat (any_goals (first | assumption | wp_step))
      exact h _ _ g' kp
     | _=>exact hr2.elim
  | _=>exact hr.elim
end
end L2.SX
namespace L2.SX
open PySem PyProof.Rows
theorem slot_next:Slot "set_iterator" "__next__" "set_iterator.__next__" :=
 .of (owner := "set_iterator") (n := "__next__") (by rw [typeLookup_type,builtinLookup_eq_fast];kernel_rfl) (by decide +kernel) (by decide +kernel) (by decide +kernel) (by first | exact .inl (by decide +kernel) | exact .inr (by decide +kernel)) (by rw [isSubtype_type];kernel_rfl)
theorem entry_next:entryFor table "set_iterator.__next__" = some Builtin.«set_iterator.__next__»:=entryFor_of_fast (by kernel_rfl)
theorem args_next (v:Value):argsOk "set_iterator.__next__" ⟨[v],[]⟩:=by unfold argsOk;kernel_rfl
theorem a4u:entryFor table "set.__iter__" = some Builtin.«frozenset.__iter__»:=entryFor_alias (id' := "frozenset.__iter__") (by kernel_rfl) rfl (by decide +kernel) (by kernel_rfl)
abbrev itO (f0:Value) (i:Nat) (a:Addr) (n ep:Nat):Obj:={ cls:=.type "set_iterator", data:=.fields #[f0,rawInt i,.ref a,rawInt n,rawInt ep] }
structure SetAt (h:Heap) (a:Addr) (es:Array (Int×Value)) (ep:Nat) (t:SetTable):Prop where
 ex:∃ o,h.get? a=some o∧o.cls=.type "set" ∧ o.data=.set es ep t
 fits:t.fits es.size=true
section
variable {prog:Program} {w:World} {A:Around} {E:Value→Shared→Prop} {s:Shared} {a I:Addr} {es:Array (Int×Value)} {ep i:Nat} {t:SetTable}
theorem SetAt.keeps {h h':Heap} (g:SetAt h a es ep t) (k:∀ o,h.get? a=some o→h'.get? a=some o):SetAt h' a es ep t:=by
 obtain ⟨o,ho,r⟩:=g.ex
 exact ⟨⟨o,k o ho,r⟩,g.fits⟩
theorem SetAt.state {Q:(Array (Int×Value)×Nat×SetTable)→Shared→Prop} (g:SetAt s.heap a es ep t) (h:Q (es,ep,t) s):wpAny (model prog w) A (setState a) Q E s:=by
 obtain ⟨o,ho,_,hd⟩:=g.ex
 exact wpAny_setState_of ho hd g.fits h
theorem SetAt.entries {Q:Array (Int×Value)→Shared→Prop} (g:SetAt s.heap a es ep t) (h:Q es s):wpAny (model prog w) A (setEntries a) Q E s:=by
 unfold setEntries
 exact wpAny_bind (g.state (wpAny_pure h))
theorem next_item {f0:Nat} {x:Value} {nx:Nat} {Q:Option Value→Shared→Prop} (hI:s.heap.get? I=some (itO (rawInt f0) i a es.size ep)) (g:SetAt s.heap a es ep t)
  (hn:∀ (A':Around) (E':Value→Shared→Prop) (Q':Option (Value×Nat)→Shared→Prop),Q' (some (x,nx)) s→wpAny (model prog w) A' (setNext a f0 i ep) Q' E' s)
  (hQ:∀ h',h'.get? I=some (itO (rawInt nx) (i+1) a es.size ep)→jk I s.heap h'→Q (some x) { s with heap:=h' }):wpAny (model prog w) A (pyNext (.ref I)) Q E s:=by
 have hT:s.TypeIs (.ref I) "set_iterator" := ⟨_,hI,rfl⟩
 unfold pyNext
 refine wpAny_bind (wpAny_attempt (wpAny_callSpecial?_slot (name:=zf "__next__") hT slot_next (wpAny_call_entry slot_next hT entry_next ?_ (args_next _))))
 unfold Builtin.«set_iterator.__next__»
 generalize hSE:setEntries=SE
 generalize hSN:setNext=SN
 generalize hSF:setField=SF
 wp_walk
 subst hSE hSN hSF
 refine g.entries ?_
 dsimp only
 rw [if_neg (by simp)]
 show wpAny _ A.in1 (setNext a (f0:Int).toNat (i:Int).toNat (ep:Int).toNat>>=_) _ _ s
 rw [jI,jI,jI]
 refine wpAny_bind (hn _ _ _ ?_)
 dsimp only
 refine wpAny_bind (wpAny_setField_rec hI (by simp) fun h1 g1 s1=>?_)
 refine wpAny_bind (wpAny_setField_rec g1 (by simp) fun h2 g2 s2=>?_)
 refine wpAny_pure ⟨x,rfl,wpAny_pure (hQ h2 ?_ (s1.trans s2))⟩
 rw [g2]
 simp [itO,rawInt]
theorem next_end {f0:Nat} {Q:Option Value→Shared→Prop} (hh:A.handled=none) (hI:s.heap.get? I=some (itO (rawInt f0) i a es.size ep)) (g:SetAt s.heap a es ep t)
  (hn:∀ (A':Around) (E':Value→Shared→Prop) (Q':Option (Value×Nat)→Shared→Prop),Q' none s→wpAny (model prog w) A' (setNext a f0 i ep) Q' E' s)
  (hQ:∀ h',Heap.ExtBut I s.heap h'→Q none { s with heap:=h' }):wpAny (model prog w) A (pyNext (.ref I)) Q E s:=by
 have hT:s.TypeIs (.ref I) "set_iterator" := ⟨_,hI,rfl⟩
 unfold pyNext
 refine wpAny_bind (wpAny_attempt (wpAny_callSpecial?_slot (name:=zf "__next__") hT slot_next (wpAny_call_entry slot_next hT entry_next ?_ (args_next _))))
 unfold Builtin.«set_iterator.__next__»
 generalize hSE:setEntries=SE
 generalize hSN:setNext=SN
 generalize hSF:setField=SF
 generalize hNE:newExc=NE
 generalize hRN:@raiseNew=RN
 wp_walk
 subst hSE hSN hSF hNE hRN
 refine g.entries ?_
 dsimp only
 rw [if_neg (by simp)]
 show wpAny _ A.in1 (setNext a (f0:Int).toNat (i:Int).toNat (ep:Int).toNat>>=_) _ _ s
 rw [jI,jI,jI]
 refine wpAny_bind (hn _ _ _ ?_)
 dsimp only
 refine wpAny_bind (wpAny_setField_rec hI (by simp) fun h1 g1 s1=>?_)
 refine wpAny_bind ?_
 dsimp only [newExc,newTuple]
 refine wpAny_bind (wpAny_newObj_type ?_ (by size_fits))
 refine wpAny_bind (m:=firstArgMember _ _) (wpAny_of_eq (a:=jf) (by first | rfl | (simp only [firstArgMember];rfl)) ?_)
 refine wpAny_newObj_type ?_ (by size_fits)
 dsimp only [raiseNew]
 refine wpAny_bind (wpAny_handled ?_)
 rw [show A.in1.handled=none from hh]
 refine wpAny_bind (wpAny_pure (wpAny_throw ?_))
 refine wpAny_bind (wpAny_isInstance (T := "StopIteration") (b:=true) ⟨_,qK _ rfl,rfl⟩ isSubtype_stop ?_)
 exact wpAny_pure (hQ _ ((s1.extBut.push _).push _))
end
end L2.SX
namespace L2.SX
open PySem PyProof.Rows
section
variable {prog:Program} {w:World} {A:Around} {E:Value→Shared→Prop} {s:Shared} {a I T:Addr} {es:Array (Int×Value)} {ep i:Nat} {t:SetTable}
abbrev plO (pl:List Nat):Obj:={ cls:=.type "tuple", data:=.seq (pl.map fun (k:Nat)=>rawInt k).toArray }
theorem a4b {pl:List Nat} {p:Nat} {hx:Int} {x:Value} {Q:Option Value→Shared→Prop} (hI:s.heap.get? I=some (itO (.ref T) i a es.size ep)) (hT:s.heap.get? T=some (plO pl)) (g:SetAt s.heap a es ep t) (hp:pl[i]?=some p) (he:es[p]?=some (hx,x))
  (hQ:∀ h',h'.get? I=some (itO (.ref T) (i+1) a es.size ep)→jk I s.heap h'→Q (some x) { s with heap:=h' }):wpAny (model prog w) A (pyNext (.ref I)) Q E s:=by
 have hty:s.TypeIs (.ref I) "set_iterator" := ⟨_,hI,rfl⟩
 unfold pyNext
 refine wpAny_bind (wpAny_attempt (wpAny_callSpecial?_slot (name:=zf "__next__") hty slot_next (wpAny_call_entry slot_next hty entry_next ?_ (args_next _))))
 unfold Builtin.«set_iterator.__next__»
 generalize hSE:setEntries=SE
 generalize hSN:setNextDrawn=SN
 generalize hSF:setField=SF
 generalize hSI:seqItems?=SI
 wp_walk
 subst hSE hSN hSF hSI
 refine g.entries ?_
 dsimp only
 rw [if_neg (by simp)]
 show wpAny _ A.in1 (seqItems? (.ref T)>>=_) _ _ s
 refine wpAny_bind (wpAny_seqItems hT rfl ?_)
 dsimp only
 have e1:(pl.map fun (k:Nat)=>rawInt k).toArray[(i:Int).toNat]?=some (rawInt p):=by
  rw [jI,zN,qJ,hp];rfl
 rw [e1]
 show wpAny _ A.in1 (setNextDrawn a (p:Int).toNat (ep:Int).toNat>>=_) _ _ s
 rw [jI,jI]
 unfold setNextDrawn
 refine wpAny_bind (wpAny_bind (g.state ?_))
 dsimp only
 rw [if_neg (by simp),he]
 refine wpAny_pure ?_
 refine wpAny_bind (wpAny_setField_rec hI (by simp) fun h1 g1 s1=>?_)
 refine wpAny_pure ⟨x,rfl,wpAny_pure (hQ h1 ?_ s1)⟩
 rw [g1]
 simp [itO,rawInt]
theorem a6C {pl:List Nat} {Q:Option Value→Shared→Prop} (hh:A.handled=none) (hI:s.heap.get? I=some (itO (.ref T) i a es.size ep)) (hT:s.heap.get? T=some (plO pl)) (g:SetAt s.heap a es ep t) (hp:pl[i]?=none)
  (hQ:∀ h',Heap.ExtBut I s.heap h'→Q none { s with heap:=h' }):wpAny (model prog w) A (pyNext (.ref I)) Q E s:=by
 have hty:s.TypeIs (.ref I) "set_iterator" := ⟨_,hI,rfl⟩
 unfold pyNext
 refine wpAny_bind (wpAny_attempt (wpAny_callSpecial?_slot (name:=zf "__next__") hty slot_next (wpAny_call_entry slot_next hty entry_next ?_ (args_next _))))
 unfold Builtin.«set_iterator.__next__»
 generalize hSE:setEntries=SE
 generalize hSF:setField=SF
 generalize hSI:seqItems?=SI
 generalize hNE:newExc=NE
 generalize hRN:@raiseNew=RN
 wp_walk
 subst hSE hSF hSI hNE hRN
 refine g.entries ?_
 dsimp only
 rw [if_neg (by simp)]
 show wpAny _ A.in1 (seqItems? (.ref T)>>=_) _ _ s
 refine wpAny_bind (wpAny_seqItems hT rfl ?_)
 dsimp only
 have e1:(pl.map fun (k:Nat)=>rawInt k).toArray[(i:Int).toNat]?=none:=by
  rw [jI,zN,qJ,hp];rfl
 rw [e1]
 dsimp only
 refine wpAny_bind (wpAny_setField_rec hI (by simp) fun h0 g0 s0=>?_)
 refine wpAny_bind (wpAny_setField_rec g0 (by simp) fun h1 g1 s1=>?_)
 refine wpAny_bind ?_
 dsimp only [newExc,newTuple]
 refine wpAny_bind (wpAny_newObj_type ?_ (by size_fits))
 refine wpAny_bind (m:=firstArgMember _ _) (wpAny_of_eq (a:=jf) (by first | rfl | (simp only [firstArgMember];rfl)) ?_)
 refine wpAny_newObj_type ?_ (by size_fits)
 dsimp only [raiseNew]
 refine wpAny_bind (wpAny_handled ?_)
 rw [show A.in1.handled=none from hh]
 refine wpAny_bind (wpAny_pure (wpAny_throw ?_))
 refine wpAny_bind (wpAny_isInstance (T := "StopIteration") (b:=true) ⟨_,qK _ rfl,rfl⟩ isSubtype_stop ?_)
 exact wpAny_pure (hQ _ (((s0.trans s1).extBut.push _).push _))
theorem a5w {α:Type} (next:Nat→Nat):∀ (fuel k:Nat) (left:List α) (out:Array α),left.length=fuel→(pickOrder.go next fuel k left out).toList.Perm (out.toList++left)
 | 0,k,left,out,h=>by
  have:left=[]:=kJ.mp h
  subst this
  simp [pickOrder.go]
 | fuel+1,k,left,out,h=>by
  unfold pickOrder.go
  have lt:next k % left.length<left.length:=Nat.mod_lt _ (by omega)
  rw [qN lt]
  dsimp only
  refine (a5w next fuel (k+1) _ _ (by rw [List.length_eraseIdx,if_pos lt];omega)).trans ?_
  rw [Array.toList_push,zw]
  refine List.Perm.append_left _ ?_
  show (left[next k % left.length]::left.eraseIdx (next k % left.length)).Perm left
  generalize next k % left.length=m at lt
  rw [zu]
  have e:left=left.take m++left[m]::left.drop (m+1):=by rw [List.getElem_cons_drop,List.take_append_drop]
  refine List.Perm.trans ?_ (List.Perm.of_eq e.symm)
  exact List.perm_middle.symm
theorem tI {α:Type} (next:Nat→Nat) (xs:Array α):(pickOrder next xs).toList.Perm xs.toList:=by
 unfold pickOrder
 have:=a5w next xs.size 0 xs.toList #[] (by simp)
 simpa using this
theorem b5Y (hb:w.params.followText "set-order" = true) {Q:Array (Int×Value)→Shared→Prop} (g:SetAt s.heap a es ep t) (h:Q (pickOrder (w.params.setOrder a ep) es) s):wpAny (model prog w) A (setWalk a) Q E s:=by
 unfold setWalk
 refine wpAny_bind (g.state ?_)
 dsimp only
 unfold setsByText
 refine wpAny_bind (wpAny_bind (wpAny_askSetting (wpAny_pure ?_)))
 show wpAny _ _ (if w.params.followText "set-order" = true then _ else _) _ _ s
 rw [if_pos hb]
 exact wpAny_bind (wpAny_askSetting (wpAny_pure h))
theorem nextT (hb:w.params.followText "set-order" = true) {f0:Nat} {Q:Option (Value×Nat)→Shared→Prop} (g:SetAt s.heap a es ep t) (h:Q (((pickOrder (w.params.setOrder a ep) es)[i]?).map fun e=>(e.2,f0)) s):wpAny (model prog w) A (setNext a f0 i ep) Q E s:=by
 unfold setNext
 refine wpAny_bind (g.state ?_)
 dsimp only
 refine wpAny_bind ?_
 unfold setsByText
 refine wpAny_bind (wpAny_askSetting (wpAny_pure ?_))
 show wpAny _ _ (if w.params.followText "set-order" = true then _ else _) _ _ s
 rw [if_pos hb,if_neg (by simp)]
 refine wpAny_bind ?_
 exact b5Y hb g (wpAny_pure h)
theorem b2Q (hb:w.params.followText "set-order" = false) (hnd:(!t.plain&&decide (es.size > 1))=false) (hl:t.led=true) {f0:Nat} {Q:Option (Value×Nat)→Shared→Prop} (g:SetAt s.heap a es ep t)
  (h:Q (match es[qX t.place f0]?,t.place[qX t.place f0]? with | some (_,x),some j=>some (x,j+1) | _,_=>none) s):wpAny (model prog w) A (setNext a f0 i ep) Q E s:=by
 unfold setNext
 refine wpAny_bind (g.state ?_)
 dsimp only
 refine wpAny_bind ?_
 unfold setsByText
 refine wpAny_bind (wpAny_askSetting (wpAny_pure ?_))
 show wpAny _ _ (if w.params.followText "set-order" = true then _ else (if (!t.plain&&decide (es.size > 1))=true then _ else _)) _ _ s
 rw [hb,if_neg (by decide),hnd,if_neg (by decide)]
 show wpAny _ _ ((if (!t.led&&!es.isEmpty)=true then unsupported "set:maker-not-led" else pure PUnit.unit)>>=fun _=>_) _ _ s
 rw [hl]
 rw [if_neg (by simp)]
 exact wpAny_bind (wpAny_pure (wpAny_pure h))
end
end L2.SX
namespace L2.SX
open PySem PyProof.Rows
theorem a7g {M:Model} {A:Around} {E:Value→Shared→Prop} {s:Shared} {src:Source} {n:Nat} {Q:Nat→Shared→Prop} (hn:n≠0) (h:∀ k,k<n→Q k { s with drawn:=s.drawn.bump src }):wpAny M A (choose src n) Q E s:=fun Γ p hΓ=>by
 unfold choose
 rw [Sem.wp_choose]
 exact ⟨hn,h _ (Nat.mod_lt _ (by omega))⟩
theorem a5H {α:Type} {M:Model} {A:Around} {E:Value→Shared→Prop}:∀ (n:Nat) (xs:List α) (s:Shared) (Q:List α→Shared→Prop),xs.length=n→(∀ ys d',ys.Perm xs→Q ys { s with drawn:=d' })→wpAny M A (drawOrder n xs) Q E s
 | 0,xs,s,Q,hn,h=>by
  have:xs=[]:=kJ.mp hn
  subst this
  unfold drawOrder
  exact wpAny_pure (h [] s.drawn .nil)
 | n+1,[],s,Q,hn,h=>by cases hn
 | n+1,x::xs,s,Q,hn,h=>by
  unfold drawOrder
  refine wpAny_bind (a7g (by simp) fun k hk=>?_)
  rw [qN hk]
  dsimp only
  refine wpAny_bind (a5H n _ _ _ (by rw [List.length_eraseIdx,if_pos hk];omega) fun ys d' hp=>wpAny_pure (h _ d' ?_))
  refine (hp.cons _).trans ?_
  generalize hL:x::xs=left at hk ⊢
  rw [zu]
  have e:left=left.take k++left[k]::left.drop (k+1):=by rw [List.getElem_cons_drop,List.take_append_drop]
  exact List.perm_middle.symm.trans (List.Perm.of_eq e.symm)
theorem slot_self:Slot "set_iterator" "__iter__" "set_iterator.__iter__" :=
 .of (owner := "set_iterator") (n := "__iter__") (by rw [typeLookup_type,builtinLookup_eq_fast];kernel_rfl) (by decide +kernel) (by decide +kernel) (by decide +kernel) (by first | exact .inl (by decide +kernel) | exact .inr (by decide +kernel)) (by rw [isSubtype_type];kernel_rfl)
theorem entry_self:entryFor table "set_iterator.__iter__" = some Builtin.«dict_keyiterator.__iter__»:=entryFor_alias (id' := "dict_keyiterator.__iter__") (by kernel_rfl) rfl (by decide +kernel) (by kernel_rfl)
theorem args_self (v:Value):argsOk "set_iterator.__iter__" ⟨[v],[]⟩:=by unfold argsOk;kernel_rfl
theorem sR {prog:Program} {w:World} {A:Around} {E:Value→Shared→Prop} {s:Shared} {I:Addr} {Q:Value→Shared→Prop} (hty:s.TypeIs (.ref I) "set_iterator") (h:Q (.ref I) s):wpAny (model prog w) A (pyIter (.ref I)) Q E s:=by
 refine wpAny_pyIter_slot hty slot_self (wpAny_call_entry slot_self hty entry_self ?_ (args_self _))
 show wpAny _ _ (ret (.ref I)) _ _ s
 exact wpAny_pure ⟨_,rfl, "set_iterator", _,hty,slot_next.lookup,h⟩
section
variable {prog:Program} {w:World} {E:Value→Shared→Prop} {a I T:Addr} {es:Array (Int×Value)} {ep:Nat} {t:SetTable}
theorem b3l (hb:w.params.followText "set-order" = true) (hne:a≠I) {A:Around} (hh:A.handled=none):Walks prog w A I [I,a] [I] es.size (fun i v=>((pickOrder (w.params.setOrder a ep) es).toList.map (·.2))[i]?=some v)
  (fun i h=>h.get? I=some (itO (rawInt 0) i a es.size ep)∧SetAt h a es ep t) where
 sub:=fun b hb=>by simp at hb;simp [hb]
 frame:=fun i h h' st kp=>⟨kp I (by simp) _ st.1,st.2.keeps fun o e=>kp a (by simp) o e⟩
 item:=fun i s Q E hi st hQ=>by
  have hl:(pickOrder (w.params.setOrder a ep) es).size=es.size:=by rw [←qR,(tI _ _).length_eq,qR]
  have hi':i<(pickOrder (w.params.setOrder a ep) es).size:=by omega
  refine next_item st.1 st.2 (x:=(pickOrder (w.params.setOrder a ep) es)[i].2) (nx:=0) (fun A' E' Q' q=>nextT hb st.2 (by rw [qo hi'];exact q)) fun h' g1 s1=>?_
  refine hQ _ h' s.toks ?_ ⟨g1,st.2.keeps fun o e=>s1.extBut _ _ hne e⟩ fun b o hb e=>s1.extBut b o (by simpa using hb) e
  rw [qJ,jK,qo hi']
  rfl
 done:=fun s Q E st hQ=>by
  have hl:(pickOrder (w.params.setOrder a ep) es).size=es.size:=by rw [←qR,(tI _ _).length_eq,qR]
  refine next_end hh st.1 st.2 (fun A' E' Q' q=>nextT hb st.2 (by rw [Array.getElem?_eq_none (by omega)];exact q)) fun h' x=>hQ h' s.toks fun b o hb e=>x b o (by simpa using hb) e
 self:=fun i s Q E st hQ=>by
  have hty:s.TypeIs (.ref I) "set_iterator" := ⟨_,st.1,rfl⟩
  exact sR hty hQ
def slotAt (t:SetTable):Nat→Nat
 | 0=>0
 | i+1=>t.place.getD i 0+1
theorem rX {n:Nat} (hr:oS t.place) (hn:t.place.size=n):∀ i,i≤n→qX t.place (slotAt t i)=i
 | 0,_=>a4G _ hr
 | i+1,h=>by
  have lt:i<t.place.size:=by omega
  show qX t.place (t.place.getD i 0+1)=i+1
  have:t.place.getD i 0=t.place[i]:=by simp [kS,lt]
  rw [this]
  exact a4H hr lt
theorem b3n (hb:w.params.followText "set-order" = false) (hnd:(!t.plain&&decide (es.size > 1))=false) (hl:t.led=true) (hr:oS t.place) (hp:t.place.size=es.size) (hne:a≠I) {A:Around} (hh:A.handled=none) :
  Walks prog w A I [I,a] [I] es.size (fun i v=>(es.toList.map (·.2))[i]?=some v) (fun i h=>i≤es.size∧h.get? I=some (itO (rawInt (slotAt t i)) i a es.size ep)∧SetAt h a es ep t) where
 sub:=fun b hb=>by simp at hb;simp [hb]
 frame:=fun i h h' st kp=>⟨st.1,kp I (by simp) _ st.2.1,st.2.2.keeps fun o e=>kp a (by simp) o e⟩
 item:=fun i s Q E hi st hQ=>by
  have hi':i<t.place.size:=by omega
  have bl:=rX hr hp i (by omega)
  refine next_item st.2.1 st.2.2 (x:=es[i].2) (nx:=slotAt t (i+1)) (fun A' E' Q' q=>b2Q hb hnd hl st.2.2 (by
   rw [bl,qo hi,qo hi']
   have:slotAt t (i+1)=t.place[i]+1:=by show t.place.getD i 0+1=_;simp [kS,hi']
   rw [this] at q
   exact q)) fun h' g1 s1=>?_
  refine hQ _ h' s.toks ?_ ⟨hi,g1,st.2.2.keeps fun o e=>s1.extBut _ _ hne e⟩ fun b o hb e=>s1.extBut b o (by simpa using hb) e
  rw [qJ,jK,qo hi]
  rfl
 done:=fun s Q E st hQ=>by
  have bl:=rX hr hp es.size (qO _)
  refine next_end hh st.2.1 st.2.2 (fun A' E' Q' q=>b2Q hb hnd hl st.2.2 (by
   rw [bl,Array.getElem?_eq_none (qO _)]
   exact q)) fun h' x=>hQ h' s.toks fun b o hb e=>x b o (by simpa using hb) e
 self:=fun i s Q E st hQ=>sR ⟨_,st.2.1,rfl⟩ hQ
theorem b3m {pl:List Nat} (hpl:pl.Perm (jS es.size)) (hne:a≠I) (hTI:T≠I) {A:Around} (hh:A.handled=none) :
  Walks prog w A I [I,a,T] [I] es.size (fun i v=>(pl.map fun k=>(es.toList.map (·.2)).getD k .none)[i]?=some v) (fun i h=>h.get? I=some (itO (.ref T) i a es.size ep)∧h.get? T=some (plO pl)∧SetAt h a es ep t) where
 sub:=fun b hb=>by simp at hb;simp [hb]
 frame:=fun i h h' st kp=>⟨kp I (by simp) _ st.1,kp T (by simp) _ st.2.1,st.2.2.keeps fun o e=>kp a (by simp) o e⟩
 item:=fun i s Q E hi st hQ=>by
  have hlen:pl.length=es.size:=by rw [hpl.length_eq,zB]
  have hi':i<pl.length:=by omega
  have hm:pl[i]∈jS es.size:=hpl.mem_iff.mp (jM hi')
  have hlt:pl[i]<es.size:=zV.mp hm
  refine a4b (p:=pl[i]) (hx:=es[pl[i]].1) (x:=es[pl[i]].2) st.1 st.2.1 st.2.2 (qN hi') (qo hlt) fun h' g1 s1=>?_
  refine hQ _ h' s.toks ?_ ⟨g1,s1.extBut _ _ hTI st.2.1,st.2.2.keeps fun o e=>s1.extBut _ _ hne e⟩ fun b o hb e=>s1.extBut b o (by simpa using hb) e
  rw [qJ,qN hi']
  simp [zO,hlt]
 done:=fun s Q E st hQ=>by
  have hlen:pl.length=es.size:=by rw [hpl.length_eq,zB]
  exact a6C hh st.1 st.2.1 st.2.2 (jB (by omega)) fun h' x=>hQ h' s.toks fun b o hb e=>x b o (by simpa using hb) e
 self:=fun i s Q E st hQ=>sR ⟨_,st.1,rfl⟩ hQ
theorem a3X {α:Type} (xs:List α) (d:α) {pl:List Nat} (h:pl.Perm (jS xs.length)):(pl.map fun k=>xs.getD k d).Perm xs:=by
 refine (h.map _).trans (List.Perm.of_eq ?_)
 apply jH
 intro i
 rw [qJ]
 by_cases hi:i<xs.length
 ·rw [zb hi,qN hi];simp [zO,hi]
 ·rw [jB (by simpa using hi),jB (by omega)];rfl
theorem a9b {A:Around} {s:Shared} {Q:Value→Shared→Prop} (g:SetAt s.heap a es ep t) (hT:TOk t (ledOf w)) (few:es.size≤sizeLine)
  (h:∀ (h':Heap) (d':Drawn) (I:Addr) (vs:List Value) (fp:List Addr) (St:Nat→Heap→Prop),vs.Perm (es.toList.map (·.2))→(∀ b o,s.heap.get? b=some o→h'.get? b=some o)→s.heap.objs.size≤I→I∈fp→(∀ b∈fp,b=a∨s.heap.objs.size≤b) →
   (∀ A':Around,A'.handled=none→Walks prog w A' I fp [I] es.size (fun i v=>vs[i]?=some v) St)→St 0 h'→Q (.ref I) { s with heap:=h',drawn:=d' }) :
  wpAny (model prog w) A (pyIter (.ref a)) Q E s:=by
 obtain ⟨o,ho,hc,hd⟩:=g.ex
 have hty:s.TypeIs (.ref a) "set" := ⟨o,ho,hc⟩
 have lt:a<s.heap.objs.size:=qG ho
 have hpl:t.place.size=es.size:=by
  have:=g.fits
  simp only [SetTable.fits,qH,beq_iff_eq] at this
  exact this.1
 refine wpAny_pyIter_slot hty F.slot_set_iter (wpAny_call_entry F.slot_set_iter hty a4u ?_ (F.args_set_iter_1 _))
 unfold Builtin.«frozenset.__iter__»
 generalize hSD:setDrawn=SD
 generalize hSE:setEpoch=SE
 generalize hSZ:Builtin.Frozenset.sizeOf=SZ
 wp_walk
 subst hSD hSE hSZ
 unfold Builtin.Frozenset.sizeOf
 refine wpAny_bind (g.entries (wpAny_pure ?_))
 have fin:∀ (f0:Value) (s2:Shared),SetAt s2.heap a es ep t→Q (.ref s2.heap.objs.size) { s2 with heap:=s2.heap.push (itO f0 0 a es.size ep) } →
   wpAny (model prog w) A.in1 (setEpoch a>>=fun e=>newFields "set_iterator" [f0,rawInt 0,qi a,rawInt (es.size:Nat),rawInt (e:Nat)]>>=fun v=>ret v) (fun fin s'=>∃ v,fin=Fin.done (Flow.ret v)∧∃ T' r,s'.TypeIs v T'∧typeLookup (kN T') (zf "__next__")=pure (some r)∧Q v s') E s2:=by
  intro f0 s2 g2 q
  refine wpAny_bind ?_
  unfold setEpoch
  refine wpAny_bind (g2.state (wpAny_pure ?_))
  refine wpAny_bind ?_
  unfold newFields
  exact wpAny_newObj_type (wpAny_pure ⟨_,rfl, "set_iterator", _,⟨_,qK _ rfl,rfl⟩,slot_next.lookup,q⟩) (by size_fits)
 have plain:∀ (vs:List Value) (St:Nat→Heap→Prop),vs.Perm (es.toList.map (·.2))→(∀ A':Around,A'.handled=none→Walks prog w A' s.heap.objs.size [s.heap.objs.size,a] [s.heap.objs.size] es.size (fun i v=>vs[i]?=some v) St) →
   St 0 (s.heap.push (itO (rawInt 0) 0 a es.size ep))→Q (.ref s.heap.objs.size) { s with heap:=s.heap.push (itO (rawInt 0) 0 a es.size ep) }:=by
  intro vs St hp W st
  refine h _ s.drawn s.heap.objs.size vs [s.heap.objs.size,a] St hp (fun b o e=>qC _ e) (qO _) (by simp) (fun b hb=>?_) W st
  rcases qM.mp hb with z | z
  ·exact .inr (by rw [z];exact qO _)
  ·exact .inl (qh.mp z)
 have hne:a≠s.heap.objs.size:=qU lt
 have g1:SetAt (s.heap.push (itO (rawInt 0) 0 a es.size ep)) a es ep t:=g.keeps fun o e=>qC _ e
 refine wpAny_bind ?_
 unfold setDrawn
 refine wpAny_bind (g.state ?_)
 dsimp only
 unfold setsByText
 refine wpAny_bind (wpAny_bind (wpAny_askSetting (wpAny_pure (wpAny_pure ?_))))
 show wpAny _ _ (if (!w.params.followText "set-order" && (!t.plain&&decide (es.size > 1)))=true then _ else _) _ _ s
 cases hbt:w.params.followText "set-order" with
 | true=>
  rw [if_neg (by simp)]
  refine wpAny_bind (wpAny_pure ?_)
  exact fin (rawInt 0) s g (plain _ _ ((tI _ _).map _) (fun A' hA=>b3l hbt hne hA) ⟨qK _ rfl,g1⟩)
 | false=>
  have hled:t.led=true:=by rw [hT.led];unfold ledOf;rw [hbt];rfl
  cases hdr:(!t.plain&&decide (es.size > 1)) with
  | false=>
   rw [if_neg (by simp)]
   refine wpAny_bind (wpAny_pure ?_)
   have hr:oS t.place:=by
    cases hp:t.plain with
    | true=>exact hT.rise hp
    | false=>
     rw [hp] at hdr
     have:¬es.size > 1:=by simpa using hdr
     unfold oS
     have hl:t.place.toList.length≤1:=by rw [qR];omega
     match t.place.toList,hl with
     | [],_=>exact .nil
     | [x],_=>exact List.pairwise_singleton _ _
   exact fin (rawInt 0) s g (plain _ _ (.refl _) (fun A' hA=>b3n hbt hdr hled hr hpl hne hA) ⟨jA _,qK _ rfl,g1⟩)
  | true=>
   rw [if_pos (by simp)]
   refine wpAny_bind (a5H es.size (jS es.size) s _ (by simp) fun pl d' hpl'=>?_)
   refine wpAny_bind ?_
   unfold newTuple
   refine wpAny_newObj_type ?_ (by
    have h1:pl.length=es.size:=by rw [hpl'.length_eq,zB]
    show (pl.map fun (k:Nat)=>rawInt k).toArray.size≤sizeLine
    rw [qI,qQ,h1]
    exact few)
   have g2:SetAt (s.heap.push (plO pl)) a es ep t:=g.keeps fun o e=>qC _ e
   refine fin (.ref s.heap.objs.size) { s with heap:=s.heap.push (plO pl),drawn:=d' } g2 ?_
   have sz:(s.heap.push (plO pl)).objs.size=s.heap.objs.size+1:=jJ ..
   have hp2:(pl.map fun k=>(es.toList.map (·.2)).getD k jf).Perm (es.toList.map (·.2)):=a3X _ _ (by simpa using hpl')
   refine h _ d' (s.heap.push (plO pl)).objs.size _ [(s.heap.push (plO pl)).objs.size,a,s.heap.objs.size] _ hp2 (fun b o e=>qC _ (qC _ e)) (by rw [sz];exact ju _) (by simp) (fun b hb=>?_)
    (fun A' hA=>b3m (ep:=ep) (t:=t) hpl' (by rw [sz];exact qU (jY lt)) (by rw [sz];exact qU (kY _)) hA) ⟨qK _ rfl,qC _ (qK _ rfl),g2.keeps fun o e=>qC _ e⟩
   rcases qM.mp hb with z | z
   ·exact .inr (by rw [z,sz];exact ju _)
   ·rcases qM.mp z with z | z
    ·exact .inl z
    ·rw [qh] at z;exact .inr (by rw [z];exact qO _)
end
end L2.SX
namespace L2.SX
open PySem PyProof.Rows
theorem b0B:typeLookup (.type "set") "__len__" = pure (some (.builtin "set.__len__")):=by rw [typeLookup_type,builtinLookup_eq_fast];kernel_rfl
section
variable {prog:Program} {w:World} {E:Value→Shared→Prop} {a:Addr} {es:Array (Int×Value)} {ep:Nat} {t:SetTable}
theorem a3n {A:Around} {s:Shared} {Q:List Value→Shared→Prop} (hh:A.handled=none) (g:SetAt s.heap a es ep t) (hT:TOk t (ledOf w)) (few:es.size≤sizeLine)
  (hQ:∀ (h':Heap) (d':Drawn) (tk:Nat) (vs:List Value),vs.Perm (es.toList.map (·.2))→(∀ b o,s.heap.get? b=some o→h'.get? b=some o)→s.heap.objs.size<h'.objs.size→Q vs { s with heap:=h',drawn:=d',toks:=tk }) :
  wpAny (model prog w) A (collect (.ref a)) Q E s:=by
 obtain ⟨o,ho,hc,_⟩:=g.ex
 have lt:a<s.heap.objs.size:=qG ho
 unfold collect
 refine wpAny_bind (wpAny_runValue (codeAny_builtin F.entry_proto_collect ?_))
 rw [ja F.plain_proto_collect _]
 show wpAny _ A.in1 (newList []>>=fun l=>again (.builtin "list.__iadd__" ⟨[l,.ref a],[]⟩)) _ _ s
 refine wpAny_bind (wpAny_newObj_type ?_)
 refine wpAny_pure ⟨plainId_quiet zQ _,codeAny_builtin F.entry_list_iadd ?_⟩
 rw [ja zQ _]
 have g1:SetAt (s.heap.push { cls:=.type "list", data:=.seq ([]:List Value).toArray }) a es ep t:=g.keeps fun o e=>qC _ e
 have hS1:(s.heap.push { cls:=.type "list", data:=.seq ([]:List Value).toArray }).get? s.heap.objs.size=some { cls:=.type "list", data:=.seq ([]:List Value).toArray }:=qK _ rfl
 have ty1:Shared.TypeIs { s with heap:=s.heap.push { cls:=.type "list", data:=.seq ([]:List Value).toArray } } (.ref a) "set" := ⟨o,qC _ ho,hc⟩
 show wpAny _ A.in1 (jP (.ref s.heap.objs.size) (.ref a) (.ref s.heap.objs.size)) _ _ _
 unfold jP
 refine wpAny_bind (wpAny_typeOf ty1 ?_)
 have e1:Builtin.List.listSameRef (.ref s.heap.objs.size) (.ref a)=false:=by simp [Builtin.List.listSameRef,kC lt]
 have e2:(kN "set" == kN "list")=false:=by decide
 have e3:(kN "set" == kN "tuple")=false:=by decide
 simp only [e1,e2,e3,zm,jp,if_false]
 refine wpAny_bind (a9b (w:=w) g1 hT few fun h' d' I vs fp St hp kp hI hIf hfp W st=>?_)
 have ty2:Shared.TypeIs { s with heap:=h',drawn:=d' } (.ref a) "set" := ⟨o,kp a o (qC _ ho),hc⟩
 refine wpAny_bind (wpAny_holding ?_)
 have hint:∀ Q':Bool→Shared→Prop,Q' false { s with heap:=h',drawn:=d' }→wpAny (model prog w) A.in1 (Builtin.List.listLengthHint (.ref a)) Q' E { s with heap:=h',drawn:=d' }:=by
  intro Q' q
  unfold Builtin.List.listLengthHint
  refine wpAny_bind (wpAny_specialOf ty2 b0B ?_)
  generalize hid:("set.__len__" : String)=i0
  wp_delta
  rw [show splitId i0=some ("set", "__len__") from by rw [←hid];decide +kernel]
  rw [←hid]
  refine wpAny_bind (wpAny_isInstance (T := "set") (b:=true) ty2 sub_set_self ?_)
  refine wpAny_ite_split (fun z=>absurd z (by decide)) fun _=>?_
  refine wpAny_ite_split (fun _=>?_) fun z=>absurd (by decide +kernel) z
  exact wpAny_bind (wpAny_typeOf ty2 (wpAny_pure q))
 refine hint _ ?_
 have hSf:s.heap.objs.size∉fp:=fun hm=>by
  rcases hfp _ hm with z | z
  ·exact absurd z (kC lt)
  ·rw [jJ] at z;exact absurd z (Nat.not_succ_le_self _)
 refine wpAny_ite_split (fun _=>?_) fun z=>absurd (by decide +kernel) z
 have hS2:=kp _ _ hS1
 refine wpAny_bind (wpAny_rule ?_)
 refine wpAny_bind ?_
 show wpAny _ A.in1 (updateSeq s.heap.objs.size (·.push .none)>>=fun _=>updateSeq s.heap.objs.size (·.pop)) _ _ _
 refine wpAny_bind (wpAny_updateSeq hS2 rfl ?_)
 have hS3:=jj (jX (·.push jf)) hS2 rfl
 refine wpAny_updateSeq hS3 rfl ?_
 have hS4:=jj (jX (·.pop)) hS3 rfl
 have oth:∀ b o,b≠s.heap.objs.size→h'.get? b=some o→((h'.update s.heap.objs.size (jX (·.push jf))).update s.heap.objs.size (jX (·.pop))).get? b=some o:=
  fun b o hb e=>by rw [qY _ _ (qr hb),qY _ _ (qr hb)];exact e
 have W1:=W A.in1 hh
 refine wpAny_pure ⟨plainId_quiet F.plain_extend_loop _,codeAny_extend_loopS W1.toS few _ hSf _ es.size 0 _ _ _ rfl (jA _)
  (W1.frame 0 _ _ st fun b hb o e=>oth b o (fun z=>hSf (z▸hb)) e) hS4 (ItemsOf.nil _) fun s' acc' c' hm hS' hacc=>?_⟩
 show wpAny _ A (load s.heap.objs.size>>=_) _ _ s'
 refine wpAny_bind (wpAny_load hS' (wpAny_pure ?_))
 have hv:acc'.toList=vs:=by
  have hl:vs.length=es.size:=by rw [hp.length_eq];simp
  refine jH fun i=>?_
  by_cases hi:i<es.size
  ·have h1:i<acc'.size:=by rw [hacc.1];exact hi
   have h2:=hacc.2 i _ (qo h1)
   rw [h2,jK,qo h1]
  ·rw [jB (by rw [qR,hacc.1];omega),jB (by rw [hl];omega)]
 show Q acc'.toList s'
 rw [hv,Moved.eq_with hm]
 refine hQ s'.heap d' s'.toks vs hp (fun b o e=>?_) (qG hS')
 have hb:b≠s.heap.objs.size:=qU (qG e)
 refine hm.heap b o (fun hmem=>?_) (oth b o hb (kp b o (qC _ e)))
 rcases qM.mp hmem with z | z
 ·exact hb z
 ·rw [qh] at z
  rw [jJ] at hI
  have q:=qG e
  rw [z] at q
  exact jG _ (qP (jY q) hI)
end
end L2.SX
namespace L2.SX
open PySem PyProof.Rows
theorem a5e {α:Type} [DecidableEq α]:∀ (ks qs:List α),ks.Nodup→(∀ k∈ks,k∈qs)→qs.length=ks.length→qs.Perm ks
 | [],[],_,_,_=>.refl _
 | k::ks,qs,hn,hm,hl=>by
  have h1:=List.perm_cons_erase (hm k (by simp))
  have hn':=jv.mp hn
  refine h1.trans (.cons k (a5e ks _ hn'.2 (fun x hx=>?_) ?_))
  ·exact (List.mem_erase_of_ne (fun z=>by rw [z] at hx;exact hn'.1 hx)).mpr (hm x (by simp [hx]))
  ·have:=h1.length_eq;simp only [qb] at this hl;omega
section
variable {prog:Program} {w:World} {K:Type} [DecidableEq K] {knd:KeyKind prog w K}
inductive Keys (knd:KeyKind prog w K):List Value→List K→Prop
 | nil:Keys knd [] []
 | cons {v k vs ks}:knd.is k v=true→Keys knd vs ks→Keys knd (v::vs) (k::ks)
theorem Keys.len {vs ks} (h:Keys knd vs ks):ks.length=vs.length:=by induction h<;>simp [*]
theorem Keys.mem {vs ks} (h:Keys knd vs ks) {v:Value} {k:K} (hv:v∈vs) (e:knd.is k v=true):k∈ks:=by
 induction h with
 | nil=>cases hv
 | cons h1 _ ih=>
  rcases qM.mp hv with z | z
  ·subst z;rw [knd.inj _ _ _ e h1];simp
  ·exact qE _ (ih z)
theorem a5s:∀ (es:List (Int×Value)),ElemsOf knd es→∃ qs,Keys knd (es.map (·.2)) qs
 | [],_=>⟨[],.nil⟩
 | e::es,h=>by
  obtain ⟨qs,hq⟩:=a5s es fun x hx=>h x (qE _ hx)
  obtain ⟨⟨k,hk,_⟩,_⟩:=h e (by simp)
  exact ⟨k::qs,.cons hk hq⟩
theorem Keys.perm {vs us:List Value} (hp:us.Perm vs):∀ {ks},Keys knd vs ks→∃ qs,Keys knd us qs∧qs.Perm ks:=by
 induction hp with
 | nil=>intro ks h;exact ⟨ks,h,.refl _⟩
 | cons v _ ih=>
  intro ks h
  cases h with
  | cons h1 h2=>obtain ⟨qs,a,b⟩:=ih h2;exact ⟨_::qs,.cons h1 a,.cons _ b⟩
 | swap x y l=>
  intro ks h
  cases h with
  | cons h1 h2=>cases h2 with
   | cons h3 h4=>exact ⟨_,.cons h3 (.cons h1 h4),.swap ..⟩
 | trans _ _ i1 i2=>
  intro ks h
  obtain ⟨q1,a1,b1⟩:=i2 h
  obtain ⟨q2,a2,b2⟩:=i1 a1
  exact ⟨q2,a2,b2.trans b1⟩
theorem Good.keys {h:Heap} {a:Addr} {ks:List K} {led:Bool} (g:Good knd h a ks led):∃ es ep t,SetAt h a es ep t∧TOk t led∧es.size=ks.length∧∀ vs,vs.Perm (es.toList.map (·.2))→∃ qs,Keys knd vs qs∧qs.Perm ks:=by
 obtain ⟨o,es,ep,t,ho,hx,hd,hE,hm,hl,hf,hT⟩:=g.ex
 refine ⟨es,ep,t,⟨⟨o,ho,hx.1,hd⟩,hf⟩,hT,hl,fun vs hp=>?_⟩
 obtain ⟨qs,hq⟩:=a5s es.toList hE
 have h1:qs.Perm ks:=a5e ks qs g.nd (fun k hk=>by
  obtain ⟨e,he,hi⟩:=(hm k).mp hk
  exact hq.mem (List.mem_map_of_mem he) hi) (by rw [hq.len,qQ,qR,hl])
 obtain ⟨q2,a2,b2⟩:=Keys.perm hp.symm.symm hq
 exact ⟨q2,a2,b2.trans h1⟩
theorem a6M {vs:List Value} {ks:List Int} (h:Keys (intKind prog w) vs ks):IntsAre vs ks:=by
 induction h with
 | nil=>exact .nil
 | cons h1 _ ih=>obtain ⟨t,rfl⟩:=Value.isInt_shape h1;exact .cons _ t ih
theorem keys_strs {vs:List Value} {ks:List Str} (h:Keys (kh prog w) vs ks):StrsAre vs ks:=by
 induction h with
 | nil=>exact .nil
 | cons h1 _ ih=>obtain ⟨t,rfl⟩:=Value.isStrOf_shape h1;exact .cons _ t ih
variable {A:Around} {E:Value→Shared→Prop} {s:Shared} {a:Addr} {es:Array (Int×Value)} {ep:Nat} {t:SetTable}
theorem sorted_set {Out:Array Value→Prop} {Q:Value→Shared→Prop} (hh:A.handled=none) (g:SetAt s.heap a es ep t) (hT:TOk t (ledOf w)) (few:es.size<64)
  (hsort:∀ (A':Around) (E':Value→Shared→Prop) (s':Shared) (l:Addr) (vs:List Value) (n:Nat) (P:Fin→Shared→Prop),vs.Perm (es.toList.map (·.2))→s'.heap.get? l=some (seqObj "list" vs.toArray n) →
   (∀ out,Out out→P (.done (.ret .none)) { s' with heap:=sortedHeap s'.heap l vs out })→wpAny (model prog w) A' (Builtin.«list.sort» ⟨[.ref l],[]⟩) P E' s')
  (h:∀ (h':Heap) (d':Drawn) (tk:Nat) (D:Addr) (out:Array Value) (e:Nat),(∀ b o,s.heap.get? b=some o→h'.get? b=some o)→s.heap.objs.size≤D→h'.get? D=some (seqObj "list" out e)→Out out→Q (.ref D) { s with heap:=h',drawn:=d',toks:=tk }) :
  wpAny (model prog w) A (call (.builtin "sorted") [.ref a]) Q E s:=by
 have big:(64:Nat)≤sizeLine:=by decide
 refine zJ kind_sorted plain_sorted entry_sorted (args_sorted1 _) ?_
 unfold Builtin.«sorted»
 refine wpAny_bind (m:=checkCount "sorted" 1 1 _) (wpAny_pure ?_)
 refine wpAny_bind (a3n hh g hT (qj (qv few) big) fun h1 d1 tk vs hp kp hlt=>?_)
 have hl:vs.length=es.size:=by rw [hp.length_eq];simp
 refine wpAny_bind (wpAny_newList ?_ (by rw [hl];exact qj (qv few) big))
 have hoL:(h1.push (seqObj "list" vs.toArray 0)).get? h1.objs.size=some (seqObj "list" vs.toArray 0):=qK _ rfl
 refine wpAny_bind (wpAny_holding (wpAny_call_entry slot_list_sort ⟨_,hoL,rfl⟩ entry_list_sort (hsort _ _ _ _ vs 0 _ hp hoL fun out ho=>⟨_,rfl,?_⟩) (args_list_sort _)))
 obtain ⟨e,he⟩:=sortedHeap_at (out:=out) hoL
 refine wpAny_pure ⟨_,rfl,h _ d1 tk h1.objs.size out e (fun b o g=>?_) (qv hlt) he ho⟩
 have hb:b<h1.objs.size:=qG (kp b o g)
 rw [sortedHeap_old (qU hb) (by rw [jJ];exact jY hb),qC _ (kp b o g)]
theorem sorted_setI {ks:List Int} {Q:Value→Shared→Prop} (hh:A.handled=none) (g:Good (intKind prog w) s.heap a ks (ledOf w)) (few:ks.length<64)
  (h:∀ (h':Heap) (d':Drawn) (tk:Nat) (D:Addr) (out:Array Value) (e:Nat),(∀ b o,s.heap.get? b=some o→h'.get? b=some o)→s.heap.objs.size≤D→h'.get? D=some (seqObj "list" out e)→IntsAre out.toList (L3.sortI ks)→Q (.ref D) { s with heap:=h',drawn:=d',toks:=tk }) :
  wpAny (model prog w) A (call (.builtin "sorted") [.ref a]) Q E s:=by
 obtain ⟨es,ep,t,g1,hT,hl,hv⟩:=g.keys
 refine sorted_set (Out:=fun out=>IntsAre out.toList (L3.sortI ks)) hh g1 hT (by rw [hl];exact few) (fun A' E' s' l vs n P hp ho q=>?_) h
 obtain ⟨qs,hk,hq⟩:=hv vs hp
 refine list_sort_tree ho (a6M hk) (by rw [hp.length_eq,qQ,qR,hl];exact few) fun out ns' h1 h2 h3=>q out ?_
 rw [←L3.sortI_eq (h2.trans hq) h3]
 exact h1
end
end L2.SX
namespace L2.L3
open PySem PySem.Spec PyProof.Rows
section
variable {X:Cx} {H0 G₀ G G1 H H1:Hp} {ρ:List Ent} {σ:St} {a b c d e:Expr} {lo hi:Option Expr} {pos p p2 pos2:Pos} {fa fb fc fd:EF} {fl fh:OF}
theorem Inv.draws {pins:List (Addr×Obj)} {s:Shared} {d':Drawn} (I:Inv X pins σ H s):Inv X pins σ H { s with drawn:=d' }:=⟨I.ok,I.os,I.bare,I.base,I.loc,I.cell,I.free,I.freeC,I.pin,I.hok,I.len⟩
def b6d (K:qB) (t:TA):TE:=fun σ H Q=>t σ H fun xs H1=>(∃ a ns,xs=[.ref a]∧SqL K H1 a (ns.map V.int)∧ns.length<64∧∀ l,H1 l=none→Q (.ref l) (upd H1 l (.lst ((sortI (xW ns)).map V.int)))) ∨
 ∃ a ns,xs=[.ref a]∧SqL K H1 a (ns.map V.str)∧ns.length<64∧∀ l,H1 l=none→Q (.ref l) (upd H1 l (.lst ((gH (fU ns)).map V.str)))
theorem xV {α:Type} [DecidableEq α] (d:α) (ns:List α):SX.metK (fun i=>ns.getD i d) ns.length=ns.foldl SX.addK []:=by
 unfold SX.metK
 have:(jS ns.length).map (fun i=>ns.getD i d)=ns:=by
  refine jH fun i=>?_
  rw [qJ]
  by_cases h:i<ns.length
  ·rw [zb h,qN h];simp [h]
  ·rw [jB (by simp;omega),jB (by omega)];rfl
 rw [this]
theorem tY (ns:List Int):SX.metK (fun i=>ns.getD i 0) ns.length=xW ns:=xV 0 ns
theorem pM (ns:List Str):SX.metK (fun i=>ns.getD i "") ns.length=fU ns:=xV ("" : Str) ns
theorem a5t {vs:List Value} {ns:List Int} (h:IntsAre vs ns):∀ (i:Nat) (v:Value),vs[i]?=some v→∃ t:Tok,v=ze (ns.getD i 0) t:=by
 induction h with
 | nil=>intro i v e;simp at e
 | cons n t _ ih=>
  intro i v e
  cases i with
  | zero=>simp at e;exact ⟨t,by simp [←e]⟩
  | succ i=>simpa using ih i v (by simpa using e)
theorem a4N {vs:List Value} {ns:List Str} (h:StrsAre vs ns):∀ (i:Nat) (v:Value),vs[i]?=some v→∃ t:Tok,v=zd (ns.getD i "") t:=by
 induction h with
 | nil=>intro i v e;simp at e
 | cons n t _ ih=>
  intro i v e
  cases i with
  | zero=>simp at e;exact ⟨t,by simp [←e]⟩
  | succ i=>simpa using ih i v (by simpa using e)
theorem vV {ns:List Str}:∀ {us:List Value},aX (ns.map V.str) us→StrsAre us ns:=by
 induction ns with
 | nil=>intro us r;cases r;exact .nil
 | cons n ns ih=>intro us r;cases r with | cons r1 r2=>obtain ⟨t,rfl⟩:=r1;exact .cons n t (ih r2)
theorem sI:∀ {vs:List Value} {ns:List Str},StrsAre vs ns→aX (ns.map V.str) vs
 | _,_,.nil=>.nil
 | _,_,.cons n t h=>.cons ⟨t,rfl⟩ (sI h)
theorem mO {K:qB} {G:Hp}:∀ ns:List Str,RepAll K G (ns.map V.str) (ns.map .str)
 | []=>.nil
 | _::r=>.cons (.str _) (mO r)
theorem a2s {vs:List Value} {ns:List Str} (h:StrsAre vs ns):vs.length=ns.length:=by induction h<;>simp [*]
theorem nQ {a b c:Str} (h1:cH a b=true) (h2:cH b c=true):cH a c=true:=by
 unfold cH at *
 simp only [zC,decide_eq_false_iff_not,List.not_lt] at *
 exact List.le_trans h1 h2
theorem iS (a b:Str):(cH a b || cH b a)=true:=by
 unfold cH
 simp only [kM,zC,decide_eq_false_iff_not,List.not_lt]
 exact List.le_total _ _
theorem xE {a b:Str} (h1:cH a b=true) (h2:cH b a=true):a=b:=by
 unfold cH at *
 simp only [zC,decide_eq_false_iff_not,List.not_lt] at *
 have e:=List.le_antisymm h1 h2
 cases a;cases b
 congr 1
 exact Array.toList_inj.mp e
theorem fP (ns:List Str):(gH ns).Perm ns:=List.mergeSort_perm _ _
theorem mD (ns:List Str):(gH ns).Pairwise (fun a b=>cH a b=true):=List.pairwise_mergeSort (le:=cH) (fun a b c h1 h2=>nQ h1 h2) iS ns
theorem a0l:∀ (l:List Str) (p:Str),risingS p l=true→(p::l).Pairwise (fun a b=>cH a b=true)
 | [],p,_=>List.pairwise_singleton _ _
 | x::r,p,h=>by
  have h':(!ltCps x.cps.toList p.cps.toList&&risingS x r)=true:=h
  rw [qH] at h'
  have h1:cH p x=true:=by unfold cH;rw [←ltCps_eq];exact h'.1
  have ih:=a0l r x h'.2
  refine jF.mpr ⟨fun y hy=>?_,ih⟩
  rcases qM.mp hy with z | z
  ·rw [z];exact h1
  ·exact nQ h1 ((jF.mp ih).1 y z)
theorem a6j (l:List Str) (h:sortedS l=true):l.Pairwise (fun a b=>cH a b=true):=by
 cases l with
 | nil=>exact .nil
 | cons x r=>exact a0l r x h
theorem pB:∀ {a b:List Str},a.Perm b→a.Pairwise (fun a b=>cH a b=true)→b.Pairwise (fun a b=>cH a b=true)→a=b
 | [],b,hp,_,_=>by rw [List.nil_perm.mp hp]
 | x::a,b,hp,ha,hb=>by
  match b,hp,hb with
  | [],hp,_=>exact absurd hp.length_eq (by simp)
  | y::b,hp,hb=>
   have h1:=jF.mp ha
   have h2:=jF.mp hb
   have e:x=y:=by
    rcases qM.mp (hp.mem_iff.mp (qd (a:=x) (l:=a))) with z | z
    ·exact z
    ·rcases qM.mp (hp.mem_iff.mpr (qd (a:=y) (l:=b))) with q | q
     ·exact q.symm
     ·exact xE (h1.1 y q) (h2.1 x z)
   subst e
   rw [pB (List.Perm.cons_inv hp) h1.2 h2.2]
theorem vZ {ns ms:List Str} (hp:ms.Perm ns) (hs:sortedS ms=true):ms=gH ns:=pB (hp.trans (fP ns).symm) (a6j ms hs) (mD ns)
theorem a2u {prog:Program} {w:World} {A:Around} {E:Value→Shared→Prop} {s:Shared} {a:Addr} {ks:List Str} {Q:Value→Shared→Prop} (hh:A.handled=none) (g:SX.Good (kh prog w) s.heap a ks (SX.ledOf w)) (few:ks.length<64)
  (h:∀ (h':Heap) (d':Drawn) (tk:Nat) (D:Addr) (out:Array Value) (e:Nat),(∀ b o,s.heap.get? b=some o→h'.get? b=some o)→s.heap.objs.size≤D→h'.get? D=some (seqObj "list" out e)→StrsAre out.toList (gH ks)→Q (.ref D) { s with heap:=h',drawn:=d',toks:=tk }) :
  wpAny (model prog w) A (call (.builtin "sorted") [.ref a]) Q E s:=by
 obtain ⟨es,ep,t,g1,hT,hl,hv⟩:=g.keys
 refine SX.sorted_set (Out:=fun out=>StrsAre out.toList (gH ks)) hh g1 hT (by rw [hl];exact few) (fun A' E' s' l vs n P hp ho q=>?_) h
 obtain ⟨qs,hk,hq⟩:=hv vs hp
 have hS:=SX.keys_strs hk
 refine list_sort_treeK strKind_oneLt ho hS.keysOf (fun v₁ v₂ rest e=>keyKind_strs (by rw [←e];exact hS)) (by rw [hp.length_eq,qQ,qR,hl];exact few) fun st' hp' hs'=>q _ ?_
 obtain ⟨ss',h1,h2,h3⟩:=sorted_out_str hS hp' hs'
 rw [←vZ (h2.trans hq) h3]
 exact h1
theorem b0Q {t:TA} (hc:X.calm=true) (h1:Gl X "sorted") (m1:X.mg "sorted" = none) (h2:Gl X "set") (m2:X.mg "set" = none) (b2:bootBuiltins "set" = some (.type "set")) (ha:PA X [e] t) (he:starEach [e] X.env=(false,eval e X.env)::starEach [] X.env)
  (he2:starEach [.Call (.Name "set" p2) [e] [] pos2] X.env=(false,eval (.Call (.Name "set" p2) [e] [] pos2) X.env)::starEach [] X.env) (hpl:∀ q,(backTo q (starEach [] X.env)).any (·.1)=false) (hn:∀ q,backTo q (starEach [] X.env)=[]) :
  PE X (.Call (.Name "sorted" p) [.Call (.Name "set" p2) [e] [] pos2] [] pos) (b6d X.K t):=by
 intro pins s σ H Q I h
 refine wpAny_Call_Name_kw (tP I h1 m1 boot_sorted ?_)
 refine callWith_builtin1 ?_ he2 (hpl _)
 rw [he2]
 show wpAny _ _ (spliced ((false,eval (.Call (.Name "set" p2) [e] [] pos2) X.env)::backTo pos (starEach [] X.env))) _ _ s
 rw [hn]
 refine kU (wpAny_Call_Name_kw (tP I h2 m2 b2 ?_))
 refine callWith_type1 (thn (ha pos2 pins s σ H _ I h) fun us s1 ⟨vs,H1,I1,r1,qq⟩=>?_) he (hpl _)
 rcases qq with ⟨a,ns,e1,hq,h64,q⟩ | ⟨a,ns,e1,hq,h64,q⟩
 ·subst e1
  obtain ⟨u,rfl,rx⟩:=vals1 r1
  cases rx
  obtain ⟨its,rv,pl,hz⟩:=I1.list hq
  have hi:=intsAre_of rv
  have hd:=I1.ok.hd hc
  have hl:its.length=ns.length:=hi.length
  refine SX.set_of (knd:=intKind X.prog X.w) (val:=fun i=>ns.getD i 0) hd pl.isList (fun i v e=>?_) (fun i v A' E' s' Q' e q'=>?_) ?_ fun h' tk g kp=>?_
  ·obtain ⟨t,rfl⟩:=a5t hi i v (by simpa using e)
   exact ⟨by simp [intKind,Value.isInt],rfl⟩
  ·obtain ⟨t,rfl⟩:=a5t hi i v (by simpa using e)
   exact (intKind X.prog X.w).pyHash (k:=ns.getD i 0) (by simp [intKind,Value.isInt]) q'
  ·have hsz:its.toArray.size=ns.length:=by rw [qI,hl]
   rw [hsz];exact jd h64 (by decide)
  ·have hsz:its.toArray.size=ns.length:=by rw [qI,hl]
   rw [hsz,tY] at g
   refine kB (SX.sorted_setI hd g ?_ fun h2 d2 tk2 D out ep k2 hs2 ho hout=>?_)
   ·rw [←tY];exact jd (SX.metK_len _ _) h64
   ·have kk:∀ b o,s1.heap.get? b=some o→h2.get? b=some o:=fun b o z=>k2 b o (kp b o (qG z) z)
    obtain ⟨so,_,_,_,hso,_⟩:=g.ex
    have lt:s1.heap.objs.size≤D:=qj (qv (qG hso)) hs2
    have hf:H1 D=none:=I1.hok.fresh lt
    refine ⟨.ref D,_,Inv.draws (I1.laid (t':=tk2) (a:=D) (o:=.lst ((sortI (xW ns)).map V.int)) kk lt ⟨?_,out.toList,ep,lN hout,?_⟩),rfl,q _ hf⟩
    ·rw [qQ,(sortI_perm _).length_eq,←tY]
     exact qj (SX.metK_len _ _) (qv (gZ (by omega)))
    ·rw [ho]
 ·subst e1
  obtain ⟨u,rfl,rx⟩:=vals1 r1
  cases rx
  obtain ⟨its,rv,pl,hz⟩:=I1.list hq
  have hi:=vV rv
  have hd:=I1.ok.hd hc
  have hl:its.length=ns.length:=a2s hi
  refine SX.set_of (knd:=kh X.prog X.w) (val:=fun i=>ns.getD i "") hd pl.isList (fun i v e=>?_) (fun i v A' E' s' Q' e q'=>?_) ?_ fun h' tk g kp=>?_
  ·obtain ⟨t,rfl⟩:=a4N hi i v (by simpa using e)
   exact ⟨by simp [kh,Value.isStrOf],rfl⟩
  ·obtain ⟨t,rfl⟩:=a4N hi i v (by simpa using e)
   exact (kh X.prog X.w).pyHash (k:=ns.getD i "") (by simp [kh,Value.isStrOf]) q'
  ·have hsz:its.toArray.size=ns.length:=by rw [qI,hl]
   rw [hsz];exact jd h64 (by decide)
  ·have hsz:its.toArray.size=ns.length:=by rw [qI,hl]
   rw [hsz,pM] at g
   refine kB (a2u hd g ?_ fun h2 d2 tk2 D out ep k2 hs2 ho hout=>?_)
   ·rw [←pM];exact jd (SX.metK_len _ _) h64
   ·have kk:∀ b o,s1.heap.get? b=some o→h2.get? b=some o:=fun b o z=>k2 b o (kp b o (qG z) z)
    obtain ⟨so,_,_,_,hso,_⟩:=g.ex
    have lt:s1.heap.objs.size≤D:=qj (qv (qG hso)) hs2
    have hf:H1 D=none:=I1.hok.fresh lt
    refine ⟨.ref D,_,Inv.draws (I1.laid (t':=tk2) (a:=D) (o:=.lst ((gH (fU ns)).map V.str)) kk lt ⟨?_,out.toList,ep,sI hout,?_⟩),rfl,q _ hf⟩
    ·rw [qQ,(fP _).length_eq,←pM]
     exact qj (SX.metK_len _ _) (qv (gZ (by omega)))
    ·rw [ho]
theorem b2b (hc:X.calm=true) (m1:X.mg "sorted" = none) (m2:X.mg "set" = none) (ha:DE X e fa) (h1:Gl X "sorted":=by rfl) (h2:Gl X "set":=by rfl) (he:starEach [e] X.env=(false,eval e X.env)::starEach [] X.env:=by rfl)
  (he2:starEach [.Call (.Name "set" p2) [e] [] pos2] X.env=(false,eval (.Call (.Name "set" p2) [e] [] pos2) X.env)::starEach [] X.env:=by rfl):DE X (.Call (.Name "sorted" p) [.Call (.Name "set" p2) [e] [] pos2] [] pos) (op1 a0g fa):=
 ⟨fun pins s σ H Q I ⟨ρ,r,H0,G₀,G,ef,R,q⟩=>b0Q hc h1 m1 h2 m2 boot_set (cQ ha.run dR he) he he2 (fun _=>rfl) (fun _=>rfl) pins s σ H Q I (bE R ef q.x fun x v G1 H1 g1 R1 rv e1=>by
  obtain ⟨d,ed,rfl⟩:=aW e1
  unfold a0g at ed
  split at ed
  ·split at ed
   ·rename_i xs ns e2
    split at ed
    ·rename_i h64
     cases (qA ed)
     have:=eA (g:=.int) (fun d a q=>oK q) e2
     subst this
     cases rv with
     | list hq r=>
      have e3:=r.ints
      subst e3
      refine .inl ⟨_,ns,rfl,g1.sub.seq hq,h64,fun l hl=>q _ _ _ (g1.trans (.put g1.sub hl)) (.list (.of aJ) (fC _))⟩
    ·cases ed
   ·split at ed
    ·rename_i xs _ ns e2
     split at ed
     ·rename_i h64
      cases (qA ed)
      have:=eA (g:=.str) (fun d a q=>a1e q) e2
      subst this
      cases rv with
      | list hq r=>
       have e3:=r.strs
       subst e3
       refine .inr ⟨_,ns,rfl,g1.sub.seq hq,h64,fun l hl=>q _ _ _ (g1.trans (.put g1.sub hl)) (.list (.of aJ) (mO _))⟩
     ·cases ed
    ·cases ed
  ·cases ed)⟩
end
theorem a9d {K:qB} {T:String} {x:PyData} {t:Bool} (h:b1I T x=some t):kT K (.type (tyD x)) (.type T)=some t:=by
 unfold b1I at h
 by_cases c:T = "int"
 ·rw [if_pos c] at h;subst c;cases x<;>first | (cases h;rfl) | cases h
 rw [if_neg c] at h
 by_cases c:T = "bool"
 ·rw [if_pos c] at h;subst c;cases x<;>first | (cases h;rfl) | cases h
 rw [if_neg c] at h
 by_cases c:T = "str"
 ·rw [if_pos c] at h;subst c;cases x<;>first | (cases h;rfl) | cases h
 rw [if_neg c] at h
 by_cases c:T = "tuple"
 ·rw [if_pos c] at h;subst c;cases x<;>first | (cases h;rfl) | cases h
 rw [if_neg c] at h;cases h
def b6L:PyData→Option (List PyData)
 | .str z=>some ((lettersOf z).map .str)
 | _=>none
def b6K (fa:EF):AF:=fun ρ=>bnd (fa ρ) fun x=>lft (b6L x)
def b6m (ds:List PyData) (y:PyData):Option PyData:=match y with
 | .int k=>if dA ds.length&&a5u k&&dA (ds.length*k.toNat) then some (.list (qV k.toNat ds).flatten) else none
 | _=>none
def b6l (fa:AF) (fb:EF):EF:=fun ρ=>bnd (fa ρ) fun ds=>if dA ds.length then bnd (fb ρ) fun y=>lft (b6m ds y) else none
section
variable {X:Cx} {H0 G₀ G G1 H H1:Hp} {ρ:List Ent} {σ:St} {a b c d e iter:Expr} {es:List Expr} {pos p p2 pos2 px:Pos} {x:Str} {fa fb fc fd:EF}
theorem lS {T:String} (hm:X.mg "isinstance" = none) (hx:X.mg x=none) (hv:bootBuiltins x=some (.type T)) (ha:DE X a fa) (hn:x ≠ "__name__":=by decide) (hdb:(x==("__debug__" : Str))=false:=by decide)
  (he:starEach [a,.Name x p2] X.env=(false,eval a X.env)::starEach [.Name x p2] X.env:=by rfl) (he2:starEach [.Name x p2] X.env=(false,eval (.Name x p2) X.env)::starEach [] X.env:=by rfl)
  (hpl:(backTo pos (starEach [.Name x p2] X.env)).any (·.1)=false:=by rfl) (hg:Gl X "isinstance":=by rfl) (hgx:Gl X x:=by rfl):DE X (.Call (.Name "isinstance" p) [a,.Name x p2] [] pos) (op1 (isD T) fa):=by
 have hc:gM X (.builtin "isinstance") (fun xs H Q=>∃ v d t,xs=[v,.ty T]∧Rep X.K H v d∧b1I T d=some t∧Q (.bl t) H):=by
  intro pins s σ H xs us Q I r ⟨v,d,t,e1,rv,ht,q⟩
  subst e1
  obtain ⟨u,w',rfl,r1,r2⟩:=vals2 r
  cases r2
  exact a9c I rv r1 (a9d ht) fun tk=>⟨.bl t,H,I.tok tk,rfl,q⟩
 exact ⟨fun pins s σ H Q I ⟨ρ,r,H0,G₀,G,e,R,q⟩=>lO hc hg hm boot_isinstance (cQ ha.run (cQ (a5k (v:=.ty T) hgx hx hv rfl hn hdb) dR he2) he) (by decide) (by decide) he hpl pins s σ H Q I (bE R e q.x fun x v G1 H1 g1 R1 rv e1=>by
  obtain ⟨d,ed,rfl⟩:=aW e1
  obtain ⟨t,et,rfl⟩:=qD.mp ed
  exact ⟨v,x,t,rfl,rv.mono g1.sub,et,q _ _ _ g1 (.bool t)⟩)⟩
theorem wN {K:qB} {vs:List V} {ds:List PyData} (r:RepAll K G vs ds):∀ k:Nat,RepAll K G (qV k vs).flatten (qV k ds).flatten
 | 0=>.nil
 | k+1=>by rw [jZ,jZ,qe,qe];exact r.append (wN r k)
theorem b5r {f:AF} (ha:DA X es f) (hb:DE X b fb):DE X (.BinOp (.List es p) .Mult b pos) (b6l f fb):=⟨fun pins s σ H Q I ⟨ρ,r,H0,G₀,G,e,R,q⟩=>a5f b4a (pF ha.run) hb.run pins s σ H Q I (bA R e q.x fun ds vs G1 H1 g1 R1 rv e1=>by
 split at e1
 ·rename_i hz
  refine ⟨by rw [rv.length];exact fM hz,fun l hl=>?_⟩
  have g1':=g1.trans (.put (o:=.lst vs) g1.sub hl)
  exact bE (R.more g1') e1 (q.more g1').x fun y u G2 H2 g2 R2 ru e2=>by
   obtain ⟨d,ed,rfl⟩:=aW e2
   unfold b6m at ed
   split at ed
   ·split at ed
    ·rename_i hk
     simp only [qH] at hk
     have hr:=xL hk.1.2
     cases (qA ed)
     cases ru
     refine ⟨l,_,vs,rfl,rfl,g2.hh.lst aJ,by omega,by omega,by rw [rv.length];exact fM hk.2,fun l2 hl2=>q _ _ _ ((g1'.trans g2).trans (.put g2.sub hl2)) (.list (.of aJ) (wN (rv.mono (((cF (g1.sub.free hl)).trans g2.gg).trans (cF (g2.sub.free hl2)))) _))⟩
    ·cases ed
   ·cases ed
 ·cases e1)⟩
theorem b4C (hc:X.calm=true) (h:DE X iter fa):DI X (.Name x px) iter (b6K fa):=⟨fun pins s σ H R I ⟨ρ,r,H0,G₀,G,e,S,q⟩=>by
 rcases bU e with ⟨x,e1,e2⟩ | ⟨c,e1,e2⟩
 ·obtain ⟨ds,e3,rfl⟩:=aW e2
  cases x<;>simp only [b6L] at e3<;>cases e3
  exact (b0N (h.pd e1) hc).run pins s σ H R I ⟨H0,G₀,G,S,q⟩
 ·subst e2
  exact a1u h.run pins s σ H R I ⟨ρ,_,H0,G₀,G,e1,S,q⟩⟩
end
section
variable {X:Cx} {H0 G₀ G G1 H H1:Hp} {ρ:List Ent} {σ:St} {a b c d e iter:Expr} {es:List Expr} {pos p p2 pos2 px:Pos} {x:Str} {fa fb fc fd:EF}
def a5v (x:PyData) (ds:List PyData):Option Bool:=if qa x&&ds.all qa then some (ds.any fun d=>jW d x) else none
def inX (x y:PyData):Option Bool:=match x with
 | .tuple _=>(match wA y with | some ds=>a5v x ds | none=>none)
 | .list _=>(match wA y with | some ds=>a5v x ds | none=>none)
 | _=>inD x y
def a8M (x y:PyData):Option Bool:=(inX x y).map (!·)
def b6r (K:qB) (neg:Bool) (dx:PyData) (ds:List PyData):R2:=fun x y H Q=>∃ p xs,y=.ref p∧(SqL K H p xs∨SqT K H p xs)∧Rep K H x dx∧RepAll K H xs ds∧qa dx=true∧ds.all qa=true∧Q (.bl (if neg then !(ds.any fun d=>jW d dx) else ds.any fun d=>jW d dx)) H
open Classical in
theorem xK {pins:List (Addr×Obj)} {s:Shared} {A:Around} (I:Inv X pins σ H s) (hu:A.units+64<cLine) {v:Value} {dx:PyData} {bs:List Addr} (rx:Reads s.heap v dx bs) (hx:qa dx=true) :
  ∀ {xs:List V} {ds:List PyData} {us:List Value},RepAll X.K H xs ds→aX xs us→ds.all qa=true →
   (∀ u∈us,SeqAt.EqAt A s u v (decide (∃ d as,Reads s.heap u d as∧qa d=true∧jW d dx=true)))∧us.any (fun u=>decide (∃ d as,Reads s.heap u d as∧qa d=true∧jW d dx=true))=ds.any fun d=>jW d dx
 | _,_,_,.nil,.nil,_=>⟨(fun u hm=>by cases hm),rfl⟩
 | _,_,_,.cons (d:=d) r rr,.cons t tt,hs=>by
  rw [zD,qH] at hs
  obtain ⟨h1,h2⟩:=xK I hu rx hx rr tt hs.2
  obtain ⟨as,ra⟩:=r.reads I t
  have key0:∀ u,Reads s.heap u d as→decide (∃ d as,Reads s.heap u d as∧qa d=true∧jW d dx=true)=jW d dx:=by
   intro u ra
   cases e:jW d dx with
   | true=>exact decide_eq_true ⟨d,as,ra,hs.1,e⟩
   | false=>
    refine decide_eq_false fun ⟨d',as',r',s',e'⟩=>?_
    rw [SeqAt.Reads.unique d d' _ _ _ (zX hs.1) ra r'] at e
    rw [e] at e';cases e'
  have key:=key0 _ ra
  refine ⟨fun u hu'=>?_,by rw [jV,jV,key,h2]⟩
  rcases qM.mp hu' with z | z
  ·subst z
   rw [key]
   exact SeqAt.eqAt_reads d dx A s _ v as bs ra rx (zX hs.1) (zX hx) (SeqAt.room_of_shaped hs.1 hu)
  ·exact h1 u z
open Classical in
theorem b4g (hu:X.A.in1.units+64<cLine) (dx:PyData) (ds:List PyData):OpR X (compareOp .In) (b6r X.K false dx ds):=by
 intro pins s σ H x y v u Q I rx ry h
 obtain ⟨p,xs,rfl,hq,r1,r2,h1,h2,q⟩:=h
 cases ry
 obtain ⟨bs,rb⟩:=r1.reads I rx
 rcases hq with hq | hq
 ·obtain ⟨its,r,pl,hz⟩:=I.list hq
  obtain ⟨e1,e2⟩:=xK (A:=X.A.in1) I hu rb h1 r2 r h2
  refine SeqAt.in_listAt _ pl.isList (fun w hw=>e1 w (by simpa using hw)) ⟨.bl _,H,I,rfl,?_⟩
  rw [←zI,e2]
  exact q
 ·obtain ⟨its,r,pl,hz⟩:=I.tuple hq
  obtain ⟨e1,e2⟩:=xK (A:=X.A.in1) I hu rb h1 r2 r h2
  refine SeqAt.in_tupleAt _ pl (fun w hw=>e1 w (by simpa using hw)) ⟨.bl _,H,I,rfl,?_⟩
  rw [←zI,e2]
  exact q
open Classical in
theorem b0Z (hu:X.A.in1.units+64<cLine) (dx:PyData) (ds:List PyData):OpR X (compareOp .NotIn) (b6r X.K true dx ds):=by
 intro pins s σ H x y v u Q I rx ry h
 obtain ⟨p,xs,rfl,hq,r1,r2,h1,h2,q⟩:=h
 cases ry
 obtain ⟨bs,rb⟩:=r1.reads I rx
 rcases hq with hq | hq
 ·obtain ⟨its,r,pl,hz⟩:=I.list hq
  obtain ⟨e1,e2⟩:=xK (A:=X.A.in1) I hu rb h1 r2 r h2
  refine SeqAt.notIn_listAt _ pl.isList (fun w hw=>e1 w (by simpa using hw)) ⟨.bl _,H,I,rfl,?_⟩
  rw [←zI,e2]
  exact q
 ·obtain ⟨its,r,pl,hz⟩:=I.tuple hq
  obtain ⟨e1,e2⟩:=xK (A:=X.A.in1) I hu rb h1 r2 r h2
  refine SeqAt.notIn_tupleAt _ pl (fun w hw=>e1 w (by simpa using hw)) ⟨.bl _,H,I,rfl,?_⟩
  rw [←zI,e2]
  exact q
theorem rD {hu:X.A.in1.units+64<cLine} {x y:PyData} {ds:List PyData} {t:Bool} (e:wA y=some ds) (h:a5v x ds=some t):CmpD X .In x y t∧CmpD X .NotIn x y (!t):=by
 unfold a5v at h
 split at h
 ·rename_i hz
  rw [qH] at hz
  cases (qA h)
  refine ⟨⟨_,b4g hu x ds,fun v u G H Q s rv ru q=>?_⟩,⟨_,b0Z hu x ds,fun v u G H Q s rv ru q=>?_⟩⟩
  ·obtain ⟨p,vs,rfl,hq,r⟩:=iR s e ru
   exact ⟨p,vs,rfl,hq,rv.mono s,r.mono s,hz.1,hz.2,q⟩
  ·obtain ⟨p,vs,rfl,hq,r⟩:=iR s e ru
   exact ⟨p,vs,rfl,hq,rv.mono s,r.mono s,hz.1,hz.2,q⟩
 ·cases h
theorem a9i (hu:X.A.in1.units+64<cLine) (x y:PyData) (t:Bool) (h:inX x y=some t):CmpD X .In x y t:=by
 unfold inX at h
 split at h
 ·split at h
  ·rename_i ds e;exact (rD (hu:=hu) e h).1
  ·cases h
 ·split at h
  ·rename_i ds e;exact (rD (hu:=hu) e h).1
  ·cases h
 ·exact b6T x y t h
theorem a1z (hu:X.A.in1.units+64<cLine) (x y:PyData) (t:Bool) (h:a8M x y=some t):CmpD X .NotIn x y t:=by
 unfold a8M at h
 obtain ⟨t',hq,rfl⟩:=qD.mp h
 unfold inX at hq
 split at hq
 ·split at hq
  ·rename_i ds e;exact (rD (hu:=hu) e hq).2
  ·cases hq
 ·split at hq
  ·rename_i ds e;exact (rD (hu:=hu) e hq).2
  ·cases hq
 ·exact b4v x y _ (by unfold b4x;rw [hq];rfl)
end
theorem _root_.L2.Room.units1 {k:Nat} {A:Around} (r:Room k A):A.in1.units+64<cLine:=by
 have:=r.un
 show A.units+1+64<cLine
 omega
section
variable {X:Cx} {H0 G₀ G G1 H H1:Hp} {ρ:List Ent} {σ:St} {a b c d e iter:Expr} {es:List Expr} {pos p p2 pos2 px:Pos} {x:Str} {fa fb fc fd:EF}
end
section
variable {X:Cx} {a b e:Expr} {elts:List Expr} {k0:Nat} {p0 pos p:Pos} {fa fb:EF} {st:Stmt}
end
end L2.L3
namespace L2.ZT
open PySem PyProof.Rows
section
variable {prog:Program} {w:World} {A:Around} {E:Value→Shared→Prop} {s:Shared}
variable {z TI TO c d t u:Addr} {i j:Nat} {xs ys:Array Value} {a b:Value}
end
section
variable {prog:Program} {w:World} {A:Around} {E:Value→Shared→Prop} {s:Shared}
end
end L2.ZT
namespace L2.L3
open PySem PySem.Spec PyProof.Rows
def Itt (K:qB) (l1 l2:Addr):It:=
 ⟨fun i H=>∃ xs ys x y,SqT K H l1 xs∧SqT K H l2 ys∧xs[i]?=some x∧ys[i]?=some y,
 fun i H v H'=>∃ T x y,H T=none∧v=.ref T∧H'=upd H T (.tup [x,y])∧(∀ xs,SqT K H l1 xs→xs[i]?=some x)∧∀ ys,SqT K H l2 ys→ys[i]?=some y,
 fun i H=>∃ xs ys,SqT K H l1 xs∧SqT K H l2 ys∧(xs.length≤i∨ys.length≤i)⟩
section
variable {X:Cx} {a b:Expr} {elts:List Expr} {k0:Nat} {p0 pos p:Pos} {fa fb:EF}
end
end L2.L3
namespace L2.L3
open PySem PySem.Spec PyProof.Rows PySem.W PySem.Builtin PySem.Builtin.ObjectAttr PySem.Builtin.Getset_descriptor
abbrev b5L:List Value:=[.type "ValueError", .type "Exception", .type "BaseException", .type "object"]
structure XCls (K:Frag) (C:Addr):Prop where
 ex:excIn K C b5L "ValueError.__new__" = true
 ga:findIn K (.ref C) "__getattribute__" = some (some (.builtin "BaseException.__getattribute__"))
 nga:findIn K (.ref C) "__getattr__" = some none
 cl:findIn K (.ref C) "__class__" = some (some (.builtin "object.__class__"))
 ob:mroIn K C (.type "object")=some true
theorem XCls.obj {K:Frag} {C:Addr} {h:Heap} (x:XCls K C) (X:K.In h):∃ bm N nm q bs hdct sn sub ab col dd k0 k1 k2 k3 k5 mN,h.get? C=some (excClassObj nm q C N bs bm hdct sn sub ab col dd k0 k1 k2 k3 k5 "ValueError.__new__")∧h.Ns N mN∧mN "__init__" = none∧OwnTail h b5L bm:=by
 have q:=x.ex
 unfold excIn at q
 split at q
 ·rename_i dd cd sl ho
  split at q
  ·rename_i C' bm k0 k1 k2 k3 n k5 hm hs
   simp only [qH,beq_iff_eq,zC] at q
   obtain ⟨⟨⟨⟨⟨rfl,rfl⟩,hdel⟩,ht⟩,hok⟩,hni⟩:=q
   obtain ⟨nm,bs,mro,ns,qn,hd,sn,sub,ab,col,del⟩:=cd
   dsimp only at hm hdel hok hni
   subst hm hdel
   have hsl:sl=#[k0,k1,k2,k3,some (.builtin "ValueError.__new__"),k5]:=by
    obtain ⟨l⟩:=sl
    simp only at hs
    rw [hs]
   subst hsl
   exact ⟨bm,ns,nm,qn,bs,hd,sn,sub,ab,col,dd,k0,k1,k2,k3,k5,_,X _ _ ho,.of_isNs (isNs_of_in X hok),nsMap_none_of_in X hok hni,tail_of_in X ht⟩
  ·cases q
 ·cases q
section
variable {prog:Program} {w:World} {A:Around} {E:Value→Shared→Prop} {s:Shared} {K:Frag} {C D a:Addr} {ox:Obj}
theorem b3i {R:Result→Shared→Prop} {tp:Value} (x:XCls K C) (X:K.In s.heap) (I:ExO s.heap a C ox) (h:R (.ok (.ret (.ref C))) s) :
  codeAny (model prog w) A (.call (.builtin "getset_descriptor.__get__") ⟨[.builtin "object.__class__", .ref a,tp],[]⟩) R s:=by
 obtain ⟨hh,g,dr,t,os⟩:=s
 have L0:=I.type (M:=model prog w)
 have L1:=looks_mroIn (M:=model prog w) X x.ob
 refine codeAny_call_builtin KF.slot_gs.plain KF.entry_gs (KF.slot_gs.check _ _ _ _ _ _ _ _ KF.type_class (KF.args_gs _ _ _) ?_)
 unfold Builtin.«getset_descriptor.__get__» descrGet
 rw [dga_obj]
 refine wpAny_bind (wpAny_pure ?_)
 unfold descrGetter descrCheckInstance descrNameAndClass isInstance
 simp only [KF.owner_class]
 repeat lk
 refine ⟨Code.quiet_builtin _ (by decide +kernel),codeAny_builtin KF.entry_class ?_⟩
 unfold Builtin.«object.__class__» shownTypeOf
 repeat lk
 exact h
theorem a7x {tk:Tok} {Q:Fin→Shared→Prop} (x:XCls K C) (X:K.In s.heap) (I:ExO s.heap a C ox) (hq:Q (.done (.ret (.ref C))) s) :
  wpAny (model prog w) A (Builtin.«object.__getattribute__» ⟨[.ref a,.str "__class__" tk],[]⟩) Q E s:=by
 obtain ⟨hh,g,d,t,os⟩:=s
 have L0:=I.type (M:=model prog w)
 have L3:=looks_findIn (M:=model prog w) X x.cl
 have hT5:(⟨hh,g,d,t,os⟩:Shared).TypeIs (.builtin "object.__class__") "getset_descriptor" := PySem.F.typeOf_object_class
 have f5:=PySem.F.typeOf_object_class
 have f6:=PySem.F.slot_gs_get.lookup
 have f7:=PySem.F.slot_gs_set.lookup
 repeat (any_goals (first | assumption | with_reducible refine L0.at ?_ | with_reducible refine L3.at ?_ | wp_step))
 refine b3i x X I ?_
 repeat (any_goals (first | assumption | wp_step))
theorem a7z {M:Model} {nameV:Value} {Q:Unit→Shared→Prop} (x:XCls K C) (X:K.In s.heap) (I:ExO s.heap a C ox) (hq:Q () s) :
  wpAny M A (checkBuiltinCall "BaseException.__getattribute__" ⟨[.ref a,nameV],[]⟩) Q E s:=by
 obtain ⟨bm,N,nm,q,bs,hdct,sn,sub,ab,col,dd,k0,k1,k2,k3,k5,mN,hC,hN,hni,T⟩:=x.obj X
 obtain ⟨hh,g,d,t,os⟩:=s
 have hk:builtinKind "BaseException.__getattribute__" = some .slot:=by decide +kernel
 have hsplit:splitId "BaseException.__getattribute__" = some ("BaseException", "__getattribute__"):=by decide +kernel
 have hcB:(qi C::bm).contains (.type "BaseException")=true:=by rw [List.contains_cons,T.hasType (X := "BaseException") (b:=true) rfl];rfl
 have ha:=PySem.F.args_bexc_ga (.ref a) nameV
 simp only [checkBuiltinCall,hk,hsplit]
 refine wpAny_bind ?_
 ·unfold isInstance
  repeat (first | (with_reducible refine wpAny_loadPart_at I.at_ ?_;rw [I.cls]) | (with_reducible refine wpAny_isSubtype_exc hC ?_;rw [hcB]) | wp_step)
  exact hq
theorem b0p {tk:Tok} {R:Result→Shared→Prop} (x:XCls K C) (X:K.In s.heap) (I:ExO s.heap a C ox) (hq:R (.ok (.ret (.ref C))) s) :
  codeAny (model prog w) A (.call (.builtin "BaseException.__getattribute__") ⟨[.ref a,.str "__class__" tk],[]⟩) R s:=
 codeAny_call_builtin PySem.F.attrBase_ValueError.ga.plain PySem.F.entry_bexc_ga (a7z x X I (a7x x X I hq))
theorem b5X {tk:Tok} {Q:Value→Shared→Prop} (x:XCls K C) (X:K.In s.heap) (I:ExO s.heap a C ox) (hq:Q (.ref C) s) :
  wpAny (model prog w) A (getAttrBy (.ref a) (.str "__class__" tk) false) Q E s:=by
 obtain ⟨hh,g,d,t,os⟩:=s
 have L0:=I.type (M:=model prog w)
 have L1:=looks_findIn (M:=model prog w) X x.ga
 have L2:=looks_findIn (M:=model prog w) X x.nga
 have f3:=PySem.F.attrBase_ValueError.ga.bind (.ref a)
 have hx2:(Value.builtin "BaseException.__getattribute__" == Value.builtin "object.__getattribute__")=false:=by decide +kernel
 have hx1:(onTheHeap (qi C)&&Value.builtin "BaseException.__getattribute__" == Value.builtin "object.__getattribute__")=false:=by rw [hx2];rfl
 repeat (any_goals (first | assumption | with_reducible refine L0.at ?_ | with_reducible refine L1.at ?_ | with_reducible refine L2.at ?_ | wp_step))
 refine b0p x X I ?_
 repeat (any_goals (first | assumption | wp_step))
theorem a7y {Q:Option Value→Shared→Prop} (x:XCls K C) (X:K.In s.heap) (I:ExO s.heap a C ox) (hq:Q (some (.ref C)) { s with toks:=s.toks+1 }) :
  wpAny (model prog w) A (getAttr? (.ref a) "__class__") Q E s:=by
 obtain ⟨hh,g,d,t,os⟩:=s
 unfold getAttr? getAttrBy?
 exact wpAny_bind (wpAny_mkText (wpAny_bind (wpAny_attempt (b5X (s:=⟨hh,g,d,t+1,os⟩) x X I (wpAny_pure hq)))))
theorem a0Y {c:Value} {dep:Int} {tk:Tok} {Q:Fin→Shared→Prop} (x:XCls K C) (X:K.In s.heap) (I:ExO s.heap a C ox) (hty:Looks (model prog w) s.heap (typeOf c) (.type "type")) (his:Looks (model prog w) s.heap (isType c) true)
  (hne:(qi C==c)=false) (hsub:Looks (model prog w) s.heap (isSubtype (.ref C) c) false) (h:Q (.done (.ret (.bool false))) { s with toks:=s.toks+1 }) :
  wpAny (model prog w) A (Builtin.«isinstance.nested» ⟨[.ref a,c,.int dep tk],[]⟩) Q E s:=by
 obtain ⟨bm,N,nm,q,bs,hdct,sn,sub,ab,col,dd,k0,k1,k2,k3,k5,mN,hC,hN,hni,T⟩:=x.obj X
 have hisD:Looks (model prog w) s.heap (isType (.ref C)) true:=by
  intro A' Q' E' s' k q
  unfold isType loadHead
  exact wpAny_bind (wpAny_loadPart (k _ _ hC) (wpAny_pure q))
 obtain ⟨h0,g,d,tt,os⟩:=s
 have L0:=I.type (M:=model prog w)
 have LI:Looks (model prog w) h0 (isInstance (.ref a) c) false:=L0.andThen hsub
 unfold Builtin.«isinstance.nested»
 refine wpAny_bind (L0.at ?_)
 rw [if_neg (fun q=>by rw [hne] at q;exact ka q)]
 refine wpAny_bind (hty.at ?_)
 rw [if_pos (by decide)]
 k_delta "plainIsInstance"
 refine wpAny_bind (wpAny_bind (his.at ?_))
 simp only [Bool.not_true,jp,if_false]
 refine wpAny_bind (LI.at ?_)
 simp only [jp,if_false]
 refine wpAny_bind (a7y x X I ?_)
 refine wpAny_bind (hisD.at ?_)
 simp only [Bool.not_true,jp,if_false]
 refine wpAny_bind (wpAny_rule ?_)
 refine hsub.at ?_
 first
  | exact wpAny_pure h
  | exact wpAny_pure (wpAny_pure h)
  | exact wpAny_bind (wpAny_pure (wpAny_pure h))
theorem a7w {Q:Value→Shared→Prop} (x:XCls K C) (y:XCls K D) (X:K.In s.heap) (I:ExO s.heap a C ox) (hne:C≠D) (hty:typeIn K (.ref D)=some (.type "type")) (hs:subIn K (.ref C) (.ref D)=some false) (h:Q (.bool false) { s with toks:=s.toks+1 }) :
  wpAny (model prog w) A (call (.builtin "isinstance") [.ref a,.ref D]) Q E s:=
 call_isinstance (S:=fun _ R s=>(K.In s.heap∧ExO s.heap a C ox)∧R (.ok (.ret (.bool false))) { s with toks:=s.toks+1 })
  (fun _ _ _ _ _ hs'=>isinstance_outer (a0Y x hs'.1.1 hs'.1.2 (looks_typeIn hs'.1.1 hty) (by
   obtain ⟨bm,N,nm,q,bs,hdct,sn,sub,ab,col,dd,k0,k1,k2,k3,k5,mN,hC,_⟩:=y.obj hs'.1.1
   intro A' Q' E' s' k q
   unfold isType loadHead
   exact wpAny_bind (wpAny_loadPart (k _ _ hC) (wpAny_pure q))) (Bool.eq_false_iff.mpr fun q=>hne (Value.ref.inj (beq_iff_eq.mp q))) (looks_subIn hs'.1.1 hs) hs'.2) (by intro q;cases q)) ⟨⟨X,I⟩,h⟩
theorem b5W {Q:Value→Shared→Prop} (X:K.In s.heap) (I:ExO s.heap a C ox) (e:isIn K (.ref C) D=true) (h:Q (.bool true) s) :
  wpAny (model prog w) A (call (.builtin "isinstance") [.ref a,.ref D]) Q E s:=isi_call X (fun _=>I.type) e (by intro q;cases q) h
theorem b3h {T:String} {Q:Value→Shared→Prop} (X:K.In s.heap) (I:ExO s.heap a C ox) (hty:typeOf (.type T)=pure (.type "type")) (e:subIn K (.ref C) (.type T)=some true) (h:Q (.bool true) s) :
  wpAny (model prog w) A (call (.builtin "isinstance") [.ref a,.type T]) Q E s:=by
 refine PyProof.Rows.call_isinstance_of ?_ (by intro q;cases q)
 obtain ⟨hh,g,d,t,os⟩:=s
 have L0:=I.type (M:=model prog w)
 have L1:=looks_subIn (M:=model prog w) X e
 unfold Builtin.«isinstance.nested»
 refine wpAny_bind (L0.at ?_)
 rw [if_neg (fun q=>by cases beq_iff_eq.mp q)]
 refine wpAny_bind (m:=typeOf (.type T)) (wpAny_of_eq hty ?_)
 rw [if_pos (by decide)]
 refine wpAny_bind (wpAny_bind (m:=isType (.type T)) (wpAny_pure (a:=true) ?_))
 refine wpAny_bind (m:=isInstance (.ref a) (.type T)) ((L0.andThen L1).at ?_)
 exact wpAny_pure (a:=true) (wpAny_pure h)
theorem a7v {M:Model} {Q:Bool→Shared→Prop} (x:XCls K C) (y:XCls K D) (X:K.In s.heap) (I:ExO s.heap a C ox) (hs:subIn K (.ref C) (.ref D)=some true) (hq:Q true s):wpAny M A (excMatches (.ref a) (.ref D)) Q E s:=by
 obtain ⟨bm,N,nm,q,bs,hdct,sn,sub,ab,col,dd,k0,k1,k2,k3,k5,mN,hC,hN,hni,T⟩:=y.obj X
 obtain ⟨hh,g,d,t,os⟩:=s
 have L1:=looks_subIn (M:=M) X hs
 have hcB:(qi D::bm).contains (.type "BaseException")=true:=by rw [List.contains_cons,T.hasType (X := "BaseException") (b:=true) rfl];rfl
 have f:=tc_notTuple
 unfold excMatches
 repeat (first | (with_reducible refine wpAny_loadPart_at I.at_ ?_;rw [I.cls]) | with_reducible refine wpAny_loadPart_at hC ?_ | with_reducible refine L1.at ?_ | (with_reducible refine wpAny_isSubtype_exc hC ?_;rw [hcB]) | wp_step)
 exact hq
end
end L2.L3
namespace L2.L3
open PySem PySem.Spec PyProof.Rows
section
variable {X:Cx} {pins:List (Addr×Obj)} {σ:St} {H:Hp} {s:Shared}
theorem mR (I:Inv X pins σ H s) {b:Addr} (h:s.heap.get? b=none):mX X b:=by
 refine ⟨?_,fun p hp z=>?_⟩
 ·cases q:X.s₀.heap.get? b with
  | none=>exact .inr rfl
  | some o=>
   refine .inl (Classical.byContradiction fun n=>?_)
   obtain ⟨o',e⟩:=I.base.there b o q n
   rw [h] at e;cases e
 ·obtain ⟨e,_⟩:=I.pin p (jD _ hp)
  rw [z,h] at e;cases e
end
section
variable {X:Cx} {st:Stmt} {f:SF}
def b4q (f:SF):SF:=fun ρ=>match f ρ with
 | some (.xc _ _)=>none
 | r=>r
theorem b5n (h:DS X.nox st f):DS X st (b4q f):=⟨fun pins s σ H D I ⟨ρ,o,H0,G₀,G,e,R,q⟩=>by
 have ⟨e',n⟩:f ρ=some o∧∀ c ρ',o≠.xc c ρ':=by
  unfold b4q at e
  split at e
  ·cases e
  ·rename_i z
   exact ⟨e,fun c ρ' w=>z c ρ' (by rw [e,w])⟩
 have q':sG X.nox H0 G₀ G D o:=by
  cases o with
  | nx ρ'=>exact q
  | rt d=>exact q
  | bk ρ'=>exact q
  | ct ρ'=>exact q
  | xc c ρ'=>exact absurd rfl (n c ρ')
 exact wpAny_mono (h.run pins s σ H D (I.wish _) ⟨ρ,o,H0,G₀,G,e',R,q'⟩) (fun _ _ z=>z.unwish) fun _ _ z=>qk z⟩
def fQ (c:Str):SF:=fun ρ=>some (.xc c ρ)
theorem a9L {x m:Str} {C:Addr} {np sp cpos pos:Pos} {j} (hc:X.calm=true) (hE:dW X.K x=some C) (hX:XCls X.K C) (hg:Gl X x:=by rfl) (hdb:(x==("__debug__" : Str))=false:=by decide)
  (he:starEach [.Constant (.str m) j sp] X.env=(false,eval (.Constant (.str m) j sp) X.env)::starEach [] X.env:=by rfl) (hpl:(backTo cpos (starEach [] X.env)).any (·.1)=false:=by rfl) :
  DS X (.Raise (some (.Call (.Name x np) [.Constant (.str m) j sp] [] cpos)) none pos) (fQ x):=⟨fun pins s σ H D I ⟨ρ,o,H0,G₀,G,e,R,q⟩=>by
 cases (qA e)
 obtain ⟨bm,N,nm,qn,bs,hdct,sn,sub,ab,col,dd,k0,k1,k2,k3,k5,mN,hC,hN,hni,T⟩:=hX.obj I.mod.kin
 have hm:X.mg x=some (.ref C):=jl I.mod.kin I.mod.glob (a1O hE)
 refine wpAny_Raise_call_subT (C:=C) (nm:=nm) (q:=qn) (N:=N) (bs:=bs) (bm:=bm) (hdct:=hdct) (sn:=sn) (sub:=sub) (ab:=ab) (col:=col) (dd:=dd) (k0:=k0) (k1:=k1) (k2:=k2) (k3:=k3) (k5:=k5)
  PySem.F.excBase_ValueError (mN:=mN) (T.hasType PySem.F.excBase_ValueError.hasBase) (I.ok.hd hc) (by rw [he];show (false || (backTo cpos (starEach [] X.env)).any (·.1))=false;rw [hpl];rfl) hni (iT I hg hm ⟨rfl,?_⟩ hdb)
 have h:=cQ (X:=X) (a8o:PE X (.Constant (.str m) j sp) (tC (.str m))) dR he cpos pins s σ H (fun vs H'=>vs=[.str m]∧H'=H) I ⟨rfl,rfl⟩
 rw [he] at h ⊢
 refine ky (thn h fun us s2 ⟨vs,H',I2,rv,e1,e2⟩=>?_)
 subst e1 e2
 refine ⟨rfl,by rw [←rv.length];show 1≤sizeLine;decide,I2.bk _ _ hC,hN.keeps I2.bk,T.keeps I2.bk,fun h' a hm'=>?_⟩
 obtain ⟨t,ht,_,_⟩:=hm'.there
 exact q pins { s2 with heap:=h' } σ H' G _ (I2.kept (t':=s2.toks) hm'.keeps) R (.refl _) ⟨a,C,rfl,hE,.inl (.inl ⟨mR I2 hm'.new,a9k I2.hok hm'.new,_,_,.ref t,ht,rfl,rfl,rfl,rfl⟩)⟩⟩
end
end L2.L3
namespace L2.L3
open PySem PySem.Spec PyProof.Rows
def uX (m n:Nat) (f:SF) (ds:List PyData):Mm PyData:=if ds.length=n then (match f (vX m ds) with
 | some (.rt d)=>some (.ok d)
 | some (.nx _)=>some (.ok .none)
 | some (.xc c _)=>some (.ex c)
 | _=>none) else none
def CX1 (P:Program) (w:World):CXT:=fun outer H s E e s'=>∃ a C H',e=.ref a∧E (.ref C) none H'∧s'.os=s.os∧AllBare s'.gens∧Un (frs outer) [] H H' s.heap s'.heap∧HOk P w H' s'.heap∧ExcAt (fun b=>s.heap.get? b=none) H' a C s'.heap
def b7j (K:qB) (G H:Hp) (Q:VK) (E:XK):Re PyData→Prop
 | .ok d=>∀ v G' H',Grow G H G' H'→Rep K G' v d→Q v H'
 | .ex c=>∀ C G' H',dW K c=some C→Grow G H G' H'→E (.ref C) none H'
def spX (K:qB) (F:List PyData→Mm PyData):Sp:=fun vs H Q E=>∃ G ds r,(aM G H∧lJ K G H)∧RepAll K G vs ds∧F ds=some r∧b7j K G H Q E r
structure CalleeX (P:Program) (w:World) (K:qB) (mg:Str→Option Value) (base:Heap) (x:Str) (k:Nat) (ps:List Str) (F:List PyData→Mm PyData):Prop where
 ex:∃ f fd,mg x=some (.ref f)∧jC K (.ref f)=true∧Binds K fd ps []∧FnOk P w K mg base (CX1 P w) k f fd ps (spX K F)
section
variable {X:Cx} {pins:List (Addr×Obj)} {σ:St} {H:Hp} {s:Shared}
theorem vQ {ch:List Addr} {h':Heap} (I:Inv X pins σ H s) (hex:X.ex=[]) (un:Un (frs X.stack) ch H H s.heap h') (hch:∀ b∈ch,X.s₀.heap.get? b=none):Un X.fs [] X.H₀ H X.s₀.heap h':=by
 have nx:∀ b:Addr,b∉X.ex:=fun b z=>by rw [hex] at z;cases z
 have neL:∀ b o,X.s₀.heap.get? b=some o→b≠X.env.locals:=fun b o e=>qU (qP (qG e) I.ok.above)
 have nc:∀ b o,X.s₀.heap.get? b=some o→b∉ch:=fun b o e z=>by rw [hch b z] at e;cases e
 refine ⟨fun b o e n hb _=>?_,fun b o e n hb _=>?_,fun b o e n _=>I.base.free b o e n (nx b),fun b o e _=>?_,I.base.tups,I.base.frzs,I.base.tbls⟩
 ·exact un.keep b o (I.base.keep b o e n hb (nx b)) (I.base.free b o e n (nx b)) (fun z=>(qM.mp (I.stkSub b z)).elim (neL b o e) hb) (nc b o e)
 ·obtain ⟨sl,e1⟩:=I.base.slot b o e n hb (nx b)
  obtain ⟨sl',e2⟩:=un.any e1 (I.base.free b o e n (nx b)) (nc b o e)
  exact ⟨sl',e2⟩
 ·obtain ⟨o',e1⟩:=I.base.there b o e (nx b)
  exact un.there b o' e1 (nc b o e)
end
section
variable {P:Program} {w:World} {K:qB} {mg:Str→Option Value} {base:Heap} {X:Cx} {e:Expr} {es:List Expr} {pos p:Pos} {x:Str} {k:Nat} {ps N:List Str} {F:List PyData→Mm PyData}
abbrev fcX (P:Program) (w:World) (K:qB) (mg:Str→Option Value) (base:Heap) (N:List Str) (qual:Str) (scope:Scope) (f:Addr) (cd:Value) (A:Around) (outer:List Env) (s:Shared) (H:Hp) (E:XK):Cx:=tZ (CX1 P w) P w K mg base N qual scope f cd A outer s H E
theorem b1O {st:Stmt} {f:SF} {fa:Addr} {fd:FuncData} (m n:Nat) (Fu:Fun K x x st fa fd) (S:FnScope N ps (aC st)) (hm:N.length=m) (hn:ps.length=n)
  (body:∀ (cdv:Value) (A:Around) (outer:List Env) (s:Shared) (H:Hp) (E:XK),Room k (A.deeper (envOfC x (aC st) s.heap.objs.size fa cdv))→DB (fcX P w K mg base N x (aC st) fa cdv A outer s H E) (bI st) f) :
  FnOk P w K mg base (CX1 P w) (k+1) fa fd ps (spX K (uX m n f)):=by
 obtain ⟨oc,od,kV,doc,pm,an,cdv,ct,osl,rfl,lk,hcd⟩:=Fu.ex
 refine a3e lk hcd S (fun vs H Q E ⟨G,ds,r,s,rv,hF,_⟩=>?_) fun A outer s H vs Q E hr ⟨G,ds,r,sm,rv,hF,q⟩=>?_
 ·unfold uX at hF
  split at hF
  ·rename_i hl;rw [rv.length,hl,hn]
  ·cases hF
 ·unfold uX at hF
  split at hF
  ·rw [←hm,←sN] at hF
   split at hF
   ·rename_i d e
    cases (qA hF)
    exact ⟨_,(body cdv A outer s H E hr).run,hV N ds,_,H,G,G,e,gY sm rv,fun v G' H' _ g rv=>q v G' H' g rv⟩
   ·rename_i ρ' e
    cases (qA hF)
    exact ⟨_,(body cdv A outer s H E hr).run,hV N ds,_,H,G,G,e,gY sm rv,fun G' H' σ' _ R'=>q .non G' H' R'.grow .none⟩
   ·rename_i c ρ' e
    cases (qA hF)
    refine ⟨_,(body cdv A outer s H E hr).run,hV N ds,_,H,G,G,e,gY sm rv,fun pins s' σ H' G' e' I R _ ⟨a,C,e1,hE,xa⟩=>?_⟩
    subst e1
    refine xB (X:=fcX P w K mg base N x (aC st) fa cdv A outer s H E) (fr:=fun b=>s.heap.get? b=none) I.ok.frames rfl rfl I (xa.mono fun b hb=>?_) (fun b hb=>?_) fun h' ch un hch hok x'=>?_
    ·rcases hb.1 with z | z
     ·cases z
     ·exact z
    ·cases z:s.heap.get? b with
     | none=>rfl
     | some o=>
      obtain ⟨o',z'⟩:=I.base.there b o z (by intro w;cases w)
      rw [hb] at z';cases z'
    ·exact ⟨a,C,H',rfl,q C G' H' hE R.grow,I.os,I.bare,vQ I rfl un hch,hok,x'⟩
   ·cases hF
  ·cases hF
theorem dF {st:Stmt} {f:SF} (m n:Nat) (D:Def K mg x st) (S:FnScope N ps (aC st)) (hm:N.length=m) (hn:ps.length=n)
  (hb:∀ (kV doc pm:Value) (an:Option Addr) (cdv ct:Value) (us:List Value),us.length=ps.length→bindArgs (jE x x (dQ st) (bI st) (aC st) .none kV doc pm an cdv ct) ⟨us,[]⟩=pure (ps.zip us))
  (body:∀ (fa:Addr) (cdv:Value) (A:Around) (outer:List Env) (s:Shared) (H:Hp) (E:XK),Room k (A.deeper (envOfC x (aC st) s.heap.objs.size fa cdv))→DB (fcX P w K mg base N x (aC st) fa cdv A outer s H E) (bI st) f) :
  CalleeX P w K mg base x (k+1) ps (uX m n f):=by
 obtain ⟨fa,fd,Fu,hmg⟩:=D.ex
 exact ⟨fa,fd,hmg,Fu.kp,Fu.binds hb,b1O m n Fu S hm hn fun cdv A outer s H E hr=>body fa cdv A outer s H E hr⟩
def lU (F:List PyData→Mm PyData) (fa:AF):EF:=fun ρ=>bnd (fa ρ) F
theorem eJ {fa:AF} (C:CalleeX X.prog X.w X.K X.mg X.base x k ps F) (hr:Room k X.A) (ha:DA X (e::es) fa) (hg:Gl X x:=by rfl) (hdb:(x==("__debug__" : Str))=false:=by decide)
  (he:starEach (e::es) X.env=(false,eval e X.env)::starEach es X.env:=by rfl) (hpl:(backTo pos (starEach es X.env)).any (·.1)=false:=by rfl):DE X (.Call (.Name x p) (e::es) [] pos) (lU F fa):=⟨fun pins s σ H Q I ⟨ρ,r,H0,G₀,G,e',R,q⟩=>by
 obtain ⟨f,fd,a,b,c,Fk⟩:=C.ex
 refine wpAny_Call_Name_kw (iT I hg a ?_ hdb)
 refine kF (h₀:=X.base) I.ok.mod.kin b (thn (ha.run pos pins s σ H (fun vs H1=>∃ G1 ds,Grow G H G1 H1∧RepS X.K H0 G₀ G1 H1 σ ρ∧RepAll X.K G1 vs ds∧F ds=some r) I (bA R e' q.x fun ds vs G1 H1 g1 R1 rv e1=>⟨G1,ds,g1,R1,rv,e1⟩))
  fun us s1 ⟨vs,H1,I1,rv,G1,ds,g1,R1,rd,hF⟩=>⟨I1.kIn,?_⟩) he hpl
 have sp:spX X.K F vs H1 Q (fun cv _ H'=>∃ G' C c,cv=.ref C∧r=.ex c∧dW X.K c=some C∧Grow G1 H1 G' H'):=by
  refine ⟨G1,ds,r,⟨g1.sub,R1.tab⟩,rd,hF,?_⟩
  cases r with
  | ok d=>exact fun v G' H' g rv=>q v G' H' (g1.trans g) rv
  | ex c=>exact fun C G' H' hC g=>⟨G',C,c,rfl,rfl,hC,g⟩
 have hl:us.length=ps.length:=by rw [←rv.length];exact Fk.len _ _ _ _ sp
 refine wpAny_call (codeAny_mono (Fk.run X.A X.stack s1 H1 ⟨us,[]⟩ us vs Q _ hr I1.env0 (by simpa using c s1 us I1.kIn (by simpa using hl)) rv sp) fun res s' hq=>?_)
 cases res with
 | error e2=>
  obtain ⟨a2,C2,H2,rfl,⟨G2,C3,c3,e3,rfl,hC,g2⟩,os,bare,un,hok,xa⟩:=hq
  cases e3
  exact q pins s' σ H2 G2 _ (I1.call' (ch:=[]) os un hok bare (fun b z=>nomatch z)) (R1.more g2) (g1.gg.trans g2.gg) ⟨a2,C2,rfl,hC,.inl (xa.mono fun b hb=>mR I1 hb)⟩
 | ok fl=>
  cases fl with
  | ret u=>exact I1.after hq
  | next=>exact qk hq
  | brk=>exact qk hq
  | cont=>exact qk hq⟩
end
end L2.L3
namespace L2.L3
open PySem PySem.Spec PyProof.Rows
section
variable {K:qB} {H0 G₀ G H:Hp} {σ:St} {ρ:List Ent}
end
section
variable {X:Cx} {pins:List (Addr×Obj)} {σ:St} {H:Hp} {s:Shared}
theorem name_goes {M:Model} {A:Around} {E:Value→Shared→Prop} {Q:Unit→Shared→Prop} {j:Nat} {n:Str} {pos:Pos} (I:Inv X pins σ H s) (hN:X.N.Nodup) (hj:X.N[j]?=some n) (hk:X.env.scope.names.lookup n=some .local)
  (h:∀ s',Inv X pins (σ.set j none) H s'→Q () s'):wpAny M A (do bindName X.env n .none;unbindBehindTheSuite X.env n pos) Q E s:=by
 obtain ⟨m,hn,hl⟩:=id I.loc
 obtain ⟨oL,_,_,hoL,_⟩:=id hn
 have hcls:(X.env.scope.kind==.class || (X.env.scope.kind==.module&&X.env.locals != X.env.globals))=false:=by rw [I.ok.kind];rfl
 have hjσ:j<σ.length:=by rw [I.len];exact (qS.mp hj).1
 refine wpAny_nameGoes_keeps hk hn hcls fun h' v hn' hs=>?_
 have ne0:∀ b o,X.s₀.heap.get? b=some o→b≠X.env.locals:=fun b o e=>qU (qP (qG e) I.ok.above)
 refine h _ ⟨I.ok,I.os,I.bare,⟨fun b o e n hb hx=>?_,fun b o e n hb hx=>?_,I.base.free,fun b o e hx=>?_,I.base.tups,I.base.frzs,I.base.tbls⟩,⟨_,hn',fun i y v' e1 e2 e3=>?_⟩,fun y c e=>?_,I.free,I.freeC,fun p hp=>?_,fun b ob e=>?_,by simpa using I.len⟩
 ·exact (hs.2 b (ne0 b o e)).trans (I.base.keep b o e n hb hx)
 ·obtain ⟨sl,e1⟩:=I.base.slot b o e n hb hx
  exact ⟨sl,(hs.2 b (ne0 b o e)).trans e1⟩
 ·obtain ⟨o',e1⟩:=I.base.there b o e hx
  exact ⟨o',(hs.2 b (ne0 b o e)).trans e1⟩
 ·by_cases hi:i=j
  ·subst hi
   rw [jn hjσ] at e2
   cases e2
  ·rw [qt (qr hi)] at e2
   obtain ⟨u',r',q⟩:=hl i y v' e1 e2 e3
   refine ⟨u',r',?_⟩
   rcases q with ⟨k,e⟩ | ⟨k,c,e,z⟩
   ·refine .inl ⟨k,?_⟩
    have:y≠n:=fun e=>hi (wV hN e1 (e▸hj))
    simp [this,e]
   ·exact .inr ⟨k,c,e,z.sameBut hs (I.cne y c e)⟩
 ·obtain ⟨w',z⟩:=I.cell y c e
  exact ⟨w',z.sameBut hs (I.cne y c e)⟩
 ·obtain ⟨e,n,ne,nf,d⟩:=I.pin p hp
  exact ⟨(hs.2 p.1 ne).trans e,n,ne,nf,d⟩
 ·refine (I.hok b ob e).stay (fun c w' hc q=>(hs.2 c ?_).trans q) (fun _ q=>q) fun _ _ q=>q
  rintro rfl
  rcases hc with rfl | hc
  ·rw [I.free] at e;cases e
  ·rw [I.free] at hc;cases hc
abbrev Cx.suite (X:Cx) (a:Addr):Cx:={ X with A:=X.A.mark (some (.ref a)),calm:=false,xe:=fun _ _=>False }
theorem a0F (I:Inv X pins σ H s) (a:Addr):Inv (Cx.suite X a) pins σ H s:=
 ⟨⟨I.ok.mod,I.ok.kind,I.ok.glob,I.ok.blt,I.ok.above,I.ok.inj,I.ok.has,I.ok.cab,(fun z=>nomatch z),I.ok.frames,I.ok.stk,I.ok.exf,I.ok.bs,I.ok.bsz,I.ok.noex,I.ok.exfs,I.ok.funs,I.ok.frf⟩,I.os,I.bare,I.base,I.loc,I.cell,I.free,I.freeC,I.pin,I.hok,I.len⟩
theorem a3b {a:Addr} (I:Inv (Cx.suite X a) pins σ H s) (ok:X.Ok):Inv X pins σ H s:=⟨ok,I.os,I.bare,I.base,I.loc,I.cell,I.free,I.freeC,I.pin,I.hok,I.len⟩
end
section
variable {X:Cx} {body:List Stmt} {f:SF}
end
end L2.L3
namespace L2.L3
open PySem PySem.Spec PyProof.Rows
def a2k (K:qB) (C:Addr):Bool:=PySem.W.excIn K C b5L "ValueError.__new__" && (qm K (.ref C) "__getattribute__" == some (some (.builtin "BaseException.__getattribute__")))&&(qm K (.ref C) "__getattr__" == some none)
 && (qm K (.ref C) "__class__" == some (some (.builtin "object.__class__")))&&(PySem.W.mroIn K C (.type "object")==some true)
def a5A (K:qB) (S:Addr) (c:Str):Bool:=match dW K c with
 | some C=>a2k K C&&(PySem.W.typeIn K (.ref C)==some (.type "type"))&&(jy K (.ref C) (.type "ValueError")==some true)&&(jy K (.ref C) (.ref S)==some true)
 | none=>false
def b2W (K:qB) (c d:Str):Bool:=c==d || match dW K c,dW K d with
 | some C,some D=>(C != D)&&(jy K (.ref C) (.ref D)==some false)
 | _,_=>false
theorem a0X {K:qB} {C:Addr} (h:a2k K C=true):XCls K C:=by
 simp only [a2k,qH,beq_iff_eq] at h
 exact ⟨h.1.1.1.1,h.1.1.1.2,h.1.1.2,h.1.2,h.2⟩
section
variable {X:Cx} {pos p p2:Pos} {x:Str}
theorem b6a:typeOf (.type "ValueError")=pure (.type "type"):=by kernel_rfl
end
def b3I (m:Nat) (f:SF) (c:Str):Mm PyData:=match f (.exc c::qV (m - 1) .no) with
 | some (.rt d)=>some (.ok d)
 | some (.nx _)=>some (.ok .none)
 | _=>none
theorem a6h {K:qB} {G H:Hp} {N:List Str} {a C:Addr} {c:Str} (s:aM G H∧lJ K G H) (hC:dW K c=some C) (hH:H a=some (xcO a C)):RepS K H G G H (start N [.ref a]) (.exc c::qV (N.length - 1) .no):=by
 refine ⟨.refl s.1,by simp [start,Nat.add_comm],fun i o e h1 h2=>?_,Inj.free (fun i e h2=>?_),s.2⟩
 ·cases i with
  | zero=>
   have h1:some (some (V.ref a))=some o:=by simpa [start] using h1
   cases h1
   cases (qA h2)
   exact ⟨a,C,rfl,hC,hH⟩
  | succ i=>
   rw [List.getElem?_cons_succ,jL] at h2
   split at h2
   ·cases h2;trivial
   ·cases h2
 ·cases i with
  | zero=>cases (qA h2);rfl
  | succ i=>
   rw [List.getElem?_cons_succ,jL] at h2
   split at h2
   ·cases h2;rfl
   ·cases h2
section
variable {P:Program} {w:World} {K:qB} {mg:Str→Option Value} {base:Heap} {X:Cx} {pos p p2:Pos} {x y:Str} {k:Nat} {ps N:List Str} {F:Str→Mm PyData}
end
end L2.L3
namespace L2.L3
open PySem PySem.Spec PyProof.Rows
section
variable {X:Cx} {body:List Stmt} {f:SF}
end
end L2.L3
namespace L2.L3
open PySem PySem.Spec PyProof.Rows
section
variable {X:Cx} {body:List Stmt} {f:SF}
def a9D (L:List Str) (K:qB):Bool:=match dW K "SheetError" with
 | some S=>a2k K S&&L.all (a5A K S)
 | none=>false
structure ExL (L:List Str) (K:qB):Prop where
 ok:a9D L K=true
theorem ExL.she {L:List Str} {K:qB} (F:ExL L K):∃ S,dW K "SheetError" = some S∧XCls K S∧∀ c∈L,∃ C,dW K c=some C∧XCls K C∧jy K (.ref C) (.ref S)=some true:=by
 have h:=F.ok
 unfold a9D at h
 split at h
 ·rename_i S hS
  rw [qH] at h
  refine ⟨S,hS,a0X h.1,fun c hc=>?_⟩
  have h2:=jN.mp h.2 c hc
  unfold a5A at h2
  split at h2
  ·rename_i C hC
   simp only [qH,beq_iff_eq] at h2
   exact ⟨C,hC,a0X h2.1.1.1,h2.2⟩
  ·cases h2
 ·cases h
theorem dD {L:List Str} {x m:Str} {np sp cpos pos:Pos} {j} (F:ExL L X.K) (hc:X.calm=true) (hx:x∈L:=by decide) (hg:Gl X x:=by rfl) (hdb:(x==("__debug__" : Str))=false:=by decide)
  (he:starEach [.Constant (.str m) j sp] X.env=(false,eval (.Constant (.str m) j sp) X.env)::starEach [] X.env:=by rfl) (hpl:(backTo cpos (starEach [] X.env)).any (·.1)=false:=by rfl) :
  DS X (.Raise (some (.Call (.Name x np) [.Constant (.str m) j sp] [] cpos)) none pos) (fQ x):=by
 obtain ⟨S,_,_,h3⟩:=F.she
 obtain ⟨C,h1,h2,_⟩:=h3 x hx
 exact a9L hc h1 h2 hg hdb he hpl
end
end L2.L3
namespace L2.L3
open PySem PySem.Spec PyProof.Rows
section
variable {M:Model} {A:Around} {E:Value→Shared→Prop} {s:Shared} {env:Env}
def cpX (M:Model) (A:Around) (E:Value→Shared→Prop) (env:Env) (Q:Value→Shared→Prop) (acc:Value) (C:Addr) (r:Result) (s':Shared):Prop:=
 match r with
 | .ok _=>∃ m,s'.heap.Ns C m∧∀ h',jk C s'.heap h'→Q acc { s' with heap:=h' }
 | .error x=>∃ m,s'.heap.Ns C m∧∀ h',jk C s'.heap h'→∀ ce:Env,ce.frame=env.frame→wpAny M A (PySem.passOn "comprehension.variables-let-go" x ce:Sem Value) (fun _ _=>False) E { s' with heap:=h' }
theorem a4B {e:Expr} {scope:Scope} {pos:Pos} {newAcc first:Sem Value} {g:Comprehension} {gs:List Comprehension} {cl:List (Str×Addr)} {Q:Value→Shared→Prop}
  (hcl:clausesOf e=g::gs) (hs:∀ x,foldedSetIterable g.iter env x=pure x) (hclos:closureFor scope env=pure cl)
  (hkind:scope.kind=.function) (hnames:∀ x∈scope.names,x.2=.local→scope.names.lookup x.1=some .local)
  (h:wpAny M A first (fun x s₁=>wpAny M A (pyIter x) (fun it s₂=>wpAny M A newAcc (fun acc s₃=>
   wpAny M A (newFunctionEnv scope env.globals cl [] env.qual none .none (some env)) (fun cenv s₄=>cenv.frame=env.frame ∧
    codeAny M A (.compStart e 0 it acc { cenv with scope:=relabel scope env }) (cpX M A E env Q acc cenv.locals) s₄) E s₃) E s₂) E s₁) E s) :
  wpAny M A (comprehension e scope env pos newAcc false first none) Q E s:=by
 unfold comprehension
 rw [hclos,hcl]
 refine wpAny_bind (wpAny_mono h (fun x s₁ h₁=>wpAny_bind (wpAny_standAt (wpAny_bind (wpAny_of_eq (hs x) (wpAny_bind (wpAny_holding (wpAny_mono h₁ (fun it s₂ h₂=>
  wpAny_standIf (wpAny_bind (wpAny_mono h₂ (fun acc s₃ h₃=>wpAny_bind (wpAny_pure (wpAny_bind (wpAny_mono h₃ (fun cenv s₄ h₄=>?_) fun _ _ h'=>h')))) fun _ _ h'=>h')))
   fun _ _ h'=>h'))))))) fun _ _ h'=>h')
 dsimp only
 obtain ⟨hfr,h₄⟩:=h₄
 have hv:∀ x∈(scope.names.filter fun x=>(x.2==.local || x.2==.cell)&&x.1 != (".0" : Str)).reverse,x.2=.local →
   Env.kindOf { cenv with scope:=relabel scope env } x.1=some .local:=fun x hx hl=>lookup_relabel_local (hnames x (List.mem_filter.mp (List.mem_reverse.mp hx)).1 hl)
 refine wpAny_holding (wpAny_bind (wpAny_attempt (wpAny_holding (wpAny_run (codeAny_mono h₄ fun r s' hr=>?_)))))
 cases r with
 | ok f=>
  obtain ⟨m,hn,hr⟩:=hr
  exact wpAny_bind (wpAny_holding (wpAny_comp_letGo (cenv:={ cenv with scope:=relabel scope env }) hkind _ s' m hv hn fun h' m' _ hs'=>wpAny_pure (hr h' hs')))
 | error x=>
  obtain ⟨m,hn,hr⟩:=hr
  exact wpAny_bind (wpAny_holding (wpAny_comp_letGo (cenv:={ cenv with scope:=relabel scope env }) hkind _ s' m hv hn fun h' m' _ hs'=>wpAny_mono (hr h' hs' _ hfr) (fun _ _ f=>f.elim) fun _ _ y=>y))
end
section
variable {X:Cx} {pins:List (Addr×Obj)} {σ:List (Option V)} {H H':Hp} {s:Shared} {h':Heap} {a C:Addr} {fr:Addr→Prop}
theorem b5f {M:Model} {A:Around} {E:Value→Shared→Prop} {Q:Unit→Shared→Prop} {fl:Value} (o:Option Addr) (hok:HOk X.prog X.w H s.heap) (x:pQ fr fl H a C s.heap)
  (h:∀ h' ch,Chg X fr ch H s.heap h'→pQ fr (o.elim .none fun f=>rawInt f) H a C h'→Q () { s with heap:=h' }):wpAny M A (setFlight (.ref a) o) Q E s:=by
 obtain ⟨h1,h2,oe,vs,a0,T,oT,ts,e1,e2,e3,e4,e5,e6,e7,e8,e9,e10,e11⟩:=x
 have sz:3<ts.size:=(kr.mp e11).1
 unfold setFlight
 refine wpAny_bind (wpAny_field e1 e3 e5 ?_)
 rw [if_pos (show (qi T != jf)=true from by simp)]
 refine wpAny_setField e9 e10 sz (h _ [T] ⟨fun b z=>?_,⟨fun b o e n _ n2=>?_,fun b o e n _ n2=>?_,fun b o e n _=>n,fun b o e n2=>?_,fun _ _ q=>q,fun _ _ _ q=>q,fun _ ps q=>⟨#[],by rw [q];simp⟩⟩,fun b u q=>?_⟩ ?_)
 ·cases qh.mp z;exact ⟨e6,e7,oT,ts,e9,e10⟩
 ·rw [qY _ _ (fun z=>n2 (by simp [z]))];exact e
 ·exact ⟨o.slots,by rw [qY _ _ (fun z=>n2 (by simp [z]))];exact e⟩
 ·exact ⟨o,by rw [qY _ _ (fun z=>n2 (by simp [z]))];exact e⟩
 ·have tr:∀ c u,H c=some u→T≠c:=fun c u q z=>by rw [←z,e7] at q;cases q
  refine (hok b u q).stay (fun c v hc z=>?_) (fun _ z=>z) fun _ _ z=>z
  rcases hc with rfl | hc
  ·rw [qY _ _ (tr c u q)];exact z
  ·rw [qY _ _ (tr c _ hc)];exact z
 ·refine ⟨h1,h2,oe,vs,a0,T,_,_,?_,e2,e3,e4,e5,e6,e7,e8,jj _ e9 (Obj.isFreed_of_fields (zG e10 _)),zG e10 _,by simp [sz]⟩
  rw [qY _ _ e8];exact e1
theorem b0V {α:Type} {M:Model} {A:Around} {E:Value→Shared→Prop} {Q:α→Shared→Prop} {fl:Value} {ce:Env} {wh:String} (hok:HOk X.prog X.w H s.heap) (x:pQ fr fl H a C s.heap)
  (h:∀ h' ch,Chg X fr ch H s.heap h'→pQ fr (ce.frame.elim .none fun f=>rawInt f) H a C h'→E (.ref a) { s with heap:=h' }):wpAny M A (PySem.passOn wh (.ref a) ce:Sem α) Q E s:=by
 have x':=x
 obtain ⟨h1,h2,oe,vs,a0,T,oT,ts,e1,e2,e3,e4,e5,e6⟩:=x
 unfold PySem.passOn
 refine wpAny_bind (wpAny_field e1 e3 e5 ?_)
 rw [if_neg (by simp)]
 exact wpAny_bind (b5f ce.frame hok x' fun h' ch c x2=>wpAny_throw (h h' ch c x2))
end
def uM (t:Tg) (ρb:List Ent) (ft:TF) (fe:EF):List PyData→Mm (List PyData)
 | []=>some (.ok [])
 | d::ds=>match tgD t ρb d with
  | none=>none
  | some ρx=>(match ft ρx with
   | some (.ok true)=>bnd (fe ρx) fun v=>bnd (uM t ρb ft fe ds) fun vs=>some (.ok (v::vs))
   | some (.ok false)=>uM t ρb ft fe ds
   | _=>none)
def a9V (t:Tg) (cap:List (Option Nat)) (fi:AF) (ft:TF) (fe:EF):EF:=fun ρ=>bnd (fi ρ) fun ds=>if dA ds.length then bnd (uM t (cJ cap ρ) ft fe ds) fun es=>some (.ok (.list es)) else none
theorem wX {t:Tg} {ρb:List Ent} {ft:TF} {fe:EF}:∀ {ds es:List PyData},uM t ρb ft fe ds=some (.ok es)→rB t ρb ft fe ds=some es
 | [],es,h=>by cases h;rfl
 | d::ds,es,h=>by
  unfold uM at h
  unfold rB
  split at h
  ·cases h
  ·rename_i ρx et
   split at h
   ·rename_i e1
    rcases bU h with ⟨v,ev,h2⟩ | ⟨c,_,z⟩
    ·rcases bU h2 with ⟨vs,es',h3⟩ | ⟨c,_,z⟩
     ·cases h3
      simp only [et,e1,ev,wX es',Option.map_some]
     ·cases z
    ·cases z
   ·rename_i e1
    try simp only [et,e1]
    exact wX h
   ·cases h
theorem a2V {t:Tg} {ρb:List Ent} {ft:TF} {fe:EF} {c:Str}:∀ {ds:List PyData},uM t ρb ft fe ds=some (.ex c)→∃ pre d post,ds=pre++d::post ∧
  (∀ x∈pre,tgD t ρb x=some (cX t ρb x)∧ft (cX t ρb x)=some (.ok (cT t ρb ft x))∧(cT t ρb ft x=true→∃ v,fe (cX t ρb x)=some (.ok v))) ∧
  tgD t ρb d=some (cX t ρb d)∧ft (cX t ρb d)=some (.ok true)∧fe (cX t ρb d)=some (.ex c)
 | [],h=>by cases h
 | d::ds,h=>by
  unfold uM at h
  split at h
  ·cases h
  ·rename_i ρx et
   have ex:cX t ρb d=ρx:=by unfold cX;rw [et];rfl
   have go:uM t ρb ft fe ds=some (.ex c)→(ft ρx=some (.ok (cT t ρb ft d))∧(cT t ρb ft d=true→∃ v,fe ρx=some (.ok v)))→∃ pre d' post,d::ds=pre++d'::post ∧
     (∀ x∈pre,tgD t ρb x=some (cX t ρb x)∧ft (cX t ρb x)=some (.ok (cT t ρb ft x))∧(cT t ρb ft x=true→∃ v,fe (cX t ρb x)=some (.ok v))) ∧
     tgD t ρb d'=some (cX t ρb d')∧ft (cX t ρb d')=some (.ok true)∧fe (cX t ρb d')=some (.ex c):=fun h1 h2=>by
    obtain ⟨pre,d',post,e1,e2,e3⟩:=a2V h1
    refine ⟨d::pre,d',post,by rw [e1];rfl,fun x hx=>?_,e3⟩
    rcases qM.mp hx with rfl | hx
    ·rw [ex];exact ⟨et,h2.1,h2.2⟩
    ·exact e2 x hx
   split at h
   ·rename_i e1
    have e1':cT t ρb ft d=true:=by unfold cT;rw [ex,e1]
    rcases bU h with ⟨v,ev,h2⟩ | ⟨c',ev,z⟩
    ·rcases bU h2 with ⟨vs,es',h3⟩ | ⟨c',e3,z⟩
     ·cases h3
     ·cases z
      exact go e3 ⟨by rw [e1'];exact e1,fun _=>⟨v,ev⟩⟩
    ·cases z
     exact ⟨[],d,ds,rfl,fun _ z=>absurd z (by simp),by rw [ex];exact et,by rw [ex];exact e1,by rw [ex];exact ev⟩
   ·rename_i e1
    have e1':cT t ρb ft d=false:=by unfold cT;rw [ex,e1]
    exact go h ⟨by rw [e1'];exact e1,fun z=>by rw [e1'] at z;cases z⟩
   ·cases h
def eX (K:qB) (xs:List PyData) (ρx:PyData→List Ent) (fe:EF) (c:Str) (H0 G₀:Hp):TE:=fun σ H Q=>∃ x r G,x∈xs∧fe (ρx x)=some r∧RepS K H0 G₀ G H σ (ρx x) ∧
 (match r with | .ok d=>∀ v G' H',Grow G H G' H'→Rep K G' v d→Q v H' | .ex c'=>c'=c)
theorem b3x {K:qB} {J:It} {H0 G₀ G H:Hp} {σ:St} {ρ ρb:List Ent} {cap:List (Option Nat)} {pre post:List PyData} {d:PyData} {c:Str} {ρx:PyData→List Ent} {cnd:PyData→Bool} {fe:EF} (R:RepS K H0 G₀ G H σ ρ) (wk:Walk K J G (pre++d::post)) (hb:Weak (cJ cap ρ) ρb)
  (hw:∀ x∈pre++[d],Weak (ρx x) ρb) (hz:(pre++d::post).length≤sizeLine) (hp:∀ x∈pre,cnd x=true→∃ v,fe (ρx x)=some (.ok v)) (hd:cnd d=true) (he:fe (ρx d)=some (.ex c)) :
  oZ J (gU K (pre++[d]) (fun x=>x) ρb ρx) (tU K (pre++[d]) ρx cnd) (eX K (pre++[d]) ρx fe c H G) (eK cap σ) H (fun _ _=>False):=by
 refine ⟨fun D i m ys σ' H'=>m=pre.length - i∧i≤pre.length∧ys.length≤i∧∃ G',RepS K H G G' H' σ' ρb∧G' D=none,fun D hD=>⟨⟨pre.length,by simp,jA _,jA _,G,?_,R.sub.free hD⟩,?_⟩⟩
 ·exact ((R.cap cap).more (.side R.sub hD)).weak hb
 ·rintro i m ys σ1 H1 ⟨rfl,hi,hys,G1,R1,hG1⟩ hD1
  obtain ⟨wgo,wstop⟩:=wk i G1 H1 R1.grow.gg R1.sub
  have hx:∃ x,(pre++[d])[i]?=some x∧(pre++d::post)[i]?=some x∧x∈pre++[d]∧((i<pre.length∧x∈pre)∨x=d):=by
   by_cases h:i<pre.length
   ·refine ⟨pre[i],?_,?_,?_,.inl ⟨h,jM h⟩⟩
    ·rw [qc h];exact qN h
    ·rw [qc h];exact qN h
    ·exact jD _ (jM h)
   ·have:i=pre.length:=by omega
    subst this
    exact ⟨d,by simp,by simp,by simp,.inr rfl⟩
  obtain ⟨x,_,hx2,hm,hx4⟩:=hx
  obtain ⟨go,yl⟩:=wgo x hx2
  refine .inr ⟨go,fun v H2 y=>?_⟩
  obtain ⟨G2,g2,rx⟩:=yl v H2 y
  refine ⟨x,hm,H,G,G2,R1.more g2,rx,fun σ3 R3=>⟨x,hm,H,G,G2,R3,fun G4 H4 g4=>?_⟩⟩
  have g14:=g2.trans g4
  have hD4:H4 D=some (.lst ys):=g14.hh.lst hD1
  have hG4:G4 D=none:=g14.new D hG1 (by rw [hD1];simp)
  dsimp only
  have hzz:pre.length<sizeLine:=by rw [jU,qb] at hz;omega
  rcases hx4 with ⟨hlt,hpre⟩ | rfl
  ·by_cases hcx:cnd x=true
   ·rw [if_pos hcx]
    obtain ⟨w,ew⟩:=hp x hpre hcx
    refine ⟨x,.ok w,G4,hm,ew,R3.more g4,fun v G5 H5 g5 rv=>?_⟩
    have hD5:H5 D=some (.lst ys):=g5.hh.lst hD4
    have hG5:G5 D=none:=g5.new D hG4 (by rw [hD4];simp)
    refine ⟨hD5,by omega,pre.length - (i+1),by omega,rfl,hlt,by simp;omega,G5,?_,hG5⟩
    have R5:RepS K H G G5 H5 σ3 ρb:=((R3.more g4).more g5).weak (hw _ hm)
    have noOwn:∀ (j:Nat) (e:Ent),ρb[j]?=some e→xH e=false:=fun j e h2=>by
     rcases hb.at h2 with z' | z'
     ·rw [z'];rfl
     ·exact uC cap ρ j e z'
    have hHD:H D=none:=hD
    refine ⟨⟨R5.grow.gg,R5.grow.hh.wr hHD hD5,fun b o e=>?_,R5.grow.new,R5.grow.nt⟩,R5.len,fun j o e h1 h2=>?_,Inj.free (fun j e h2=>noOwn j e h2),R5.tab.wr hD5⟩
    ·rw [aG (aL e hG5)];exact R5.sub b o e
    ·have E:=R5.ent j o e h1 h2
     cases e with
     | no=>trivial
     | val d=>exact E
     | exc c=>obtain ⟨b,C,z,g1,g2⟩:=E;exact ⟨b,C,z,g1,by rw [aG (bZ g2 hD5 (by unfold xcO;nofun))];exact g2⟩
     | lst es=>have:=noOwn j _ h2;cases this
     | nst dss=>have:=noOwn j _ h2;cases this
     | dct kvs=>have:=noOwn j _ h2;cases this
     | adr a=>exact E
     | ro oa b=>exact oR.wr E hHD
   ·rw [if_neg hcx]
    exact ⟨hD4,pre.length - (i+1),by omega,rfl,hlt,by omega,G4,(R3.more g4).weak (hw _ hm),hG4⟩
  ·rw [if_pos hd]
   exact ⟨x,.ex c,G4,hm,he,R3.more g4,rfl⟩
section
variable {X:Cx} {elt iter tg:Expr} {ifs:List Expr} {scope:Scope} {pos spos p:Pos} {N':List Str} {cap:List (Option Nat)} {t:Tg} {fi:AF} {ft:TF} {fe:EF}
def b5S (X:Cx) (scope:Scope) (N':List Str) (c:Str) (G H:Hp) (C:Addr) (s₃:Shared) (H₃:Hp) (fp:List Addr) (e:Value) (s':Shared):Prop:=
 ∃ pins σ H' G',Inv (bW X scope N' C s₃ H₃ fp) pins σ H' s'∧Grow G H G' H'∧a5W (bW X scope N' C s₃ H₃ fp) c e H' s'
theorem b3k {pins:List (Addr×Obj)} {σ:St} {H0 G₀ G H H₃:Hp} {s₃ s':Shared} {fp:List Addr} {c:Str} {e:Value} {ρ:List Ent} {cl:List (Str×Addr)} {acc:Value} {Q:Value→Shared→Prop} (hst:X.stack=X.env::X.outer) (hf:X.env.frame=some X.env.locals)
  (I3:Inv X pins σ H₃ s₃) (hf3:∀ b∈fp,uF X pins H₃ b) (R:RepS X.K H0 G₀ G H σ ρ) (q:lW X H0 G₀ G ρ c) (z:b5S X scope N' c G H s₃.heap.objs.size s₃ H₃ fp e s') :
  notedBy (model X.prog X.w) X.A (compEnvC scope cl s₃.heap.objs.size X.env) (fun x s'=>cpX (model X.prog X.w) X.A X.xe X.env Q acc s₃.heap.objs.size (.error x) s') e s':=by
 obtain ⟨pins',σ',H',G',Ib,g,a,C,rfl,hC,xa⟩:=z
 have IX:Inv X pins σ H' s':=I3.call' (ch:=fp) Ib.os Ib.base Ib.hok Ib.bare fun b hb=>by
  obtain ⟨_,f1,_,f3,f4,f5⟩:=hf3 b hb
  exact ⟨f3,f1,f4,f5⟩
 have pinNe:∀ b,(s₃.heap.get? b=none∨s'.heap.get? b=none)→∀ p∈pins,p.1≠b:=fun b hb p hp w=>by
  rcases hb with hb | hb
  ·have:=(I3.pin p (qW _ hp)).1;rw [w,hb] at this;cases this
  ·have:=(IX.pin p (qW _ hp)).1;rw [w,hb] at this;cases this
 have xa':iZ X (fun b=>mX X b∧∀ p∈pins,p.1≠b) H' a C s'.heap:=xa.mono fun b hb=>by
  rcases hb.1 with w | w
  ·obtain ⟨_,f1,_,f3,f4,f5⟩:=hf3 b w
   refine ⟨⟨f3.imp id fun y=>zx y,fun p hp=>f5 p (jD _ hp)⟩,fun p hp=>f5 p (qW _ hp)⟩
  ·exact ⟨mR I3 w,pinNe b (.inl w)⟩
 show wpAny (model X.prog X.w) X.A (noteFrame (.ref a) X.env) _ _ s'
 refine wU (X:=X) IX.ok.frames hst hf IX xa' (fun b hb=>⟨mR IX hb,pinNe b (.inr hb)⟩) fun h1 ch1 c1 x1=>?_
 have I1:Inv X pins σ H' { s' with heap:=h1 }:=Inv.chg IX c1
 obtain ⟨m,hn,_⟩:=Ib.loc
 obtain ⟨oL,es,ep,hoL,rL⟩:=hn
 have hoL:s'.heap.get? s₃.heap.objs.size=some oL:=hoL
 have cL:s₃.heap.objs.size∉ch1:=fun z=>by
  obtain ⟨_,_,o,vs,e1,e2⟩:=c1.ch _ z
  rw [hoL] at e1;cases e1
  rw [rL.1] at e2;cases e2
 obtain ⟨sl,qL⟩:=c1.un.any hoL Ib.free cL
 have nL:s₃.heap.objs.size≠X.env.locals:=kC I3.lt
 refine ⟨m,⟨_,es,ep,qL,rL⟩,fun h2 hs2 ce hce=>?_⟩
 have hs2:jk s₃.heap.objs.size h1 h2:=hs2
 have I2:Inv X pins σ H' { s' with heap:=h2 }:=Inv.turned (s:={ s' with heap:=h1 }) (t':=s'.toks) (it:=s₃.heap.objs.size) I1 (fun b o hb e=>hs2.extBut b o hb e) Ib.free nL (.inr I3.sz) (fun x c e z=>by
   obtain ⟨v,q⟩:=I3.cell x c e
   exact absurd q.lt (by rw [z];exact jG _)) fun p hp z=>by
   exact absurd (qG (I3.pin p hp).1) (by rw [z];exact jG _)
 have x2:pQ (fun b=>mX X b∧∀ p∈pins,p.1≠b) (rawInt X.env.locals) H' a C h2:=by
  obtain ⟨h1',h2',oe,vs,a0,T,oT,ts,e1,e2,e3,e4,e5,e6,e7,e8,e9,e10,e11⟩:=x1
  have ne:∀ b o us,h1.get? b=some o→o.data=.fields us→b≠s₃.heap.objs.size:=fun b o us e d w=>by
   rw [w,qL] at e;cases e
   have d:oL.data=.fields us:=d
   rw [rL.1] at d;cases d
  exact ⟨h1',h2',oe,vs,a0,T,oT,ts,hs2.extBut _ _ (ne _ _ _ e1 e3) e1,e2,e3,e4,e5,e6,e7,e8,hs2.extBut _ _ (ne _ _ _ e9 e10) e9,e10,e11⟩
 refine b0V (X:=X) (s:={ s' with heap:=h2 }) I2.hok x2 fun h3 ch3 c3 x3=>?_
 rw [hce,hf] at x3
 exact q pins _ σ H' G' _ (Inv.chg (s:={ s' with heap:=h2 }) I2 c3) (R.more g) g.gg ⟨a,C,rfl,hC,.inr ⟨_,hf,x3.mono fun b hb=>hb.1⟩⟩
theorem a9U (hst:X.stack=X.env::X.outer) (hfr:X.env.frame=some X.env.locals) (hc:X.calm=true) (B:Blk X scope N' cap) (hi:DI X tg iter fi) (hf:a1d cap t=true) (hg:∀ C s₃ H₃ fp,DG (bW X scope N' C s₃ H₃ fp) tg t) (ht:∀ C s₃ H₃ fp,DTs (bW X scope N' C s₃ H₃ fp) ifs ft)
  (he:∀ C s₃ H₃ fp E,DE ((bW X scope N' C s₃ H₃ fp).wish E) elt fe) (hs:∀ x,foldedSetIterable iter X.env x=pure x:=by intro _;rfl):DE X (.ListComp elt [⟨tg,iter,ifs,0⟩] scope pos) (a9V t cap fi ft fe):=⟨fun pins s σ H Q I ⟨ρ,r,H0,G₀,G,e,R,q⟩=>by
 have old:∀ r',gL t cap fi ft fe ρ=some r'→r'=r→wpAny (model X.prog X.w) X.A (eval (.ListComp elt [⟨tg,iter,ifs,0⟩] scope pos) X.env) (EP X pins σ Q) X.xe s:=fun r' e' er=>by
  subst er
  exact (iV hc B hi hf hg ht (fun C s₃ H₃ fp=>he C s₃ H₃ fp fun _ _=>False) hs).run pins s σ H Q I ⟨ρ,_,H0,G₀,G,e',R,q⟩
 rcases bU e with ⟨ds,e1,e2⟩ | ⟨c,e1,e2⟩
 ·split at e2
  ·rename_i hz
   rcases bU e2 with ⟨es,e3,e4⟩ | ⟨c,e3,e4⟩
   ·cases e4
    refine old _ ?_ rfl
    unfold gL
    rw [e1,b2z,if_pos hz,wX e3];rfl
   ·subst e4
    obtain ⟨pre,d,post,e5,e6,e7,e8,e9⟩:=a2V e3
    rw [eval_ListComp]
    refine a4B rfl hs (gT fun p hp hk=>I.ok.has p.1 (.inl (B.free p hp hk))) B.kind B.names ?_
    refine thn (hi.run pins s σ H (fun J H'=>∃ G',Grow G H G' H'∧Walk X.K J G' ds) I ⟨ρ,_,H0,G₀,G,e1,R,fun J G' H' g w=>⟨G',g,w⟩⟩) fun v s1 h1=>thn h1 fun itv s2 ⟨it,fp,tn,J,H2,e',I2,T,st2,f2,G2,g2,wk⟩=>?_
    subst e'
    have R2:=R.more g2
    have cTd:cT t (cJ cap ρ) ft d=true:=by unfold cT;rw [e8]
    have hpd:∀ x∈pre++[d],tgD t (cJ cap ρ) x=some (cX t (cJ cap ρ) x)∧ft (cX t (cJ cap ρ) x)=some (.ok (cT t (cJ cap ρ) ft x)):=fun x hx=>by
     rcases qg.mp hx with hx | hx
     ·exact ⟨(e6 x hx).1,(e6 x hx).2.1⟩
     ·cases qh.mp hx
      exact ⟨e7,by rw [cTd];exact e8⟩
    refine a0N (RR:=fun acc C=>cpX (model X.prog X.w) X.A X.xe X.env (EP X pins σ Q) acc C) (XE:=fun C s₃ H₃ fp=>b5S X scope N' c G2 H2 C s₃ H₃ fp) (g:=gU X.K (pre++[d]) (fun x=>x) (cJ cap ρ) (cX t (cJ cap ρ))) (tc:=tU X.K (pre++[d]) (cX t (cJ cap ρ)) (cT t (cJ cap ρ) ft))
     (Q:=fun _ _=>False) (te:=eX X.K (pre++[d]) (cX t (cJ cap ρ)) fe c H2 G2) hc B I2 T st2 f2 (fun C s₃ H₃ fp pins s σ H v u Q I r ⟨x,hx,q⟩=>((hg C s₃ H₃ fp).run _ _ _ (hpd x hx).1).run pins s σ H v u Q I r q)
     (fun C s₃ H₃ fp pins s σ H Q I ⟨x,hx,q⟩=>((ht C s₃ H₃ fp).run _ _ (hpd x hx).2).run pins s σ H Q I q) (fun C s₃ H₃ fp pins s σ H Q I ⟨x,r,G',hx,er,R',q'⟩=>?_)
     (b3x R2 (e5▸wk) (.refl _) (fun x hx=>a0Z hf (hpd x hx).1) (e5▸fM hz) (fun x hx hcx=>(e6 x hx).2.2 hcx) cTd e9) (fun D s₃ H₃ e s' I3 hf3 hD hH hsz z=>?_) (fun D C s' H' m' _ _ _ _ _ z=>z.elim)
    ·refine (he C s₃ H₃ fp (b5S X scope N' c G2 H2 C s₃ H₃ fp)).run pins s σ H Q I ⟨_,r,H2,G2,G',er,R',?_⟩
     cases r with
     | ok d=>exact q'
     | ex c'=>
      cases q'
      exact fun pins s' σ H' G'' e I' R'' _ x=>⟨pins,σ,H',G'',I'.unwish,R''.grow,x⟩
    ·exact b3k hst hfr I3 hf3 R2 (q.mono g2.gg) z
  ·cases e2
 ·subst e2
  refine old _ ?_ rfl
  unfold gL
  rw [e1];rfl⟩
end
end L2.L3
namespace L2.ST
open PySem PySem.W PyProof.Rows
section
variable {α β:Type} {lt:Nat→Nat→Bool} {n:Nat}
def run (lt:Nat→Nat→Bool):KasT α→α
 | .ret a=>a
 | .ask i j k=>run lt (k (lt i j))
def asks (n:Nat) (lt:Nat→Nat→Bool):KasT α→Prop
 | .ret _=>True
 | .ask i j k=>i<n∧j<n∧asks n lt (k (lt i j))
def Hq (n:Nat) (lt:Nat→Nat→Bool) (t:KasT α) (Q:α→Prop):Prop:=asks n lt t∧Q (run lt t)
theorem iG {a:α} {Q:α→Prop} (h:Q a):Hq n lt (.ret a) Q:=⟨trivial,h⟩
theorem tT {i j:Nat} {k:Bool→KasT α} {Q:α→Prop} (hi:i<n) (hj:j<n) (h:Hq n lt (k (lt i j)) Q):Hq n lt (.ask i j k) Q:=⟨⟨hi,hj,h.1⟩,h.2⟩
theorem oM {f:α→KasT β} {Q:β→Prop}:∀ {t:KasT α},Hq n lt t (fun a=>Hq n lt (f a) Q)→Hq n lt (t.bind f) Q
 | .ret _,h=>h.2
 | .ask i j k,h=>tT h.1.1 h.1.2.1 (oM (t:=k (lt i j)) ⟨h.1.2.2,h.2⟩)
theorem gQ {t:KasT α} {Q Q':α→Prop} (h:Hq n lt t Q) (hq:∀ a,Q a→Q' a):Hq n lt t Q':=⟨h.1,hq _ h.2⟩
theorem wp_run {cmp:Nat→Nat→(Bool→Shared→Prop)→Shared→Prop} {s:Shared} (hc:∀ i j C,i<n→j<n→C (lt i j) s→cmp i j C s):∀ (t:KasT α) {Q:α→Shared→Prop},asks n lt t→Q (run lt t) s→t.kasWp cmp Q s
 | .ret _,_,_,h=>h
 | .ask i j k,Q,a,h=>hc i j _ a.1 a.2.1 (wp_run hc (k (lt i j)) a.2.2 h)
end
section
variable {r:Nat→Int} {n:Nat} {p:Array Nat}
def vl (r:Nat→Int) (p:Array Nat) (k:Nat):Int:=r (p.getD k 0)
def ltr (r:Nat→Int) (i j:Nat):Bool:=decide (r i<r j)
def Up (r:Nat→Int) (p:Array Nat) (k:Nat):Prop:=∀ i j,i≤j→j<k→vl r p i≤vl r p j
def pR (r:Nat→Int) (p:Array Nat) (k:Nat):Prop:=∀ i j,i≤j→j<k→vl r p j≤vl r p i
structure Pm (n:Nat) (p:Array Nat):Prop where
 size:p.size=n
 perm:p.Perm (jS n).toArray
theorem Pm.lt (h:Pm n p) (hn:0<n) (k:Nat):p.getD k 0<n:=by
 by_cases hk:k<p.size
 ·have e:p.getD k 0=p[k]:=by simp [kS,hk]
  rw [e]
  have:p[k]∈(jS n).toArray:=h.perm.mem_iff.mp (Array.getElem_mem hk)
  simpa using this
 ·have e:p.getD k 0=0:=by simp [kS,hk]
  rw [e];exact hn
theorem Pm.rev (h:Pm n p) (i j:Nat):Pm n (kas_rev p i j):=⟨by unfold kas_rev;rw [mirror_size];exact h.size,(mirror_perm _ _ _ _).trans h.perm⟩
theorem Pm.bub (h:Pm n p) (i j:Nat):Pm n (bubble p i j):=⟨by rw [bubble_size];exact h.size,(bubble_perm _ _ _).trans h.perm⟩
theorem rH {p q:Array Nat} {i j:Nat} (h:p[i]?=q[j]?):p.getD i 0=q.getD j 0:=by
 rw [Array.getD_eq_getD_getElem?,Array.getD_eq_getD_getElem?,h]
theorem a3z {i j:Nat} (hj:j≤p.size) (k:Nat):vl r (kas_rev p i j) k=if i≤k∧k<j then vl r p (i+j - 1 - k) else vl r p k:=by
 have e:=getElem?_mirror_all (i:=i) hj k
 unfold vl kas_rev
 by_cases h:i≤k∧k<j
 ·rw [if_pos h] at e ⊢;rw [rH e]
 ·rw [if_neg h] at e ⊢;rw [rH e]
theorem a7C {src d:Nat} (hs:src<p.size) (hd:d≤src) (k:Nat):vl r (bubble p src d) k=if k=src - d then vl r p src else if src - d<k∧k≤src then vl r p (k - 1) else vl r p k:=by
 have e:=getElem?_bubble hs d hd k
 unfold vl
 by_cases h:k=src - d
 ·rw [if_pos h] at e ⊢;rw [rH e]
 ·rw [if_neg h] at e ⊢
  by_cases h2:src - d<k∧k≤src
  ·rw [if_pos h2] at e ⊢;rw [rH e]
  ·rw [if_neg h2] at e ⊢;rw [rH e]
theorem Up.snoc {k:Nat} (h:Up r p k) (hk:0<k) (hl:vl r p (k - 1)≤vl r p k):Up r p (k+1):=fun i j hij hj=>by
 by_cases e:j=k
 ·subst e
  by_cases e2:i=j
  ·subst e2;exact kn _
  ·exact Int.le_trans (h i (j - 1) (by omega) (by omega)) hl
 ·exact h i j hij (by omega)
theorem pR.snoc {k:Nat} (h:pR r p k) (hk:0<k) (hl:vl r p k≤vl r p (k - 1)):pR r p (k+1):=fun i j hij hj=>by
 by_cases e:j=k
 ·subst e
  by_cases e2:i=j
  ·subst e2;exact kn _
  ·exact Int.le_trans hl (h i (j - 1) (by omega) (by omega))
 ·exact h i j hij (by omega)
theorem a9n (P:Pm n p) (hn:0<n):∀ (f m:Nat),0<m→Up r p m→Hq n (ltr r) (kas_asc p f m) (fun k=>m≤k∧k≤m+f∧Up r p k∧(k<m+f→vl r p k<vl r p (k - 1)))
 | 0,m,hm,h=>iG ⟨qO _,qO _,h,fun z=>absurd z (by omega)⟩
 | f+1,m,hm,h=>by
  refine tT (P.lt hn _) (P.lt hn _) ?_
  by_cases c:r (p.getD m 0)<r (p.getD (m - 1) 0)
  ·rw [show ltr r (p.getD m 0) (p.getD (m - 1) 0)=true from decide_eq_true c,if_pos rfl]
   exact iG ⟨qO _,by omega,h,fun _=>c⟩
  ·rw [show ltr r (p.getD m 0) (p.getD (m - 1) 0)=false from decide_eq_false c,if_neg (by simp)]
   exact gQ (a9n P hn f (m+1) (by omega) (h.snoc hm (Int.not_lt.mp c))) fun k ⟨a,b,c,d⟩=>⟨by omega,by omega,c,fun z=>d (by omega)⟩
theorem a1a {i j:Nat} (hj:j≤p.size) (he:∀ k,i≤k→k<j→vl r p k=vl r p (j - 1)) (k:Nat):vl r (kas_rev p i j) k=vl r p k:=by
 rw [a3z hj]
 by_cases h:i≤k∧k<j
 ·rw [if_pos h,he _ (by omega) (by omega),he k h.1 h.2]
 ·rw [if_neg h]
theorem pR.cong {p':Array Nat} {k:Nat} (e:∀ k,vl r p' k=vl r p k) (h:pR r p k):pR r p' k:=fun i j a b=>by rw [e,e];exact h i j a b
theorem a1J (hn:0<n):∀ (f:Nat) (p:Array Nat) (m q:Nat),Pm n p→q<m→m+f≤n→pR r p m→(∀ k,m - (q+1)≤k→k<m→vl r p k=vl r p (m - 1)) →
  Hq n (ltr r) (kas_desc f p m q) (fun x=>Pm n x.1∧m≤x.2.1∧x.2.1≤m+f∧x.2.2<x.2.1∧pR r x.1 x.2.1∧∀ k,x.2.1 - (x.2.2+1)≤k→k<x.2.1→vl r x.1 k=vl r x.1 (x.2.1 - 1))
 | 0,p,m,q,P,hq,hm,hd,he=>iG ⟨P,qO _,qO _,hq,hd,he⟩
 | f+1,p,m,q,P,hq,hm,hd,he=>by
  have one:∀ p':Array Nat,∀ k,m+1 - (0+1)≤k→k<m+1→vl r p' k=vl r p' (m+1 - 1):=fun p' k a b=>by rw [show k=m+1 - 1 by omega]
  refine tT (P.lt hn _) (P.lt hn _) ?_
  by_cases c:r (p.getD m 0)<r (p.getD (m - 1) 0)
  ·rw [show ltr r (p.getD m 0) (p.getD (m - 1) 0)=true from decide_eq_true c,if_pos rfl]
   have hd':=hd.snoc (by omega) (zy c)
   by_cases q0:q > 0
   ·rw [if_pos q0]
    have e:=a1a (i:=m - (q+1)) (j:=m) (by rw [P.size];omega) he
    exact gQ (a1J hn f _ (m+1) 0 (P.rev _ _) (by omega) (by omega) (hd'.cong e) (one _)) fun x ⟨a,b,c,d,e,g⟩=>⟨a,by omega,by omega,d,e,g⟩
   ·rw [if_neg q0]
    exact gQ (a1J hn f _ (m+1) 0 P (by omega) (by omega) hd' (one _)) fun x ⟨a,b,c,d,e,g⟩=>⟨a,by omega,by omega,d,e,g⟩
  ·rw [show ltr r (p.getD m 0) (p.getD (m - 1) 0)=false from decide_eq_false c,if_neg (by simp)]
   refine tT (P.lt hn _) (P.lt hn _) ?_
   by_cases c2:r (p.getD (m - 1) 0)<r (p.getD m 0)
   ·rw [show ltr r (p.getD (m - 1) 0) (p.getD m 0)=true from decide_eq_true c2,if_pos rfl]
    exact iG ⟨P,qO _,Nat.le_add_right _ _,hq,hd,he⟩
   ·rw [show ltr r (p.getD (m - 1) 0) (p.getD m 0)=false from decide_eq_false c2,if_neg (by simp)]
    have eq:vl r p m=vl r p (m - 1):=by unfold vl;omega
    refine gQ (a1J hn f p (m+1) (q+1) P (by omega) (by omega) (hd.snoc (by omega) (by omega)) fun k a b=>?_) fun x ⟨a,b,c,d,e,g⟩=>⟨a,by omega,by omega,d,e,g⟩
    rw [show m+1 - 1=m by omega,eq]
    by_cases e2:k=m
    ·rw [e2,eq]
    ·exact he k (by omega) (by omega)
theorem pR.rev {m:Nat} (P:Pm n p) (hm:m≤n) (h:pR r p m):Up r (kas_rev p 0 m) m:=fun i j hij hj=>by
 rw [a3z (by rw [P.size];omega),a3z (by rw [P.size];omega),if_pos (by omega),if_pos (by omega)]
 exact h _ _ (by omega) (by omega)
abbrev b5U (r:Nat→Int) (n:Nat) (x:Nat×Array Nat):Prop:=Pm n x.2∧0<x.1∧x.1≤n∧Up r x.2 x.1
theorem a9m (hn:0<n) {m:Nat} (P:Pm n p) (h0:0<m) (hm:m≤n) (hd:pR r p m):Hq n (ltr r) (kas_tail3 m n p) (b5U r n):=by
 unfold kas_tail3
 refine oM (gQ (a9n (P.rev 0 m) hn (n - m) m h0 (hd.rev P hm)) fun k ⟨a,b,c,d⟩=>iG ⟨P.rev 0 m,by show 0<k;omega,by show k≤n;omega,c⟩)
theorem xM (hn:0<n) {m:Nat} (P:Pm n p) (hm:m+1≤n) (hd:pR r p (m+1)):Hq n (ltr r) (kas_descPart m n p) (b5U r n):=by
 unfold kas_descPart
 refine oM (gQ (a1J hn (n - (m+1)) p (m+1) 0 P (by omega) (by omega) hd (fun k a b=>by rw [show k=m+1 - 1 by omega])) fun x ⟨a,b,c,d,e,g⟩=>?_)
 by_cases h:x.2.2 > 0
 ·rw [if_pos h]
  exact a9m hn (a.rev _ _) (by omega) (by omega) (e.cong (a1a (by rw [a.size];omega) g))
 ·rw [if_neg h]
  exact a9m hn a (by omega) (by omega) e
theorem b1K (hn:0<n) (P:Pm n p):Hq n (ltr r) (kas_count n p) (b5U r n):=by
 unfold kas_count
 refine oM (gQ (a9n P hn (n - 1) 1 (by decide) (fun i j a b=>by rw [show i=j by omega];exact kn _)) fun m ⟨a,b,c,d⟩=>?_)
 by_cases h:(m==n)=true
 ·rw [if_pos h]
  exact iG ⟨P,by show 0<m;omega,by show m≤n;omega,c⟩
 ·rw [if_neg h]
  have hmn:m<n:=by have:m≠n:=fun z=>h (by rw [z];simp);omega
  have dr:=d (by omega)
  by_cases h1:m > 1
  ·rw [if_pos h1]
   refine tT (P.lt hn _) (P.lt hn _) ?_
   by_cases c2:r (p.getD 0 0)<r (p.getD (m - 1) 0)
   ·rw [show ltr r (p.getD 0 0) (p.getD (m - 1) 0)=true from decide_eq_true c2,if_pos rfl]
    exact iG ⟨P,by show 0<m;omega,by show m≤n;omega,c⟩
   ·rw [show ltr r (p.getD 0 0) (p.getD (m - 1) 0)=false from decide_eq_false c2,if_neg (by simp)]
    have eqs:∀ k,k<m→vl r p k=vl r p (m - 1):=fun k hk=>by
     have a1:=c 0 k (jA _) hk
     have a2:=c k (m - 1) (by omega) (by omega)
     have a3:vl r p (m - 1)≤vl r p 0:=Int.not_lt.mp c2
     omega
    have e:=a1a (r:=r) (i:=0) (j:=m) (by rw [P.size];omega) (fun k _ hk=>eqs k hk)
    refine xM hn (P.rev 0 m) (by omega) (pR.cong e ?_)
    refine pR.snoc (fun i j hij hj=>?_) (by omega) (zy dr)
    rw [eqs i (by omega),eqs j hj];exact kn _
  ·rw [if_neg h1]
   refine xM hn P (by omega) (pR.snoc (fun i j hij hj=>?_) (by omega) (zy dr))
   rw [show i=j by omega];exact kn _
theorem a1I (hn:0<n) (P:Pm n p) {k:Nat} (hu:Up r p k):∀ (f l u:Nat),l≤u→u≤k→u - l≤f→(∀ i,i<l→vl r p i≤vl r p k)→(∀ i,u≤i→i<k→vl r p k<vl r p i) →
  Hq n (ltr r) (kas_place p k f l u) (fun x=>x≤k∧(∀ i,i<x→vl r p i≤vl r p k)∧∀ i,x≤i→i<k→vl r p k<vl r p i)
 | 0,l,u,h1,h2,h3,a,b=>iG ⟨by omega,a,fun i hi hk=>b i (by omega) hk⟩
 | f+1,l,u,h1,h2,h3,a,b=>by
  unfold kas_place
  by_cases h:l≥u
  ·rw [if_pos h];exact iG ⟨by omega,a,fun i hi hk=>b i (by omega) hk⟩
  ·rw [if_neg h]
   refine tT (P.lt hn _) (P.lt hn _) ?_
   by_cases c:r (p.getD k 0)<r (p.getD ((l+u) / 2) 0)
   ·rw [show ltr r (p.getD k 0) (p.getD ((l+u) / 2) 0)=true from decide_eq_true c,if_pos rfl]
    refine a1I hn P hu f l ((l+u) / 2) (by omega) (by omega) (by omega) a fun i hi hk=>?_
    have c':vl r p k<vl r p ((l+u) / 2):=c
    exact Int.lt_of_lt_of_le c' (hu _ _ hi hk)
   ·rw [show ltr r (p.getD k 0) (p.getD ((l+u) / 2) 0)=false from decide_eq_false c,if_neg (by simp)]
    refine a1I hn P hu f ((l+u) / 2+1) u (by omega) (by omega) (by omega) (fun i hi=>?_) b
    have c':vl r p ((l+u) / 2)≤vl r p k:=Int.not_lt.mp c
    exact Int.le_trans (hu i ((l+u) / 2) (by omega) (by omega)) c'
theorem b2T (hn:0<n):∀ (f:Nat) (p:Array Nat) (k:Nat),Pm n p→0<k→k+f=n→Up r p k→Hq n (ltr r) (kas_bin f p k) (fun q=>Pm n q∧Up r q n)
 | 0,p,k,P,_,hk,hu=>iG ⟨P,by rw [show n=k by omega];exact hu⟩
 | f+1,p,k,P,h0,hk,hu=>by
  unfold kas_bin
  refine oM (gQ (a1I hn P hu k 0 k (jA _) (qO _) (by omega) (fun i hi=>absurd hi (by omega)) (fun i hi hk=>absurd hi (by omega))) fun l ⟨a,b,c⟩=>?_)
  refine b2T hn f _ (k+1) (P.bub _ _) (by omega) (by omega) fun i j hij hj=>?_
  have hs:k<p.size:=by rw [P.size];omega
  have ei:=a7C (r:=r) hs (show k - l≤k by omega) i
  have ej:=a7C (r:=r) hs (show k - l≤k by omega) j
  rw [show k - (k - l)=l by omega] at ei ej
  rw [ei,ej]
  by_cases i1:i=l
  ·rw [if_pos i1]
   by_cases j1:j=l
   ·rw [if_pos j1];exact kn _
   ·rw [if_neg j1,if_pos (by omega)];exact zy (c (j - 1) (by omega) (by omega))
  ·rw [if_neg i1]
   by_cases i2:l<i∧i≤k
   ·rw [if_pos i2,if_neg (by omega),if_pos (by omega)];exact hu _ _ (by omega) (by omega)
   ·rw [if_neg i2]
    by_cases j1:j=l
    ·rw [if_pos j1];exact b i (by omega)
    ·rw [if_neg j1]
     by_cases j2:l<j∧j≤k
     ·rw [if_pos j2];exact hu _ _ (by omega) (by omega)
     ·rw [if_neg j2];exact hu _ _ hij (by omega)
theorem h_sort (hn:2≤n):Hq n (ltr r) (kas_sort n) (fun q=>Pm n q∧Up r q n):=by
 unfold kas_sort
 refine oM (gQ (b1K (by omega) ⟨by simp,Array.Perm.refl _⟩) fun x ⟨a,b,c,d⟩=>?_)
 by_cases h:x.1<n
 ·rw [if_pos h,show max x.1 1=x.1 by omega]
  exact b2T (by omega) _ _ _ a b (by omega) d
 ·rw [if_neg h]
  exact iG ⟨a,by rw [show n=x.1 by omega];exact d⟩
end
end L2.ST
namespace L2.L3
open PySem
def ltC:PyData→PyData→Bool
 | .int a,.int b=>decide (a<b)
 | .str a,.str b=>!cH b a
 | _,_=>false
def eqC:PyData→PyData→Bool
 | .int a,.int b=>a==b
 | .str a,.str b=>a==b
 | _,_=>false
def ltR:List PyData→List PyData→Bool
 | a::r,b::s=>if eqC a b then ltR r s else ltC a b
 | _,_=>false
def fD:List Bool→List PyData→Bool
 | [],[]=>true
 | true::g,.int _::r=>fD g r
 | false::g,.str _::r=>fD g r
 | _,_=>false
theorem iQ {a:List PyData} (h:fD [] a=true):a=[]:=by
 cases a with
 | nil=>rfl
 | cons x r=>cases x<;>cases h
theorem sig_int {g:List Bool} {a:List PyData} (h:fD (true::g) a=true):∃ i r,a=.int i::r∧fD g r=true:=by
 cases a with
 | nil=>cases h
 | cons x r=>cases x<;>first | exact ⟨_,_,rfl,h⟩ | cases h
theorem sig_str {g:List Bool} {a:List PyData} (h:fD (false::g) a=true):∃ i r,a=.str i::r∧fD g r=true:=by
 cases a with
 | nil=>cases h
 | cons x r=>cases x<;>first | exact ⟨_,_,rfl,h⟩ | cases h
theorem a4h (a:Str):cH a a=true:=by have:=iS a a;rwa [Bool.or_self] at this
theorem a1G:∀ (g:List Bool) (a:List PyData),fD g a=true→ltR a a=false
 | [],a,h=>by rw [iQ h];rfl
 | true::g,a,h=>by
  obtain ⟨i,r,rfl,h⟩:=sig_int h
  simp [ltR,eqC,a1G g r h]
 | false::g,a,h=>by
  obtain ⟨i,r,rfl,h⟩:=sig_str h
  simp [ltR,eqC,a1G g r h]
theorem a1F:∀ (g:List Bool) (a b:List PyData),fD g a=true→fD g b=true→ltR a b=true∨a=b∨ltR b a=true
 | [],a,b,h,h'=>by rw [iQ h,iQ h'];exact .inr (.inl rfl)
 | true::g,a,b,h,h'=>by
  obtain ⟨i,r,rfl,h⟩:=sig_int h
  obtain ⟨j,q,rfl,h'⟩:=sig_int h'
  by_cases e:i=j
  ·subst e
   rcases a1F g r q h h' with z | z | z
   ·exact .inl (by simp [ltR,eqC,z])
   ·exact .inr (.inl (by rw [z]))
   ·exact .inr (.inr (by simp [ltR,eqC,z]))
  ·by_cases l:i<j
   ·exact .inl (by simp [ltR,eqC,e,ltC,l])
   ·exact .inr (.inr (by have:¬j=i:=fun z=>e z.symm;simp [ltR,eqC,this,ltC];omega))
 | false::g,a,b,h,h'=>by
  obtain ⟨i,r,rfl,h⟩:=sig_str h
  obtain ⟨j,q,rfl,h'⟩:=sig_str h'
  by_cases e:i=j
  ·subst e
   rcases a1F g r q h h' with z | z | z
   ·exact .inl (by simp [ltR,eqC,z])
   ·exact .inr (.inl (by rw [z]))
   ·exact .inr (.inr (by simp [ltR,eqC,z]))
  ·have e':¬j=i:=fun z=>e z.symm
   cases l:cH j i with
   | false=>exact .inl (by simp [ltR,eqC,e,ltC,l])
   | true=>
    cases l2:cH i j with
    | false=>exact .inr (.inr (by simp [ltR,eqC,e',ltC,l2]))
    | true=>exact absurd (xE l2 l) e
theorem a4g:∀ (g:List Bool) (a b c:List PyData),fD g a=true→fD g b=true→fD g c=true→ltR a b=true→ltR b c=true→ltR a c=true
 | [],a,b,c,h,_,_,z,_=>by rw [iQ h] at z;cases z
 | true::g,a,b,c,h,h',h'',z,z'=>by
  obtain ⟨i,r,rfl,h⟩:=sig_int h
  obtain ⟨j,q,rfl,h'⟩:=sig_int h'
  obtain ⟨k,u,rfl,h''⟩:=sig_int h''
  simp only [ltR,eqC,ltC,beq_iff_eq] at z z' ⊢
  by_cases e:i=j
  ·subst e
   rw [if_pos rfl] at z
   by_cases e2:i=k
   ·subst e2;rw [if_pos rfl] at z' ⊢;exact a4g g r q u h h' h'' z z'
   ·rw [if_neg e2] at z' ⊢;exact z'
  ·rw [if_neg e] at z
   by_cases e2:j=k
   ·subst e2;rw [if_neg e];exact z
   ·rw [if_neg e2] at z'
    rw [decide_eq_true_eq] at z z'
    rw [if_neg (by omega)];exact decide_eq_true (by omega)
 | false::g,a,b,c,h,h',h'',z,z'=>by
  obtain ⟨i,r,rfl,h⟩:=sig_str h
  obtain ⟨j,q,rfl,h'⟩:=sig_str h'
  obtain ⟨k,u,rfl,h''⟩:=sig_str h''
  simp only [ltR,eqC,ltC,beq_iff_eq] at z z' ⊢
  by_cases e:i=j
  ·subst e
   rw [if_pos rfl] at z
   by_cases e2:i=k
   ·subst e2;rw [if_pos rfl] at z' ⊢;exact a4g g r q u h h' h'' z z'
   ·rw [if_neg e2] at z' ⊢;exact z'
  ·rw [if_neg e] at z
   by_cases e2:j=k
   ·subst e2;rw [if_neg e];exact z
   ·rw [if_neg e2] at z'
    have z1:cH j i=false:=by simpa using z
    have z2:cH k j=false:=by simpa using z'
    have y1:cH i j=true:=by have:=iS i j;rw [z1,zm] at this;exact this
    have y2:cH j k=true:=by have:=iS j k;rw [z2,zm] at this;exact this
    have z3:cH k i=false:=by
     cases q3:cH k i with
     | false=>rfl
     | true=>rw [nQ q3 y1] at z2;cases z2
    have e3:¬i=k:=fun w=>by subst w;rw [a4h] at z3;cases z3
    rw [if_neg e3,z3];rfl
def ltT:PyData→PyData→Bool
 | .tuple a,.tuple b=>ltR a b
 | _,_=>false
def dI (g:List Bool):PyData→Bool
 | .tuple a=>fD g a
 | _=>false
theorem gN {g:List Bool} {d:PyData} (h:dI g d=true):∃ a,d=.tuple a∧fD g a=true:=by
 cases d<;>first | exact ⟨_,rfl,h⟩ | cases h
section
variable {g:List Bool} {a b c:PyData}
theorem a5p (h:dI g a=true):ltT a a=false:=by obtain ⟨x,rfl,h⟩:=gN h;exact a1G g x h
theorem a1D (h:dI g a=true) (h':dI g b=true):ltT a b=true∨a=b∨ltT b a=true:=by
 obtain ⟨x,rfl,h⟩:=gN h
 obtain ⟨y,rfl,h'⟩:=gN h'
 exact (a1F g x y h h').imp id (Or.imp (fun e=>by rw [e]) id)
theorem a1E (h:dI g a=true) (h':dI g b=true) (h'':dI g c=true) (z:ltT a b=true) (z':ltT b c=true):ltT a c=true:=by
 obtain ⟨x,rfl,h⟩:=gN h
 obtain ⟨y,rfl,h'⟩:=gN h'
 obtain ⟨u,rfl,h''⟩:=gN h''
 exact a4g g x y u h h' h'' z z'
theorem b4D (h:dI g a=true) (h':dI g b=true) (h'':dI g c=true) (z:ltT b a=false) (z':ltT c b=false):ltT c a=false:=by
 cases e:ltT c a with
 | false=>rfl
 | true=>
  rcases a1D h h' with q | q | q
  ·rw [a1E h'' h h' e q] at z';cases z'
  ·subst q;rw [e] at z';cases z'
  ·rw [q] at z;cases z
end
def a4n (x:PyData):List PyData→List PyData
 | []=>[x]
 | y::l=>if ltT y x then y::a4n x l else x::y::l
def a1f (l:List PyData):List PyData:=l.foldr a4n []
theorem tS (x:PyData):∀ l:List PyData,(a4n x l).Perm (x::l)
 | []=>.refl _
 | y::l=>by
  unfold a4n
  split
  ·exact ((tS x l).cons y).trans (.swap x y l)
  ·exact .refl _
theorem sO:∀ l:List PyData,(a1f l).Perm l
 | []=>.refl _
 | x::l=>(tS x _).trans ((sO l).cons x)
abbrev a2i (l:List PyData):Prop:=l.Pairwise fun a b=>ltT b a=false
theorem uS {g:List Bool} {x:PyData} (hx:dI g x=true):∀ l:List PyData,(∀ d∈l,dI g d=true)→a2i l→a2i (a4n x l)
 | [],_,_=>by simp [a4n]
 | y::l,h,hp=>by
  have hp':=jF.mp hp
  have hy:=h y (by simp)
  unfold a4n
  by_cases e:ltT y x=true
  ·rw [if_pos e,a2i,jF]
   refine ⟨fun z hz=>?_,uS hx l (fun d hd=>h d (qE _ hd)) hp'.2⟩
   rcases qM.mp ((tS x l).mem_iff.mp hz) with rfl | hz
   ·cases q:ltT z y with
    | false=>rfl
    | true=>have:=a1E hx hy hx q e;rw [a5p hx] at this;cases this
   ·exact hp'.1 z hz
  ·rw [if_neg e,a2i,jF]
   have e':ltT y x=false:=by simpa using e
   refine ⟨fun z hz=>?_,hp⟩
   rcases qM.mp hz with rfl | hz
   ·exact e'
   ·exact b4D hx hy (h z (qE _ hz)) e' (hp'.1 z hz)
theorem uH {g:List Bool}:∀ l:List PyData,(∀ d∈l,dI g d=true)→a2i (a1f l)
 | [],_=>.nil
 | x::l,h=>uS (h x (by simp)) _ (fun d hd=>h d (qE _ ((sO l).mem_iff.mp hd))) (uH l fun d hd=>h d (qE _ hd))
theorem a2t {g:List Bool}:∀ (l m:List PyData),l.Perm m→(∀ d∈l,dI g d=true)→a2i l→a2i m→l=m
 | [],m,hp,_,_,_=>by rw [List.nil_perm.mp hp]
 | x::l,[],hp,_,_,_=>by have:=hp.length_eq;simp at this
 | x::l,y::m,hp,h,h1,h2=>by
  have q1:=jF.mp h1
  have q2:=jF.mp h2
  have hy:y∈x::l:=hp.mem_iff.mpr (by simp)
  have hx:x∈y::m:=hp.mem_iff.mp (by simp)
  have e:x=y:=by
   rcases qM.mp hy with z | z
   ·exact z.symm
   ·rcases qM.mp hx with w | w
    ·exact w
    ·rcases a1D (h x (by simp)) (h y hy) with u | u | u
     ·rw [q2.1 x w] at u;cases u
     ·exact u
     ·rw [q1.1 y z] at u;cases u
  subst e
  rw [a2t l m (List.Perm.cons_inv hp) (fun d hd=>h d (qE _ hd)) q1.2 q2.2]
theorem b0w {g:List Bool} {l m:List PyData} (hp:l.Perm m) (h:∀ d∈m,dI g d=true) (hs:a2i l):l=a1f m:=
 a2t (g:=g) l (a1f m) (hp.trans (sO m).symm) (fun d hd=>h d (hp.mem_iff.mp hd)) hs (uH m h)
def rk (ds:List PyData) (i:Nat):Int:=((ds.filter fun x=>ltT x (ds.getD i .none)).length:Nat)
theorem a1M {α:Type} {p q:α→Bool}:∀ l:List α,(∀ x∈l,p x=true→q x=true)→(l.filter p).length≤(l.filter q).length
 | [],_=>by simp
 | x::l,h=>by
  have ih:=a1M l fun y hy=>h y (qE _ hy)
  cases e:p x with
  | false=>
   rw [qx (by simp [e])]
   cases e2:q x with
   | false=>rw [qx (by simp [e2])];exact ih
   | true=>rw [ql e2,qb];omega
  | true=>rw [ql e,ql (h x (by simp) e),qb,qb];omega
theorem a5x {α:Type} {p q:α→Bool}:∀ l:List α,(∀ x∈l,p x=true→q x=true)→(∃ x∈l,p x=false∧q x=true)→(l.filter p).length<(l.filter q).length
 | [],_,⟨x,hx,_⟩=>by cases hx
 | x::l,h,⟨y,hy,h1,h2⟩=>by
  have ih:=a1M l fun y hy=>h y (qE _ hy)
  rcases qM.mp hy with rfl | hy
  ·rw [qx (by simp [h1]),ql h2,qb];omega
  ·have ih2:=a5x l (fun y hy=>h y (qE _ hy)) ⟨y,hy,h1,h2⟩
   cases e:p x with
   | false=>
    rw [qx (by simp [e])]
    cases e2:q x with
    | false=>rw [qx (by simp [e2])];exact ih2
    | true=>rw [ql e2,qb];omega
   | true=>rw [ql e,ql (h x (by simp) e),qb,qb];omega
theorem b2I {g:List Bool} {ds:List PyData} (h:∀ d∈ds,dI g d=true) {i j:Nat} (hi:i<ds.length) (hj:j<ds.length):ltT (ds.getD i .none) (ds.getD j .none)=ST.ltr (rk ds) i j:=by
 have mi:ds.getD i .none∈ds:=by rw [jO,qN hi];exact jM hi
 have mj:ds.getD j .none∈ds:=by rw [jO,qN hj];exact jM hj
 unfold ST.ltr rk
 generalize ds.getD i PyData.none=a at *
 generalize ds.getD j PyData.none=b at *
 have ha:=h a mi
 have hb:=h b mj
 cases e:ltT a b with
 | true=>
  refine (decide_eq_true ?_).symm
  have:=a5x (p:=fun x=>ltT x a) (q:=fun x=>ltT x b) ds (fun x hx z=>a1E (h x hx) ha hb z e) ⟨a,mi,a5p ha,e⟩
  omega
 | false=>
  refine (decide_eq_false ?_).symm
  have:=a1M (p:=fun x=>ltT x b) (q:=fun x=>ltT x a) ds (fun x hx z=>by
   rcases a1D ha hb with q | q | q
   ·rw [e] at q;cases q
   ·subst q;exact z
   ·exact a1E (h x hx) hb ha z q)
  omega
theorem wT {g:List Bool} {ds:List PyData} (h:∀ d∈ds,dI g d=true) {p:Array Nat} (P:ST.Pm ds.length p) (U:ST.Up (rk ds) p ds.length):(p.toList.map fun i=>ds.getD i .none)=a1f ds:=by
 have hl:p.toList.length=ds.length:=by rw [qR];exact P.size
 have hr:(jS ds.length).map (fun i=>ds.getD i .none)=ds:=by
  refine List.ext_getElem (by simp) fun i h1 h2=>?_
  simp [jO,h2]
 have hp:(p.toList.map fun i=>ds.getD i .none).Perm ds:=by
  have:=(Array.perm_iff_toList_perm.mp P.perm).map fun i=>ds.getD i PyData.none
  simp only [za] at this
  rw [hr] at this
  exact this
 refine b0w hp h ?_
 unfold a2i
 rw [List.pairwise_map,List.pairwise_iff_getElem]
 intro i j hi hj hij
 have hi':i<p.size:=by simpa using hi
 have hj':j<p.size:=by simpa using hj
 have u:=U i j (qv hij) (by rw [P.size] at hj';exact hj')
 unfold ST.vl at u
 have ei:p.toList[i]=p.getD i 0:=by simp [kS,hi']
 have ej:p.toList[j]=p.getD j 0:=by simp [kS,hj']
 rw [ei,ej]
 by_cases hn:0<ds.length
 ·rw [b2I h (P.lt hn j) (P.lt hn i)]
  exact decide_eq_false (by omega)
 ·rw [P.size] at hi';omega
end L2.L3
namespace L2.L3
open PySem PySem.W PyProof.Rows PySem.Calls
section
variable {prog:Program} {w:World} {A:Around} {E:Value→Shared→Prop} {s:Shared}
theorem b1f {Q:Bool→Shared→Prop} (b:Bool) (m n:Int) (t u:Tok) (h:Q (decide (m<n)) s):wpAny (model prog w) A (oneLt' b (.int m t) (.int n u)) Q E s:=by
 cases b with
 | true=>exact oneLt_int h
 | false=>exact kat_one _ _ (lt_int h)
theorem b1e {Q:Bool→Shared→Prop} (b:Bool) (m n:Str) (t u:Tok) (h:Q (decide (m.cps.toList<n.cps.toList)) s):wpAny (model prog w) A (oneLt' b (.str m t) (.str n u)) Q E s:=by
 cases b with
 | true=>exact oneLt_str h
 | false=>exact kat_one _ _ (lt_str h)
theorem xY {Q:Bool→Shared→Prop}:∀ (g:List Bool) (xs ys:List Value) (ds es:List PyData) (as bs:List Addr) (i:Nat),ReadsAll s.heap xs ds as→ReadsAll s.heap ys es bs→fD g ds=true→fD g es=true→Q (ltR ds es) s →
  KatLex prog w A true false Q (xs.zip ys) i s
 | [],xs,ys,ds,es,as,bs,i,r,r',h,h',q=>by
  have e1:=iQ h
  have e2:=iQ h'
  subst e1;subst e2
  cases r;cases r'
  exact kat_nil q
 | true::g,xs,ys,ds,es,as,bs,i,r,r',h,h',q=>by
  obtain ⟨m,r1,rfl,h⟩:=sig_int h
  obtain ⟨n,r2,rfl,h'⟩:=sig_int h'
  cases r with | cons v rr=>
  cases r' with | cons v' rr'=>
  cases v;cases v'
  refine kat_cons (SeqAt.EqAt.int_int _ _ _ _ _ _ _ _ ?_)
  by_cases e:m=n
  ·subst e
   rw [beq_self_eq_true]
   refine kat_yes (xY g _ _ _ _ _ _ _ rr rr' h h' ?_)
   simpa [ltR,eqC] using q
  ·rw [beq_eq_false_iff_ne.mpr e]
   refine kat_no (b1f _ _ _ _ _ ?_)
   simpa [ltR,eqC,e,ltC] using q
 | false::g,xs,ys,ds,es,as,bs,i,r,r',h,h',q=>by
  obtain ⟨m,r1,rfl,h⟩:=sig_str h
  obtain ⟨n,r2,rfl,h'⟩:=sig_str h'
  cases r with | cons v rr=>
  cases r' with | cons v' rr'=>
  cases v;cases v'
  refine kat_cons (SeqAt.EqAt.str_str _ _ _ _ _ _ _ _ ?_)
  by_cases e:m=n
  ·subst e
   rw [beq_self_eq_true]
   refine kat_yes (xY g _ _ _ _ _ _ _ rr rr' h h' ?_)
   simpa [ltR,eqC] using q
  ·rw [beq_eq_false_iff_ne.mpr e]
   refine kat_no (b1e _ _ _ _ _ ?_)
   have:ltR (.str m::r1) (.str n::r2)=decide (m.cps.toList<n.cps.toList):=by
    simp [ltR,eqC,e,ltC,cH]
   rw [←this];exact q
theorem b3J {Q:Bool→Shared→Prop} {g:List Bool} {v u:Value} {d e:PyData} {as bs:List Addr} (r:Reads s.heap v d as) (r':Reads s.heap u e bs) (h:dI g d=true) (h':dI g e=true) (q:Q (ltT d e) s) :
  wpAny (model prog w) A (keyLt' (tuples' true) v u) Q E s:=by
 obtain ⟨x,rfl,h⟩:=gN h
 obtain ⟨y,rfl,h'⟩:=gN h'
 cases r with
 | tuple hg hc hd rr=>
  cases r' with
  | tuple hg' hc' hd' rr'=>
   refine kat_lt hg hd hg' hd' ?_
   have sz:∀ (g:List Bool) (x y:List PyData),fD g x=true→fD g y=true→x.length=y.length:=by
    intro g
    induction g with
    | nil=>intro x y h h';rw [iQ h,iQ h']
    | cons b g ih=>
     intro x y h h'
     cases b with
     | true=>obtain ⟨_,_,rfl,h⟩:=sig_int h;obtain ⟨_,_,rfl,h'⟩:=sig_int h';simp [ih _ _ h h']
     | false=>obtain ⟨_,_,rfl,h⟩:=sig_str h;obtain ⟨_,_,rfl,h'⟩:=sig_str h';simp [ih _ _ h h']
   have ln:∀ {vs:List Value} {ds:List PyData} {as:List Addr},ReadsAll s.heap vs ds as→vs.length=ds.length:=by
    intro vs
    induction vs with
    | nil=>intro ds as r;cases r;rfl
    | cons v vs ih=>intro ds as r;cases r with | cons _ r=>simp [ih r]
   have e1:=ln rr
   have e2:=ln rr'
   have e3:=sz _ _ _ h h'
   rw [decide_eq_false (by rw [←qR,←qR];omega)]
   exact xY g _ _ _ _ _ _ 0 rr rr' h h' q
inductive Rows (h:Heap):List Value→List PyData→Prop
 | nil:Rows h [] []
 | cons {v:Value} {vs:List Value} {d:PyData} {ds:List PyData} {as:List Addr}:Reads h v d as→Rows h vs ds→Rows h (v::vs) (d::ds)
theorem Rows.len {h:Heap} {vs:List Value} {ds:List PyData} (r:Rows h vs ds):vs.length=ds.length:=by
 induction r with
 | nil=>rfl
 | cons _ _ ih=>simp [ih]
theorem Rows.keeps {h h':Heap} (k:∀ b o,h.get? b=some o→h'.get? b=some o) {vs:List Value} {ds:List PyData} (r:Rows h vs ds):Rows h' vs ds:=by
 induction r with
 | nil=>exact .nil
 | cons r _ ih=>exact .cons (Reads.keeps k r) ih
theorem Rows.at {h:Heap} {vs:List Value} {ds:List PyData} (r:Rows h vs ds):∀ i,i<vs.length→∃ as,Reads h (vs.getD i .none) (ds.getD i .none) as:=by
 induction r with
 | nil=>intro i hi;simp at hi
 | cons r _ ih=>
  intro i hi
  cases i with
  | zero=>exact ⟨_,r⟩
  | succ i=>exact ih i (by simpa using hi)
theorem Rows.firsts {h:Heap} {g:List Bool} {k:Bool} {vs:List Value} {ds:List PyData} (r:Rows h vs ds) (hs:∀ d∈ds,dI (k::g) d=true) :
  ∃ fs:List Value,KatTups h vs fs∧fs.length=vs.length∧∀ v∈fs,(k=true∧∃ i t,v=.int i t)∨(k=false∧∃ i t,v=.str i t):=by
 induction r with
 | nil=>exact ⟨[],.nil,rfl,fun v hv=>by cases hv⟩
 | @cons v vs d ds as r _ ih=>
  obtain ⟨fs,t,l,a⟩:=ih fun d hd=>hs d (qE _ hd)
  obtain ⟨x,rfl,hx⟩:=gN (hs d (by simp))
  cases r with
  | tuple hg hc hd rr=>
   cases k with
   | true=>
    obtain ⟨i,y,rfl,hy⟩:=sig_int hx
    generalize hv:vB _=vl at rr
    cases rr with | cons z rr=>
    cases z with | int _ tk=>
    refine ⟨.int i tk::fs,KatTups.cons hg hc hd (by rw [←jK,hv];rfl) t,by simp [l],fun v hv=>?_⟩
    ·rcases qM.mp hv with rfl | hv
     ·exact .inl ⟨rfl,_,_,rfl⟩
     ·exact a v hv
   | false=>
    obtain ⟨i,y,rfl,hy⟩:=sig_str hx
    generalize hv:vB _=vl at rr
    cases rr with | cons z rr=>
    cases z with | str _ tk=>
    refine ⟨.str i tk::fs,KatTups.cons hg hc hd (by rw [←jK,hv];rfl) t,by simp [l],fun v hv=>?_⟩
    ·rcases qM.mp hv with rfl | hv
     ·exact .inr ⟨rfl,_,_,rfl⟩
     ·exact a v hv
theorem a6u {g:List Bool} {k:Bool} {vs:List Value} {ds:List PyData} (r:Rows s.heap vs ds) (hs:∀ d∈ds,dI (k::g) d=true) (hne:0<vs.length) {Q:SortKind→Shared→Prop} (h:Q (tuples' true) s) :
  wpAny (model prog w) A (keyKind' vs.toArray) Q E s:=by
 obtain ⟨fs,t,l,a⟩:=r.firsts hs
 cases k with
 | true=>
  refine kat_kind (T:=.type "int") t (by omega) (fun v hv=>?_) (by decide) h
  rcases a v hv with ⟨_,i,t,rfl⟩ | ⟨z,_⟩
  ·exact Looks.of_pure rfl
  ·cases z
 | false=>
  refine kat_kind (T:=.type "str") t (by omega) (fun v hv=>?_) (by decide) h
  rcases a v hv with ⟨z,_⟩ | ⟨_,i,t,rfl⟩
  ·cases z
  ·exact Looks.of_pure rfl
theorem wZ {a:Addr} {vs:List Value} {ds:List PyData} {g:List Bool} {k:Bool} {n:Nat} {h0:Heap} {P:Fin→Shared→Prop} (ho:s.heap.get? a=some (seqObj "list" vs.toArray n))
  (rd:Rows h0 vs ds) (hk:∀ b o,h0.get? b=some o→b≠a∧s.heap.get? b=some o) (hs:∀ d∈ds,dI (k::g) d=true) (h64:vs.length<64)
  (h:∀ p:Array Nat,ST.Pm ds.length p→(p.toList.map fun i=>ds.getD i .none)=a1f ds→P (.done (.ret .none)) { s with heap:=sortedHeap s.heap a vs (p.toList.map fun i=>vs.getD i .none).toArray }) :
  wpAny (model prog w) A (Builtin.«list.sort» ⟨[.ref a],[]⟩) P E s:=by
 have ln:=rd.len
 rw [list_sort_plain]
 have ha:a<s.heap.objs.size:=qG ho
 refine wpAny_bind (listItems_at ho rfl ?_)
 refine wpAny_bind (listUpdate_at ho rfl ?_)
 obtain ⟨e1,ho1⟩:∃ e1,(s.heap.update a (jX fun _=>#[])).get? a=some (seqObj "list" #[] e1):=⟨_,get?_update_seq ho (fun _=>#[])⟩
 refine wpAny_bind (seqEpoch_at ho1 rfl ?_)
 refine wpAny_bind (wpAny_newTuple ?_)
 refine wpAny_bind (wpAny_newList ?_)
 refine wpAny_holding ?_
 have ho6:(((s.heap.update a (jX fun _=>#[])).push (seqObj "tuple" vs.toArray 0)).push (seqObj "list" #[] 0)).get? a=some (seqObj "list" #[] e1):=by
  rw [Heap.get?_push_ne _ _ _ (by rw [size_push',Heap.size_update];exact qU (jY ha)),Heap.get?_push_ne _ _ _ (by rw [Heap.size_update];exact qU ha)]
  exact ho1
 have rd6:Rows (((s.heap.update a (jX fun _=>#[])).push (seqObj "tuple" vs.toArray 0)).push (seqObj "list" #[] 0)) vs ds:=rd.keeps fun b o q=>by
  obtain ⟨h1,h2⟩:=hk b o q
  refine qC _ (qC _ ?_)
  rw [jt _ _ _ _ h1];exact h2
 show wpAny (model prog w) A _ P E { s with heap:=((s.heap.update a (jX fun _=>#[])).push (seqObj "tuple" vs.toArray 0)).push (seqObj "list" #[] 0) }
 dsimp only
 have hsz:vs.toArray.size=vs.length:=by simp
 by_cases h2:vs.toArray.size<2
 ·rw [if_pos h2,if_pos h2]
  refine wpAny_bind (wpAny_pure ?_)
  rw [StateT.run_pure]
  refine wpAny_bind (wpAny_pure ?_)
  dsimp only
  refine wpAny_bind (seqEpoch_at ho6 rfl ?_)
  refine wpAny_bind (listUpdate_at ho6 rfl ?_ (hsz2:=by rw [Array.size_map];show (pairsOf vs).size≤_;rw [pairsOf_size,sizeLine_eq];omega))
  simp only [bne_self_eq_false,jp,if_false]
  refine wpAny_pure ?_
  have hpm:ST.Pm ds.length (jS vs.length).toArray:=by rw [ln];exact ⟨by simp,Array.Perm.refl _⟩
  have hp:=h (jS vs.length).toArray hpm (wT hs hpm (fun i j hij hj=>by rw [show i=j by omega];exact kn _))
  have e:(jS vs.length).map (fun i=>vs.getD i jf)=vs:=by
   refine List.ext_getElem (by simp) fun i h1 h2=>?_
   simp [jO,h2]
  have e2:((vs.toArray.zip vs.toArray).map (·.2))=vs.toArray:=by
   apply Array.toList_inj.mp
   simp [Array.toList_zip,List.map_snd_zip]
  simp only [za,e] at hp
  rw [←e2] at hp
  exact hp
 ·rw [if_neg h2,if_neg h2]
  refine wpAny_bind (a6u (s:={ s with heap:=_ }) rd6 hs (by omega) ?_)
  have hq:=ST.h_sort (r:=rk ds) (n:=vs.length) (by omega)
  refine wpAny_bind (wpAny_mono (kat_run (κ:=tuples' true) (ks:=vs) (vs:=vs) (s:={ s with heap:=_ }) (G:=fun p s'=>s'={ s with heap:=((s.heap.update a (jX fun _=>#[])).push (seqObj "tuple" vs.toArray 0)).push (seqObj "list" #[] 0) }∧ST.Pm vs.length p∧ST.Up (rk ds) p vs.length)
   (Q:=fun st' s'=>∃ p:Array Nat,arrOf st'=p.map (kas_item (vs.toArray.zip vs.toArray))∧failedOf st'=none∧s'={ s with heap:=((s.heap.update a (jX fun _=>#[])).push (seqObj "tuple" vs.toArray 0)).push (seqObj "list" #[] 0) }∧ST.Pm vs.length p∧ST.Up (rk ds) p vs.length)
   rfl (by omega) h64 (fun p' st' s' a1 a2 a3 a4=>⟨p',a2,a3,a4⟩)
   (ST.wp_run (n:=vs.length) (lt:=ST.ltr (rk ds)) (fun i j C hi hj hC=>?_) _ hq.1 ⟨rfl,hq.2⟩)) ?_ fun _ _ e=>e)
  ·obtain ⟨as,ri⟩:=rd6.at i hi
   obtain ⟨bs,rj⟩:=rd6.at j hj
   have mi:ds.getD i .none∈ds:=by rw [jO,qN (by omega)];exact jM (by omega)
   have mj:ds.getD j .none∈ds:=by rw [jO,qN (by omega)];exact jM (by omega)
   refine b3J ri rj (hs _ mi) (hs _ mj) ?_
   rw [b2I hs (by omega) (by omega)]
   exact hC
  ·rintro ⟨⟨⟩,st'⟩ s' ⟨p,har,hf,rfl,hP,hU⟩
   dsimp only
   have hout:=kat_snds rfl har
   refine wpAny_bind (seqEpoch_at ho6 rfl ?_)
   rw [hout]
   refine wpAny_bind (listUpdate_at ho6 rfl ?_ (hsz2:=by rw [qI,qQ,qR,hP.size,sizeLine_eq];omega))
   rw [hf]
   simp only [bne_self_eq_false,jp,if_false]
   rw [ln] at hP hU
   exact wpAny_pure (h p hP (wT hs hP hU))
theorem yX {l:Addr} {T:String} {o:Obj} {vs:List Value} {n:Nat} {Q:List Value→Shared→Prop} (hT:T = "list" ∨ T = "tuple") (ho:s.heap.get? l=some o) (hc:o.cls=.type T) (hd:o.data=.seq vs.toArray n) (few:vs.length≤sizeLine)
  (hQ:∀ h',(∀ b o,s.heap.get? b=some o→h'.get? b=some o)→s.heap.objs.size≤h'.objs.size→Q vs { s with heap:=h' }):wpAny (model prog w) A (collect (.ref l)) Q E s:=by
 unfold collect
 refine wpAny_bind (wpAny_runValue (codeAny_builtin F.entry_proto_collect ?_))
 rw [ja F.plain_proto_collect _]
 show wpAny _ A.in1 (newList []>>=fun l'=>again (.builtin "list.__iadd__" ⟨[l',.ref l],[]⟩)) _ _ s
 refine wpAny_bind (wpAny_newObj_type ?_)
 refine wpAny_pure ⟨plainId_quiet zQ _,codeAny_builtin F.entry_list_iadd ?_⟩
 rw [ja zQ _]
 have hS1:(s.heap.push { cls:=.type "list", data:=.seq ([]:List Value).toArray }).get? s.heap.objs.size=some { cls:=.type "list", data:=.seq ([]:List Value).toArray }:=qK _ rfl
 have ty1:Shared.TypeIs { s with heap:=s.heap.push { cls:=.type "list", data:=.seq ([]:List Value).toArray } } (.ref l) T:=⟨o,qC _ ho,hc⟩
 show wpAny _ A.in1 (jP (.ref s.heap.objs.size) (.ref l) (.ref s.heap.objs.size)) _ _ _
 unfold jP
 refine wpAny_bind (wpAny_typeOf ty1 ?_)
 rw [if_pos (by rcases hT with rfl | rfl<;>simp)]
 refine wpAny_bind (listItems_at (qC _ ho) hd ?_)
 refine wpAny_bind (listItems_at hS1 rfl ?_)
 rw [if_neg (by simp)]
 refine wpAny_bind (listUpdate_at hS1 rfl ?_ (jA _) (by rw [Array.size_append,qI,qI,List.length_nil];omega))
 have hS₂:=jj (jX (·++vs.toArray)) hS1 rfl
 refine wpAny_pure ?_
 show wpAny _ A (load s.heap.objs.size>>=_) _ _ _
 refine wpAny_bind (wpAny_load hS₂ (wpAny_pure ?_))
 have e:(([]:List Value).toArray++vs.toArray).toList=vs:=by simp
 show Q (([]:List Value).toArray++vs.toArray).toList _
 rw [e]
 refine hQ _ (fun b o' hb=>?_) (by rw [Heap.size_update,size_push'];omega)
 rw [jt _ _ _ _ (qU (qG hb))]
 exact qC _ hb
theorem vY {l:Addr} {T:String} {o:Obj} {vs:List Value} {n:Nat} {Q:Value→Shared→Prop} {R:Array Value→Prop} (hT:T = "list" ∨ T = "tuple") (ho:s.heap.get? l=some o) (hc:o.cls=.type T) (hd:o.data=.seq vs.toArray n) (h64:vs.length<64)
  (sort:∀ (A':Around) (E':Value→Shared→Prop) (s':Shared) (a:Addr) (k:Nat) (P:Fin→Shared→Prop),s'.heap.get? a=some (seqObj "list" vs.toArray k)→(∀ b o,s.heap.get? b=some o→b≠a∧s'.heap.get? b=some o) →
   (∀ out,R out→P (.done (.ret .none)) { s' with heap:=sortedHeap s'.heap a vs out })→wpAny (model prog w) A' (Builtin.«list.sort» ⟨[.ref a],[]⟩) P E' s')
  (h:∀ (a:Addr) (h2:Heap) (ep:Nat) (out:Array Value),R out→(∀ b o,s.heap.get? b=some o→h2.get? b=some o)→s.heap.objs.size≤a→h2.get? a=some (seqObj "list" out ep)→Q (.ref a) { s with heap:=h2 }) :
  wpAny (model prog w) A (call (.builtin "sorted") [.ref l]) Q E s:=by
 refine zJ kind_sorted plain_sorted entry_sorted (args_sorted1 _) ?_
 unfold Builtin.«sorted»
 refine wpAny_bind (m:=checkCount "sorted" 1 1 _) (wpAny_pure ?_)
 refine wpAny_bind (yX hT ho hc hd (by rw [sizeLine_eq];omega) fun h1 kp up=>?_)
 refine wpAny_bind (wpAny_newList ?_ (by rw [sizeLine_eq];omega))
 have hoL:(h1.push (seqObj "list" vs.toArray 0)).get? h1.objs.size=some (seqObj "list" vs.toArray 0):=qK _ rfl
 have keep:∀ b o,s.heap.get? b=some o→b≠h1.objs.size∧(h1.push (seqObj "list" vs.toArray 0)).get? b=some o:=fun b o q=>⟨qU (qG (kp _ _ q)),qC _ (kp _ _ q)⟩
 show wpAny _ _ _ _ _ { s with heap:=h1.push (seqObj "list" vs.toArray 0) }
 refine wpAny_bind (wpAny_holding (wpAny_call_entry slot_list_sort ⟨_,hoL,rfl⟩ entry_list_sort (sort _ _ { s with heap:=h1.push (seqObj "list" vs.toArray 0) } _ 0 _ hoL keep fun out hR=>⟨_,rfl,?_⟩) (args_list_sort _)))
 obtain ⟨e1,ho1⟩:∃ e1,((h1.push (seqObj "list" vs.toArray 0)).update h1.objs.size (jX fun _=>#[])).get? h1.objs.size=some (seqObj "list" #[] e1):=⟨_,get?_update_seq hoL (fun _=>#[])⟩
 have hz:h1.objs.size<((h1.push (seqObj "list" vs.toArray 0)).update h1.objs.size (jX fun _=>#[])).objs.size:=qG ho1
 have ho6:=qC (seqObj "list" #[] 0) (qC (seqObj "tuple" vs.toArray 0) ho1)
 obtain ⟨e2,ho2⟩:∃ e2,(sortedHeap (h1.push (seqObj "list" vs.toArray 0)) h1.objs.size vs out).get? h1.objs.size=some (seqObj "list" out e2):=⟨_,get?_update_seq ho6 (fun _=>out)⟩
 refine wpAny_pure ⟨_,rfl,h _ _ e2 out hR (fun b o q=>?_) up ho2⟩
 obtain ⟨hb,hq⟩:=keep b o q
 unfold sortedHeap
 rw [jt _ _ _ _ hb]
 refine qC _ (qC _ ?_)
 rw [jt _ _ _ _ hb]
 exact hq
end
end L2.L3
namespace L2.L3
open PySem PySem.W PyProof.Rows
def a7S:List PyData→Option (List Bool)
 | []=>some []
 | .int _::r=>(a7S r).map (true::·)
 | .str _::r=>(a7S r).map (false::·)
 | _=>none
def b7Q:PyData→Option (List Bool)
 | .tuple a=>a7S a
 | _=>none
def b0x (ds:List PyData):Option PyData:=match ds with
 | x::xs=>(match b7Q x with
  | some (k::g)=>if (x::xs).all (dI (k::g))&&decide ((x::xs).length<64) then some (.list (a1f (x::xs))) else none
  | _=>none)
 | _=>none
def b0v (ds:List PyData):Option PyData:=match b3F ds with
 | some d=>some d
 | none=>(match ds with
  | [.list xs]=>b0x xs
  | [.tuple xs]=>(match iP intD xs with
   | some ns=>if ns.length<64 then some (.list ((sortI ns).map .int)) else none
   | none=>b0x xs)
  | _=>none)
section
variable {X:Cx} {pins:List (Addr×Obj)} {σ:List (Option V)} {H:Hp} {s:Shared}
theorem a4W (I:Inv X pins σ H s):∀ {xs:List V} {ds:List PyData} {us:List Value},RepAll X.K H xs ds→aX xs us→Rows s.heap us ds
 | _,_,_,.nil,.nil=>.nil
 | _,_,_,.cons r rr,.cons t tt=>by
  obtain ⟨as,ra⟩:=r.reads I t
  exact .cons ra (a4W I rr tt)
theorem RepAll.at {K:qB} {G:Hp}:∀ {vs:List V} {ds:List PyData},RepAll K G vs ds→∀ i,i<vs.length→Rep K G (vs.getD i .non) (ds.getD i .none)
 | _,_,.nil,i,h=>by simp at h
 | _,_,.cons r rr,0,_=>r
 | _,_,.cons r rr,i+1,h=>RepAll.at rr i (by simpa using h)
theorem RepAll.len {K:qB} {G:Hp}:∀ {vs:List V} {ds:List PyData},RepAll K G vs ds→vs.length=ds.length
 | _,_,.nil=>rfl
 | _,_,.cons _ rr=>by simp [RepAll.len rr]
theorem RepAll.pick {K:qB} {G:Hp} {vs:List V} {ds:List PyData} (r:RepAll K G vs ds):∀ p:List Nat,(∀ i∈p,i<vs.length)→RepAll K G (p.map fun i=>vs.getD i .non) (p.map fun i=>ds.getD i .none)
 | [],_=>.nil
 | i::p,h=>.cons (r.at i (h i (by simp))) (RepAll.pick r p fun j hj=>h j (qE _ hj))
theorem aX.at':∀ {vs:List V} {us:List Value},aX vs us→∀ i,i<vs.length→RelV (vs.getD i .non) (us.getD i .none)
 | _,_,.nil,i,h=>by simp at h
 | _,_,.cons r rr,0,_=>r
 | _,_,.cons r rr,i+1,h=>aX.at' rr i (by simpa using h)
theorem aX.pick {vs:List V} {us:List Value} (r:aX vs us):∀ p:List Nat,(∀ i∈p,i<vs.length)→aX (p.map fun i=>vs.getD i .non) (p.map fun i=>us.getD i .none)
 | [],_=>.nil
 | i::p,h=>.cons (aX.at' r i (h i (by simp))) (aX.pick r p fun j hj=>h j (qE _ hj))
theorem sQ (I:Inv X pins σ H s) {p:Addr} {vs:List V} (h:SqL X.K H p vs∨SqT X.K H p vs):∃ (its:List Value) (T:String) (o:Obj) (n:Nat),(T = "list" ∨ T = "tuple")∧s.heap.get? p=some o∧o.cls=.type T∧o.data=.seq its.toArray n∧aX vs its:=by
 rcases h with h | h
 ·obtain ⟨its,rv,pl,hz⟩:=I.list h
  obtain ⟨o,ho,hc,n,hd⟩:=pl.isList
  exact ⟨its, "list", o,n,.inl rfl,ho,hc,hd,rv⟩
 ·obtain ⟨its,rv,⟨o,ho,hc,n,hd⟩,hz⟩:=I.tuple h
  exact ⟨its, "tuple", o,n,.inr rfl,ho,hc,hd,rv⟩
theorem a1W:gM X (.builtin "sorted") (fun xs H Q=>∃ (p:Addr) (vs:List V) (ds:List PyData) (k:Bool) (g:List Bool),xs=[.ref p]∧(SqL X.K H p vs∨SqT X.K H p vs)∧RepAll X.K H vs ds∧(∀ d∈ds,dI (k::g) d=true)∧ds.length<64 ∧
  ∀ (l:Addr) (ix:List Nat),H l=none→(∀ i∈ix,i<vs.length)→(ix.map fun i=>ds.getD i .none)=a1f ds→Q (.ref l) (upd H l (.lst (ix.map fun i=>vs.getD i .non)))):=by
 intro pins s σ H xs us Q I r ⟨p,vs,ds,k,g,e,hq,r2,hs,h64,q⟩
 subst e
 obtain ⟨u,rfl,rx⟩:=vals1 r
 cases rx
 obtain ⟨its,T,o,n,hT,ho,hc,hd,rv⟩:=sQ I hq
 have l1:=r2.len
 have l2:=rv.length
 have rd:=a4W I r2 rv
 refine vY (R:=fun out=>∃ ix:List Nat,(∀ i∈ix,i<vs.length)∧ix.length=ds.length∧(ix.map fun i=>ds.getD i PyData.none)=a1f ds∧out=(ix.map fun i=>its.getD i jf).toArray) hT ho hc hd (by omega) (fun A' E' s' a k' P ha keep hP=>wZ ha rd keep hs (by omega) fun ix hI he=>hP _ ⟨ix.toList,fun i hi=>?_,by rw [qR];exact hI.size,he,rfl⟩) (fun a h2 ep out ⟨ix,hr,hn,he,ho'⟩ kp hz g=>?_)
 ·have:=(Array.perm_iff_toList_perm.mp hI.perm).mem_iff.mp hi
  simp at this
  omega
 ·subst ho'
  have hf:H a=none:=I.hok.fresh hz
  refine ⟨.ref a,_,I.laid (t':=s.toks) kp hz ?_,rfl,q _ ix hf hr he⟩
  refine ⟨?_,ix.map fun i=>its.getD i jf,ep,aX.pick rv _ hr,?_⟩
  ·rw [qQ,hn]
   exact qv (gZ (by omega))
  ·rw [g]
theorem a1Y:gM X (.builtin "sorted") (fun xs H Q=>∃ (p:Addr) (ns:List Int),xs=[.ref p]∧SqT X.K H p (ns.map V.int)∧ns.length<64∧∀ l,H l=none→Q (.ref l) (upd H l (.lst ((sortI ns).map V.int)))):=by
 intro pins s σ H xs us Q I r ⟨p,ns,e,hq,h64,q⟩
 subst e
 obtain ⟨u,rfl,rx⟩:=vals1 r
 cases rx
 obtain ⟨its,T,o,n,hT,ho,hc,hd,rv⟩:=sQ I (.inr hq)
 have hi:=intsAre_of rv
 have hl:=hi.length
 refine vY (R:=fun out=>IntsAre out.toList (sortI ns)) hT ho hc hd (by omega) (fun A' E' s' a k' P ha keep hP=>list_sort_tree ha hi (by omega) fun out ns' h1 h2 h3=>?_) (fun a h2 ep out hR kp hz g=>?_)
 ·have e:=sortI_eq h2 h3
  subst e
  exact hP _ h1
 ·have hf:H a=none:=I.hok.fresh hz
  refine ⟨.ref a,_,I.laid (t':=s.toks) kp hz ?_,rfl,q _ hf⟩
  refine ⟨?_,out.toList,ep,lN hR,?_⟩
  ·rw [qQ,(sortI_perm ns).length_eq]
   exact qv (gZ (by omega))
  ·rw [g]
end
section
variable {X:Cx}
theorem a4O (ds:List PyData) (d:PyData) (h:b0v ds=some d):CallD X (.builtin "sorted") ds d:=by
 unfold b0v at h;split at h
 ·rename_i e
  cases (qA h)
  exact b3D ds _ e
 ·have key:∀ (y:PyData) (xs:List PyData),wA y=some xs→∀ d,b0x xs=some d→CallD X (.builtin "sorted") [y] d:=fun y xs hy d h=>by
   unfold b0x at h;split at h
   ·rename_i x xs
    split at h
    ·rename_i k g e
     split at h
     ·rename_i hc
      rw [qH] at hc
      cases (qA h)
      have hs:∀ d∈x::xs,dI (k::g) d=true:=fun d hd=>jN.mp hc.1 d hd
      exact ⟨_,a1W,fun vs G H Q s r q=>by
       obtain ⟨v,rfl,r0⟩:∃ v,vs=[v]∧Rep X.K G v y:=by
        cases r with
        | cons r rr=>cases rr;exact ⟨_,rfl,r⟩
       obtain ⟨p,us,rfl,hq,r⟩:=iR s hy r0
       exact ⟨_,_,x::xs,k,g,rfl,hq,r.mono s,hs,of_decide_eq_true hc.2,fun l ix hn hi he=>q _ _ _ (.put s hn) (.list (.of aJ) (by
        rw [←he]
        exact (r.pick ix hi).mono (Grow.put s hn).gg))⟩⟩
     ·cases h
    ·cases h
   ·cases h
  split at h
  ·exact key _ _ rfl d h
  ·rename_i xs
   split at h
   ·rename_i ns e
    split at h
    ·rename_i hl
     cases (qA h)
     have:=eA (g:=.int) (fun d a q=>oK q) e
     subst this
     exact ⟨_,a1Y,fun vs G H Q s r q=>by
      cases r with | cons r rr=>cases rr;cases r with | tuple hq r=>
       have e:=r.ints
       subst e
       exact ⟨_,ns,rfl,pU s hq,hl,fun l hn=>q _ _ _ (.put s hn) (.list (.of aJ) (fC _))⟩⟩
    ·cases h
   ·exact key _ _ rfl d h
  ·cases h
end
end L2.L3
namespace L2.L3
open PySem PySem.Spec PySem.Calls PyProof.Rows
section
variable {P:Program} {w:World} {K:qB} {mg:Str→Option Value} {base:Heap}
end
end L2.L3
namespace L2.L3
open PySem PySem.Spec PySem.Calls PyProof.Rows
structure BM (mg:Str→Option Value) (base:Heap):Prop where
 ex:∃ bm ob,mg "__builtins__" = some (.ref bm)∧bm≠builtinsNs∧bm≠mainGlobals∧base.get? bm=some ob∧ob.cls=.type "module" ∧ ob.dict=some builtinsNs∧ob.data=.plain
theorem vR (i j:Int) (t u:Tok) (v:Value):∀ (n:Nat) (l:List Value),l.length≤n→TriplesOk l→TriplesOk (l++[.int i t,.int j u,v]):=by
 intro n
 induction n with
 | zero=>
  intro l hl _
  cases l with
  | nil=>trivial
  | cons a l=>cases hl
 | succ n ih=>
  intro l hl h
  unfold TriplesOk at h
  split at h
  ·trivial
  ·rename_i rest
   have hr:rest.length≤n:=by simp only [qb] at hl;omega
   exact ih rest hr h
  ·cases h
theorem a1c (l:List Value) (i j:Int) (t u:Tok) (v:Value) (h:TriplesOk l):TriplesOk (l++[.int i t,.int j u,v]):=vR i j t u v l.length l (qO _) h
theorem yC {p:Pos} {c cv:Value} (i j:Int) (t u:Tok):∀ (l:List Value),TriplesOk l→codeAmong p (l++[.int i t,.int j u,c])=some cv→codeAmong p l=some cv∨cv=c
 | [],_,h=>by
  have h:(if (i==(p.line:Int)&&j==(p.col:Int))=true then some c else none)=some cv:=h
  split at h
  ·exact .inr (qA h).symm
  ·cases h
 | .int a _::.int b _::d::r,ht,h=>by
  have h:(if (a==(p.line:Int)&&b==(p.col:Int))=true then some d else codeAmong p (r++[.int i t,.int j u,c]))=some cv:=h
  show (if (a==(p.line:Int)&&b==(p.col:Int))=true then some d else codeAmong p r)=some cv∨_
  split at h
  ·rename_i hc;rw [if_pos hc];exact .inl h
  ·rename_i hc;rw [if_neg hc];exact yC i j t u r ht h
section
variable {X:Cx} {pins:List (Addr×Obj)} {σ:St} {H H0 G₀ G:Hp} {s:Shared} {ρ:List Ent}
theorem a9a {x:Str} {cl:List (Str×Addr)} {c P:Addr} {params:Arguments} {body:Expr} {scope:Scope} {pos:Pos} {E:Value→Shared→Prop} {Q:Value→Shared→Prop} (hx:x∈bL) (ht:jc X.K x=some (c,P)) (hc:X.env.code=.ref c)
  (hq:X.env.qual ++ "<lambda>" = lamQ x) (C:kX X.K c P=true) (M:BM X.mg X.base) (hdef:defaultsOf params X.env=([],[])) (hcl:closureFor scope X.env=pure cl) (I:Inv X pins σ H s) (R:RepS X.K H0 G₀ G H σ ρ)
  (h:∀ f c' ct pm H' s',Inv X pins σ H' s'→Grow G H G H'→s'.heap.get? f=some (PySem.W.kla_obj "<lambda>" (lamQ x) params body scope cl pm c' ct)→H' f=none→s.heap.objs.size≤f→H' c'=some (cdO c' (lamQ x))→Q (.ref f) s') :
  wpAny (model X.prog X.w) X.A (eval (.Lambda params body scope pos) X.env) Q E s:=by
 refine PySem.W.kla_eval hdef ?_
 rw [hq]
 have hTab:=R.tab.1 x hx c P ht
 generalize lamQ x=q at hTab h ⊢
 obtain ⟨ps,hP,hT,hA⟩:=hTab
 have hPo:s.heap.get? P=some (zT ps):=I.hok P _ hP
 have C0:PySem.W.CodeHd s.heap c P:=PySem.W.codeHd_of_K I.kIn C
 have hg:s.heap.Ns mainGlobals X.mg:=I.mod.glob.keeps I.bk
 have hgP:mainGlobals≠P:=fun z=>by
  obtain ⟨o,es,ep,e,hd,_⟩:=hg
  rw [z,hPo] at e;cases e;cases hd
 have hB:s.heap.BuiltinsAt X.mg P:=by
  obtain ⟨bm,ob,b1,b2,b3,b4,b5,b6,b7⟩:=M.ex
  refine ⟨bm,ob,b1,b2,b3,fun z=>?_,I.bk _ _ b4,b5,b6,b7⟩
  have e:=I.bk _ _ b4
  rw [z,hPo] at e;cases e;cases b5
 cases hm:codeAmong pos ps.toList with
 | some cv=>
  obtain ⟨c',rfl,hc'⟩:=hA pos cv hm
  refine PySem.W.kla_makeFunctionHit hcl I.ok.glob hg hc C0 hPo hT hm hB fun ct h' tk kp sz=>?_
  exact h _ c' ct _ H _ (I.kept fun b o e=>qC _ (kp b o e)) (.refl R.sub) (qK _ rfl) (I.hok.fresh sz) sz hc'
 | none=>
  refine PySem.W.kla_makeFunction hcl I.ok.glob hg hc C0 hPo hT hm hgP hB fun c' ct h' tk ex ge lt rc tb=>?_
  have hf:H c'=none:=I.hok.fresh ge
  have cP:c'≠P:=fun z=>by rw [z,hP] at hf;cases hf
  have lP:P≠X.env.locals:=fun z=>by have:=I.free;rw [←z,hP] at this;cases this
  -- the heap beside the table
  have kp:∀ b o,b≠P→s.heap.get? b=some o→(h'.push (PySem.W.kla_obj "<lambda>" q params body scope cl ((X.mg "__name__").getD .none) c' ct)).get? b=some o:=fun b o n e=>qC _ (ex b o n e)
  have hsz:s.heap.objs.size≤h'.objs.size:=qj ge (qv lt)
  have H1:∀ b,b≠P→b≠c'→upd (upd H P (.tbl (q,ps++#[rawInt pos.line,rawInt pos.col,.ref c']))) c' (cdO c' (q)) b=H b:=fun b n1 n2=>by rw [aG n2,aG n1]
  have HP:upd (upd H P (.tbl (q,ps++#[rawInt pos.line,rawInt pos.col,.ref c']))) c' (cdO c' (q)) P=some (.tbl (q,ps++#[rawInt pos.line,rawInt pos.col,.ref c'])):=by rw [aG (qr cP),aJ]
  have nb:∀ b o,s.heap.get? b=some o→b≠c':=fun b o e=>qU (qP (qG e) ge)
  have nH:∀ b o,H b=some o→b≠c':=fun b o e z=>by rw [z,hf] at e;cases e
  have nP:∀ b,H b=none→b≠P:=fun b e z=>by rw [z,hP] at e;cases e
  have hsm:Sm H (upd (upd H P (.tbl (q,ps++#[rawInt pos.line,rawInt pos.col,.ref c']))) c' (cdO c' (q))):=by
   refine ⟨fun b o e n=>?_,fun b p e=>?_,fun P' q' t=>?_⟩
   ·rw [H1 b (fun z=>by rw [z,hP] at e;cases e;exact n _ rfl) (nH b o e)];exact e
   ·by_cases z:b=P
    ·rw [z];exact ⟨_,HP⟩
    ·exact ⟨p,by rw [H1 b z (nH b _ e)];exact e⟩
   ·obtain ⟨ps',g1,g2,g3⟩:=t
    have old:∀ d o,H d=some (cdO d o)→upd (upd H P (.tbl (q,ps++#[rawInt pos.line,rawInt pos.col,.ref c']))) c' (cdO c' (q)) d=some (cdO d o):=fun d o e=>by
     rw [H1 d (fun z=>by rw [z,hP] at e;unfold cdO at e;cases e) (nH d _ e)];exact e
    by_cases z:P'=P
    ·subst z
     rw [hP] at g1
     cases g1
     refine ⟨_,HP,?_,fun p cv e=>?_⟩
     ·rw [Array.toList_append];exact a1c _ _ _ _ _ _ g2
     ·rw [Array.toList_append] at e
      rcases yC _ _ _ _ _ g2 e with e | rfl
      ·obtain ⟨d,e1,e2⟩:=g3 p cv e
       exact ⟨d,e1,old d _ e2⟩
      ·exact ⟨c',rfl,aJ⟩
    ·refine ⟨ps',by rw [H1 P' z (nH P' _ g1)];exact g1,g2,fun p cv e=>?_⟩
     obtain ⟨d,e1,e2⟩:=g3 p cv e
     exact ⟨d,e1,old d _ e2⟩
  have gw:Grow G H G (upd (upd H P (.tbl (q,ps++#[rawInt pos.line,rawInt pos.col,.ref c']))) c' (cdO c' (q))):=by
   refine ⟨.refl _,hsm,fun b o e=>?_,fun _ e _=>e,id⟩
   rw [H1 b (fun z=>by have:=R.sub b o e;rw [z,hP] at this;cases this;exact R.tab.2 _ _ e) (nH b o (R.sub b o e))]
   exact R.sub b o e
  refine h h'.objs.size c' ct _ _ _ (I.step (ch:=[]) (g':=s.gens) (d':=s.drawn) (t':=tk) (h':=h'.push (PySem.W.kla_obj "<lambda>" q params body scope cl ((X.mg "__name__").getD .none) c' ct)) (fun _ z=>nomatch z) (fun b o _ _ _ e n=>kp b o (nP b n) e) (fun b o _ _ _ e n=>⟨o.slots,kp b o (nP b n) e⟩)
   (fun b o _ e n=>by rw [H1 b (nP b n) (nb b o e)];exact n) (fun b o _ e=>?_) (fun b xs e=>by rw [H1 b (bZ e hP (by nofun)) (nH b _ e)];exact e) (fun b o u e=>by rw [H1 b (bZ e hP (by nofun)) (nH b _ e)];exact e) (fun b p e=>?_) (fun m hn=>(hn.extBut ex (qr lP)).push _) (fun b u e=>?_) I.bare) gw (qK _ rfl) ?_ hsz aJ
  ·by_cases z:b=P
   ·rw [z];exact ⟨_,qC _ tb⟩
   ·exact ⟨o,kp b o z e⟩
  ·by_cases z:b=P
   ·subst z
    rw [hP] at e;cases e
    exact ⟨#[rawInt pos.line,rawInt pos.col,.ref c'],HP⟩
   ·exact ⟨#[],by rw [H1 b z (nH b _ e),e];simp⟩
  ·by_cases z:b=c'
   ·subst z
    rw [aJ] at e;cases e
    obtain ⟨c2,o2,vs,t,e1,e2,e3,e4⟩:=rc
    cases e1
    exact ⟨⟨_,o2,vs,t,rfl,qC _ e2,e3,e4⟩,⟨o2,qC _ e2⟩,fun h1 h2 ⟨c3,o3,vs3,t3,g1,g2,g3,g4⟩ k=>by cases g1;exact ⟨_,o3,vs3,t3,rfl,k _ g2,g3,g4⟩⟩
   ·by_cases z2:b=P
    ·subst z2
     rw [HP] at e;cases e
     exact qC _ tb
    ·rw [H1 b z2 z] at e
     refine (I.hok b u e).stay (fun b' u' hb' e'=>kp b' u' (fun y=>?_) e') (fun b' e'=>by rw [H1 b' (bZ e' hP (by nofun)) (nH b' _ e')];exact e') fun b' xs e'=>by rw [H1 b' (bZ e' hP (by nofun)) (nH b' _ e')];exact e'
     rcases hb' with y' | y'
     ·exact z2 (y'.symm.trans y)
     ·rw [y,hP] at y';cases y'
  ·have:=kC lt
   rw [H1 _ (fun z=>absurd (qG hPo) (by rw [←z];exact Nat.not_lt_of_le hsz)) this]
   exact I.hok.fresh hsz
end
end L2.L3
namespace L2.L3
open PySem PySem.W PyProof.Rows PySem.Calls
section
variable {prog:Program} {w:World} {A:Around} {E:Value→Shared→Prop} {s:Shared}
end
end L2.L3
namespace L2.L3
open PySem PySem.W PyProof.Rows PySem.Calls
section
variable {prog:Program} {w:World} {A:Around} {E:Value→Shared→Prop} {s:Shared}
end
end L2.L3
namespace L2.L3
open PySem PySem.Spec PySem.Calls PyProof.Rows
section
variable {X:Cx} {pins:List (Addr×Obj)} {σ:St} {H H0 G₀ G:Hp} {s:Shared} {ρ:List Ent}
end
end L2.L3
namespace L2.L3
open PySem PySem.Spec PySem.Calls PyProof.Rows
section
variable {P:Program} {w:World} {K:qB} {mg:Str→Option Value} {base:Heap} {x:Str} {k:Nat} {ps N:List Str}
end
theorem a2W {β:Type}:∀ {l:List (Addr×β)} {a:Addr} {b:β},l.lookup a=some b→(a,b)∈l
 | [],_,_,e=>by cases e
 | (c,y)::r,a,b,e=>by
  rw [jb] at e
  cases hb:a==c with
  | true=>rw [hb] at e;cases e;rw [eq_of_beq hb];exact .head _
  | false=>rw [hb] at e;exact .tail _ (a2W e)
theorem a6L {P:Program} {w:World} {K:qB} {mg mb:Str→Option Value} {k:Nat} {fa a:Addr} {fd:FuncData} {x:Str} {F:List PyData→Mm PyData} {s₁:Shared} {vs:List Value} {ns:List Int} {ts:List (Addr×Str)}
  (KX:K.In s₁.heap) (hns:s₁.heap.Ns mainGlobals mg) (hb:s₁.heap.Ns builtinsNs mb) (hbb:∀ x:Str,x ≠ "__name__" → mb x=bootBuiltins x) (hlim:s₁.heap.NoLimit) (hg:s₁.gens=#[])
  (ha:s₁.heap.get? a=some { cls:=.type "list", data:=.seq vs.toArray }) (hi:IntsAre vs ns) (hl:ns.length≤sizeLine) (hr:Room k callerA) (hbm:BM mg s₁.heap)
  (htab:∀ T q,ts.lookup T=some q→s₁.heap.get? T=some (zT #[])∧isCodeTable s₁.heap T∧K.lookup T=none) (hts:∀ x∈bL,∀ c T,jc K x=some (c,T)→ts.lookup T=some (lamQ x))
  (Fn:∀ base:Heap,K.In base→base.Ns mainGlobals mg→BM mg base→FnOk P w K mg base CX0 k fa fd [x] (spD K fun ds d=>F ds=some (.ok d))) (hbind:∀ (s:Shared) (u:Value),BindsTo s fd ⟨[u],[]⟩ [(x,u)]) (hF:F [.list (ns.map .int)]=some (.ok (.bool true))) :
  codeAny (model P w) callerA (.call (.ref fa) ⟨[.ref a],[]⟩) (fun r s'=>r=.ok (.ret (.bool true))∧OldK s₁.heap s'.heap∧s'.os=s₁.os∧AllBare s'.gens) s₁:=by
 have rv:=lN hi
 have lenV:=hi.length
 have core:∀ S:Hp,b8I S→SqL K S a (ns.map V.int)→HOk P w S s₁.heap→(∀ b,S b≠none→b=a)→(S a≠none→K.lookup a=none) →
   codeAny (model P w) callerA (.call (.ref fa) ⟨[.ref a],[]⟩) (fun r s'=>r=.ok (.ret (.bool true))∧OldK s₁.heap s'.heap∧s'.os=s₁.os∧AllBare s'.gens) s₁:=by
  intro S hO hS hok hA hK
  generalize hH:(fun b=>match ts.lookup b with | some q=>some (HO.tbl (q,#[])) | none=>S b:Hp)=H
  have H1:∀ b q,ts.lookup b=some q→H b=some (.tbl (q,#[])):=fun b q e=>by rw [←hH];simp [e]
  have H2:∀ b,ts.lookup b=none→H b=S b:=fun b e=>by rw [←hH];simp [e]
  have ta:∀ b,S b≠none→ts.lookup b=none:=fun b e=>by
   cases q:ts.lookup b with
   | none=>rfl
   | some q'=>
    have z:=hA b e
    subst z
    have:=(htab _ _ q).1
    rw [ha] at this;cases this
  have SH:aM S H:=fun b o e=>by rw [H2 b (ta b (by rw [e];simp))];exact e
  have hokH:HOk P w H s₁.heap:=fun b u e=>by
   cases q:ts.lookup b with
   | some q'=>
    rw [H1 b q' q] at e;cases e
    exact (htab _ _ q).1
   | none=>
    rw [H2 b q] at e
    exact (hok b u e).stay (fun _ _ _ z=>z) (fun b' z=>SH b' _ z) fun b' xs z=>SH b' _ z
  have free:∀ {b:Addr} {o:Obj},s₁.heap.get? b=some o→o≠zT #[]→o≠{ cls:=.type "list", data:=.seq vs.toArray }→H b=none:=fun {b o} e n1 n2=>by
   cases q:ts.lookup b with
   | some q'=>exact absurd (qA (e.symm.trans (htab _ _ q).1)) n1
   | none=>
    rw [H2 b q]
    cases z:S b with
    | none=>rfl
    | some u=>
     have y:=hA b (by rw [z];simp)
     subst y
     exact absurd (qA (e.symm.trans ha)) n2
  have base_of:∀ {b:Addr} {o:Obj},s₁.heap.get? b=some o→H b=none→(yR s₁.heap H).get? b=some o:=fun e n=>a9l e n
  have nsK:∀ {b:Addr} {m:Str→Option Value},s₁.heap.Ns b m→(yR s₁.heap H).Ns b m:=fun {b m} ⟨o,es,ep,e,d,r⟩=>⟨o,es,ep,base_of e (free e (fun z=>by rw [z] at d;cases d) fun z=>by rw [z] at d;cases d),d,r⟩
  have hKb:K.In (yR s₁.heap H):=fun b o e=>base_of (KX b o e) (by
   cases q:ts.lookup b with
   | some q'=>rw [(htab _ _ q).2.2] at e;cases e
   | none=>
    rw [H2 b q]
    cases z:S b with
    | none=>rfl
    | some u=>
     have y:=hA b (by rw [z];simp)
     subst y
     rw [hK (by rw [z];simp)] at e;cases e)
  have hM:Mod K mg (yR s₁.heap H):=⟨hKb,nsK hns,⟨mb,nsK hb,hbb⟩,let ⟨mc,h1,h2⟩:=hlim;⟨mc,nsK h1,h2⟩⟩
  have hB:BM mg (yR s₁.heap H):=by
   obtain ⟨bm,ob,b1,b2,b3,b4,b5,b6,b7⟩:=hbm.ex
   exact ⟨bm,ob,b1,b2,b3,base_of b4 (free b4 (fun z=>by rw [z] at b5;cases b5) fun z=>by rw [z] at b5;injection b5 with b5;exact absurd b5 (by decide)),b5,b6,b7⟩
  have e0:Env0 P w K mg (yR s₁.heap H) callerA [] s₁ H:=⟨rfl,hM,fun b o e=>b1g e,Nat.le_of_eq (a6P _ _),trivial,fun b hb=>absurd (show b∈([]:List Addr) from hb) (by simp),hokH,.of_eq hg⟩
  have tabs:lJ K S H:=⟨fun x hx c T e=>⟨#[],H1 _ _ (hts x hx c T e),trivial,fun pos cv e=>by cases e⟩,fun b ps e=>by
   rcases hO b with z | ⟨o,xs,z⟩<;>rw [z] at e<;>cases e⟩
  refine codeAny_mono ((Fn _ hKb (nsK hns) hB).run callerA [] s₁ H ⟨[.ref a],[]⟩ [.ref a] [.ref a] (fun v _=>v=.bl true) E0 hr e0 (hbind s₁ (.ref a)) (.cons rfl .nil) ⟨S,[.list (ns.map .int)],.bool true,⟨SH,tabs⟩,.cons (.list hS (fC ns)) .nil,hF,fun v G' H' _ r=>by cases r;rfl⟩) fun r s' h=>?_
  cases r with
  | error e=>exact qk h
  | ok fl=>
   cases fl with
   | next=>exact qk h
   | brk=>exact qk h
   | cont=>exact qk h
   | ret u=>
    obtain ⟨v,H',os,bare,un,hok',r',q⟩:=h
    have q':v=.bl true:=q
    subst q'
    obtain rfl:u=jQ true:=r'
    refine ⟨rfl,⟨fun b o e=>?_,fun b o e=>un.there b o e (by simp)⟩,os,bare⟩
    cases y:ts.lookup b with
    | some q2=>
     obtain ⟨t1,t2,t3⟩:=htab _ _ y
     rw [e] at t1;cases t1
     obtain ⟨more,em⟩:=un.tbls b _ (H1 b q2 y)
     exact .inr (.inl ⟨t2,rfl,#[],more,rfl,hok' b _ em⟩)
    | none=>
     cases q:S b with
     | none=>exact .inl (un.keep b o e (by rw [H2 b y];exact q) (by intro z;exact absurd (show b∈([]:List Addr) from z) (by simp)) (by simp))
     | some u=>
      rcases hO b with z | ⟨ob,xs,z⟩
      ·rw [q] at z;cases z
      ·have z2:=un.frzs b ob _ (SH b _ z)
       obtain ⟨e1,_⟩:=hok b _ z
       obtain ⟨e2,_⟩:=hok' b _ z2
       rw [e] at e1;cases e1
       exact .inl e2
 cases hk:K.lookup a with
 | some o=>
  have e:=KX a o hk
  rw [ha] at e
  cases e
  refine core (fun _=>none) (fun _=>.inl rfl) (.inr ⟨_,vs.toArray,_,hk,rfl,rfl,rfl,by rw [qI,lenV];exact hl,by simpa using rv⟩) (fun b u z=>by have z':(none:Option HO)=some u:=z;cases z') (fun b z=>absurd rfl z) fun z=>absurd rfl z
 | none=>
  refine core (fun b=>if b=a then some (.frz { cls:=.type "list", data:=.seq vs.toArray } (.lst (ns.map V.int))) else none) (fun b=>?_) (.inl (.inr ⟨{ cls:=.type "list", data:=.seq vs.toArray },if_pos rfl⟩)) (fun b u z=>?_) (fun b z=>?_) fun _=>hk
  ·by_cases hb:b=a
   ·exact .inr ⟨_,_,if_pos hb⟩
   ·exact .inl (if_neg hb)
  ·by_cases hb:b=a
   ·have z':=(if_pos hb).symm.trans z
    cases z'
    subst hb
    exact ⟨ha,by rw [qQ];exact hl,vs,_,rv,ha⟩
   ·have z':=(if_neg hb).symm.trans z
    cases z'
  ·by_cases hb:b=a
   ·exact hb
   ·exact absurd (if_neg hb) z
theorem walkL {l:PySem.W.OpenLaw} {k:Nat} {q:Program} {loose:List Str} {XP:(Str→Option Value)→Heap→Prop} {YP:World→Heap→Prop} {d:DefRec} {K:Params→qB} {F:List PyData→Mm PyData} {x:Str} (ts:List (Addr×Str)) (hn:l.most=some 63) (hdf:d.params.defaults=[]) (hr:Room k callerA)
  (hY:∀ (w:World) (h:Heap),YP w h→(K w.params).In h) (hT:∀ (w:World) (h:Heap),YP w h→∀ p∈ts.map (·.1),h.get? p=some (zT #[])) (hcd:∀ w:World,∀ p∈ts,(∃ c,kX (K w.params) c p.1=true)∧(K w.params).lookup p.1=none)
  (hts:∀ w:World,∀ x∈bL,∀ c T,jc (K w.params) x=some (c,T)→ts.lookup T=some (lamQ x))
  (Fn:∀ (w:World) (mg:Str→Option Value) (fa:Addr) (h:Heap),(K w.params).In h→h.Ns mainGlobals mg→mg d.name=some (.ref fa) →
   ∃ fd:FuncData,(∀ (s:Shared) (u:Value),BindsTo s fd ⟨[u],[]⟩ [(x,u)])∧∀ base:Heap,(K w.params).In base→base.Ns mainGlobals mg→BM mg base→FnOk l.prog w (K w.params) mg base CX0 k fa fd [x] (spD (K w.params) fun ds d=>F ds=some (.ok d)))
  (hF:∀ ns:List Int,ns.length≤63→F [.list (ns.map .int)]=some (.ok (.bool true))) :
  PySem.W.WalkO q loose XP YP l.row.toRowW d [] (fun f vs=>PySem.call f vs):=by
 refine Att.attach_call hn hdf fun w s₀ s₁ mg mb fa o pm cd doc a vs ns G Y ho hd hcd' hmg hobj hints hlen hg=>?_
 have KX:=hY w _ Y
 obtain ⟨fd,hb,hFn⟩:=Fn w mg fa _ KX G.T.g hmg
 have hbm:BM mg s₁.heap:=by
  obtain ⟨bm,ob,b1,b2,b3,b4,b5,b6⟩:=G.T.bmain
  refine ⟨bm,ob,b1,b2,fun z=>?_,b3,b4,b5,b6⟩
  obtain ⟨o,es,ep,e,hd,_⟩:=G.T.g
  rw [z,e] at b3;cases b3;rw [hd] at b6;cases b6
 refine a6L (ts:=ts) KX G.T.g G.T.b G.T.builtins G.T.nolimit hg hobj hints (qj hlen (by decide)) hr hbm (fun T q e=>?_) (hts w) hFn hb (hF ns hlen)
 have m:=a2W e
 have e1:=hT w _ Y T (List.mem_map_of_mem (f:=(·.1)) m)
 obtain ⟨⟨c,hc⟩,hn'⟩:=hcd w _ m
 exact ⟨e1,((PySem.W.codeHd_of_K KX hc).tab e1).isCodeTable,hn'⟩
def b2S (K:qB) (ts:List (Addr×Str)) (x:Str):Bool:=match jc K x with
 | none=>true
 | some (_,T)=>ts.lookup T==some (lamQ x)
theorem lam_all {K:qB} {ts:List (Addr×Str)} (h:bL.all (b2S K ts)=true):∀ x∈bL,∀ c T,jc K x=some (c,T)→ts.lookup T=some (lamQ x):=fun x hx c T e=>by
 have:=jN.mp h x hx
 unfold b2S at this
 rw [e] at this
 exact eq_of_beq this
theorem all_cons {α:Type} {p:α→Prop} {a:α} {l:List α} (h:p a) (t:∀ x∈l,p x):∀ x∈a::l,p x:=List.forall_mem_cons.mpr ⟨h,t⟩
end L2.L3
namespace L2.L3
open PySem PySem.Spec PySem.Calls PyProof.Rows
abbrev a4i (qual:Str) (scope:Scope) (L f:Addr) (cd:Value) (cl:List (Str×Addr)):Env:=newEnv scope L mainGlobals cl (qual ++ ".<locals>.") (some f) cd none builtinsNs
section
variable {P:Program} {w:World} {K:qB} {mg:Str→Option Value} {base:Heap}
def cxL (P:Program) (w:World) (K:qB) (mg:Str→Option Value) (base:Heap) (N:List Str) (env:Env) (A:Around) (outer:List Env) (s:Shared) (H:Hp) (E:XK):Cx where
 prog:=P
 w:=w
 K:=K
 mg:=mg
 base:=base
 A:=A.deeper env
 N:=N
 s₀:=s
 H₀:=H
 env:=env
 outer:=outer
 stack:=env::outer
 ex:=[]
 calm:=true
 fn:=fun _=>false
 pn:=[]
 xe:=fun e s'=>wpAny (model P w) (A.deeper env) (leaving env e) (fun _ s''=>CX1 P w outer H s E e s'') (fun e' s''=>CX1 P w outer H s E e' s'') s'
structure Caps (cl:List (Str×Addr)) (scope:Scope) (N:List Str) (σ:St) (H:Hp) (h:Heap):Prop where
 inj:∀ x y c,cl.lookup x=some c→cl.lookup y=some c→x=y
 has:∀ x,scope.names.lookup x=some .free→∃ c,cl.lookup x=some c
 cell:∀ x c,cl.lookup x=some c→H c=none∧∃ v,h.IsCell c v
 val:∀ (i:Nat) (x:Str) (v:V),N[i]?=some x→σ[i]?=some (some v)→scope.names.lookup x=some .free∧∃ u c,RelV v u∧cl.lookup x=some c∧h.IsCell c (some u)
 len:σ.length=N.length
theorem Caps.more {cl:List (Str×Addr)} {scope:Scope} {N:List Str} {σ:St} {H H':Hp} {h h':Heap} {fs:List Addr} (C:Caps cl scope N σ H h) (un:Un fs [] H H' h h'):Caps cl scope N σ H' h':=by
 have go:∀ x c v,cl.lookup x=some c→h.IsCell c v→h'.IsCell c v:=fun x c v e ⟨o,ho,hd⟩=>by
  obtain ⟨sl,q⟩:=un.any ho (C.cell x c e).1 (by simp)
  exact ⟨_,q,hd⟩
 refine ⟨C.inj,C.has,fun x c e=>?_,fun i x v e1 e2=>?_,C.len⟩
 ·obtain ⟨n,v,o,ho,hd⟩:=C.cell x c e
  exact ⟨un.free c o ho n (by simp),v,go x c v e ⟨o,ho,hd⟩⟩
 ·obtain ⟨h1,u,c,h2,h3,h4⟩:=C.val i x v e1 e2
  exact ⟨h1,u,c,h2,h3,go x c _ h3 h4⟩
theorem b1J {N:List Str} {qual:Str} {scope:Scope} {f:Addr} {cd:Value} {cl:List (Str×Addr)} {A:Around} {outer:List Env} {s:Shared} {H:Hp} {E:XK} {σ:St} {h1:Heap} {tk:Nat}
  (hk:scope.kind=.function) (hnc:∀ x∈scope.names,x.2≠.cell) (hd:A.handled=none) (e0:Env0 P w K mg base A outer s H) (C:Caps cl scope N σ H s.heap) (hns:∃ m,h1.Ns s.heap.objs.size m) (kp:∀ b o,s.heap.get? b=some o→h1.get? b=some o) :
  Inv (cxL P w K mg base N (a4i qual scope s.heap.objs.size f cd cl) A outer s H E) [] σ H { s with heap:=h1,toks:=tk }:=by
 have noA:∀ b:Addr,b∉(cxL P w K mg base N (a4i qual scope s.heap.objs.size f cd cl) A outer s H E).ex:=fun b z=>absurd (show b∈([]:List Addr) from z) (by simp)
 obtain ⟨m,hns⟩:=hns
 have cellK:∀ c v,s.heap.IsCell c v→h1.IsCell c v:=fun c v ⟨o,ho,hd⟩=>⟨o,kp _ _ ho,hd⟩
 refine ⟨⟨e0.mod,hk,rfl,rfl,qO _,C.inj,fun y hy=>?_,(fun y c z _=>nomatch z),fun _=>hd,Around.frames_deeper e0.frames,.inr ⟨rfl,rfl⟩,fun b z=>absurd z (noA b),e0.bs,e0.bsz,fun b _ _=>noA b,fun b z=>absurd z (noA b),e0.funs,e0.frf⟩,
  rfl,e0.bare,Un.kept kp,⟨m,hns,fun i y v h1 h2 h3=>?_⟩,fun y c h=>?_,e0.hok.fresh (qO _),fun y c h=>(C.cell y c h).1,fun p hp=>absurd (show p∈([]:List (Addr×Obj)) from hp) (by simp),e0.hok.kept kp,C.len⟩
 ·have hy:scope.names.lookup y=some .cell∨scope.names.lookup y=some .free:=hy
  rcases hy with hy | hy
  ·exact absurd rfl (hnc _ (qZ hy))
  ·exact C.has y hy
 ·obtain ⟨q1,u,c,q2,q3,q4⟩:=C.val i y v h1 h2
  exact ⟨u,q2,.inr ⟨.inr q1,c,q3,cellK c _ q4⟩⟩
 ·obtain ⟨_,v,q⟩:=C.cell y c h
  exact ⟨v,cellK c v q⟩
end
end L2.L3
namespace L2.L3
open PySem PySem.Spec PySem.Calls PyProof.Rows
structure RoomN (k:Nat) (A:Around):Prop where
 dp:A.depth+3*k+5<recursionLimit
 un:A.units+16*k+200<cLine
theorem RoomN.units {k:Nat} {A:Around} (r:RoomN k A):A.units+64<cLine:=by have:=r.un;omega
theorem Room.n {k:Nat} {A:Around} (r:Room k A) (e:Option Value):RoomN k (A.mark e):=⟨r.dp,r.un⟩
section
variable {P:Program} {w:World} {K:qB} {mg:Str→Option Value} {base:Heap} {x:Str} {k:Nat} {ps N:List Str} {F:Str→Mm PyData}
abbrev fcN (P:Program) (w:World) (K:qB) (mg:Str→Option Value) (base:Heap) (N:List Str) (qual:Str) (scope:Scope) (f:Addr) (cd:Value) (A:Around) (outer:List Env) (s:Shared) (H:Hp):Cx:=
 { tZ CX0 P w K mg base N qual scope f cd A outer s H E0 with calm:=false,xe:=fun _ _=>False }
structure ClsOk (P:Program) (w:World) (K:qB) (mg:Str→Option Value) (base:Heap) (x:Str) (k:Nat) (F:Str→Mm PyData):Prop where
 ex:∃ f,mg x=some (.ref f)∧jC K (.ref f)=true∧∀ (A:Around) (outer:List Env) (s:Shared) (H G:Hp) (a C:Addr) (c:Str) (d:PyData),RoomN k A→Env0 P w K mg base A outer s H→(aM G H∧lJ K G H)→dW K c=some C→H a=some (xcO a C)→F c=some (.ok d) →
  codeAny (model P w) A (.call (.ref f) ⟨[.ref a],[]⟩) (CR CX0 outer P w H s (fun v H'=>∃ G',Grow G H G' H'∧Rep K G' v d) E0) s
theorem b2r {st:Stmt} {y:Str} {f:SF} (m:Nat) (D:Def K mg x st) (S:FnScope N [y] (aC st)) (hm:N.length=m)
  (hb:∀ (kV doc pm:Value) (an:Option Addr) (cdv ct:Value) (us:List Value),us.length=[y].length→bindArgs (jE x x (dQ st) (bI st) (aC st) .none kV doc pm an cdv ct) ⟨us,[]⟩=pure ([y].zip us))
  (body:∀ (fa:Addr) (cdv:Value) (A:Around) (outer:List Env) (s:Shared) (H:Hp),RoomN 0 (A.deeper (envOfC x (aC st) s.heap.objs.size fa cdv))→DB (fcN P w K mg base N x (aC st) fa cdv A outer s H) (bI st) f) :
  ClsOk P w K mg base x 1 (b3I m f):=by
 obtain ⟨fa,fd,Fu,hmg⟩:=D.ex
 refine ⟨fa,hmg,Fu.kp,fun A outer s H G a C c d hr e0 sm hC hH hF=>?_⟩
 have bd:=Fu.binds hb
 obtain ⟨oc,od,kV,doc,pm,an,cdv,ct,osl,rfl,lk,hcd⟩:=Fu.ex
 have KX:K.In s.heap:=e0.mod.kin.keeps fun b o e=>(e0.bs b o e).1
 have lim:s.heap.NoLimit:=e0.mod.nolimit.keeps fun b o e=>(e0.bs b o e).1
 have hkind:∀ z∈[y].zip [qi a],(aC st).names.lookup z.1=some .local∨((aC st).names.lookup z.1=some .cell∧((cellsFrom (s.heap.objs.size+1) (aC st).names []).lookup z.1).isSome=true):=fun ⟨n,v⟩ hy=>by
  rcases S.par n (kj hy).1 with q | q
  ·exact .inl q
  ·exact .inr ⟨q,kO _ _ _ (.inl q)⟩
 have dep:A.depth<recursionLimit:=by have:=hr.dp;omega
 refine codeAny_call_function dep (KX _ _ lk) rfl S.co S.gen rfl (zh KX hcd) (bd s [.ref a] KX rfl _ _ _ _ ?_)
 refine wpAny_newFunctionEnv_cells S.kind hkind fun env he s1 xx=>?_
 subst he
 refine ⟨lim.keeps xx.toInCall.keep,codeAny_func ?_⟩
 have e1:Env0 P w K mg base { A with handled:=none } outer s H:=⟨e0.frames,e0.mod,e0.bs,e0.bsz,e0.funs,e0.frf,e0.hok,e0.bare⟩
 have J:Inv (tZ CX0 P w K mg base N x (aC st) fa cdv { A with handled:=none } outer s H E0) [] (start N [.ref a]) H s1:=tR S rfl e1 rfl (.cons rfl .nil) xx
 have I:Inv (fcN P w K mg base N x (aC st) fa cdv A outer s H) [] (start N [.ref a]) H s1:=
  ⟨⟨J.ok.mod,J.ok.kind,J.ok.glob,J.ok.blt,J.ok.above,J.ok.inj,J.ok.has,J.ok.cab,(fun z=>nomatch z),J.ok.frames,J.ok.stk,J.ok.exf,J.ok.bs,J.ok.bsz,J.ok.noex,J.ok.exfs,J.ok.funs,J.ok.frf⟩,J.os,J.bare,J.base,J.loc,J.cell,J.free,J.freeC,J.pin,J.hok,J.len⟩
 unfold b3I at hF
 rw [←hm] at hF
 have fin:∀ (fl:Flow) (s':Shared),SP (fcN P w K mg base N x (aC st) fa cdv A outer s H) [] { nx:=fun _ H'=>∃ G',Grow G H G' H'∧Rep K G' .non d,rt:=fun v H'=>∃ G',Grow G H G' H'∧Rep K G' v d } fl s' →
   (match fl with | .ret u=>CR CX0 outer P w H s (fun v H'=>∃ G',Grow G H G' H'∧Rep K G' v d) E0 (.ok (.ret u)) s' | .next=>CR CX0 outer P w H s (fun v H'=>∃ G',Grow G H G' H'∧Rep K G' v d) E0 (.ok (.ret .none)) s' | _=>False):=fun fl s' hs=>by
  cases fl with
  | ret u=>
   obtain ⟨v,σ',H',J,rv,q⟩:=hs
   exact ⟨v,H',J.os,J.bare,J.base,J.hok,rv,q⟩
  | next=>
   obtain ⟨σ',H',J,q⟩:=hs
   exact ⟨.non,H',J.os,J.bare,J.base,J.hok,rfl,q⟩
  | brk=>obtain ⟨_,_,_,q⟩:=hs;exact q.elim
  | cont=>obtain ⟨_,_,_,q⟩:=hs;exact q.elim
 have run:∀ o,f (.exc c::qV (N.length - 1) .no)=some o→sG (fcN P w K mg base N x (aC st) fa cdv A outer s H) H G G { nx:=fun _ H'=>∃ G',Grow G H G' H'∧Rep K G' .non d,rt:=fun v H'=>∃ G',Grow G H G' H'∧Rep K G' v d } o →
   wpAny (model P w) (A.deeper (envOfC x (aC st) s.heap.objs.size fa cdv)) (execs (bI st) (envOfC x (aC st) s.heap.objs.size fa cdv)) (SP (fcN P w K mg base N x (aC st) fa cdv A outer s H) [] { nx:=fun _ H'=>∃ G',Grow G H G' H'∧Rep K G' .non d,rt:=fun v H'=>∃ G',Grow G H G' H'∧Rep K G' v d }) (fun _ _=>False) s1:=
  fun o e q=>(body fa cdv A outer s H ⟨by have:=hr.dp;show A.depth+1+3*0+5<_;omega,by have:=hr.un;show A.units+3+16*0+200<_;omega⟩).run [] s1 _ H _ I ⟨_,o,H,G,G,e,a6h sm hC hH,q⟩
 split at hF
 ·rename_i d' e
  cases (qA hF)
  refine wpAny_mono (run _ e fun v G' H' _ g rv=>⟨G',g,rv⟩) (fun fl s' hs=>?_) fun _ _ z=>z.elim
  have:=fin fl s' hs
  cases fl<;>first | exact this | exact this.elim
 ·rename_i ρ' e
  cases (qA hF)
  refine wpAny_mono (run _ e fun G' H' σ' _ R'=>⟨G',R'.grow,.none⟩) (fun fl s' hs=>?_) fun _ _ z=>z.elim
  have:=fin fl s' hs
  cases fl<;>first | exact this | exact this.elim
 ·cases hF
end
section
variable {X:Cx}
theorem a7b {pins:List (Addr×Obj)} {s:Shared} {σ:St} {H:Hp} {fl:Addr} {dn:Str} {i:Nat} {p pos:Pos} {Qv:VK} {Ev:XK} (I:Inv X pins σ H s) (hN:X.N[i]?=some dn) (hσ:σ[i]?=some (some (.ref fl))) (hv:Vis X.env.scope dn)
  (hd:(dn==("__debug__" : Str))=false) (hcd:(dn==("__classdict__" : Str))=false) (hf:∀ s',Inv X pins σ H s'→PySem.W.FnAt fl s'.heap)
  (run:∀ s',Inv X pins σ H s'→codeAny (model X.prog X.w) X.A (.call (.ref fl) ⟨[],[]⟩) (CR (CX1 X.prog X.w) X.stack X.prog X.w H s' Qv Ev) s') :
  wpAny (model X.prog X.w) X.A (eval (.Call (.Name dn p) [] [] pos) X.env) (EP X pins σ Qv) (fun e s'=>∃ a C H',e=.ref a∧Ev (.ref C) none H'∧Inv X pins σ H' s'∧ExcAt (mX X) H' a C s'.heap) s:=by
 have nm:=cB (X:=X.wish fun _ _=>False) (pos:=p) hN hv hd hcd pins s σ H (fun v H'=>v=.ref fl∧H'=H) (I.wish _) ⟨.ref fl,hσ,rfl,rfl⟩
 refine wpAny_Call_Name_kw (wpAny_mono nm (fun u s1 ⟨v,H1,I1',rv,e1,e2⟩=>?_) fun _ _ z=>z.elim)
 subst e1 e2
 cases rv
 have I1:=I1'.unwish
 refine PySem.W.callWith_F0 (hf s1 I1) (wpAny_call (codeAny_mono (run s1 I1) fun res s' hq=>?_))
 cases res with
 | error e2=>
  obtain ⟨a2,C2,H2,rfl,hE,os,bare,un,hok,xa⟩:=hq
  exact ⟨a2,C2,H2,rfl,hE,I1.call' (ch:=[]) os un hok bare (fun b z=>nomatch z),xa.mono fun b hb=>mR I1 hb⟩
 | ok fl=>
  cases fl with
  | ret u=>exact I1.after hq
  | next=>exact qk hq
  | brk=>exact qk hq
  | cont=>exact qk hq
theorem a9W {pins:List (Addr×Obj)} {s:Shared} {σ:St} {H G:Hp} {x n c:Str} {k j:Nat} {a C:Addr} {d:PyData} {F:Str→Mm PyData} {p p2 pos:Pos} {e:Option Value} (K0:ClsOk X.prog X.w X.K X.mg X.base x k F) (hr:RoomN k X.A) (I:Inv X pins σ H s) (hN:X.N[j]?=some n) (hσ:σ[j]?=some (some (.ref a))) (hv:Vis X.env.scope n)
  (hd:(n==("__debug__" : Str))=false) (hcd:(n==("__classdict__" : Str))=false) (sm:aM G H∧lJ X.K G H) (hC:dW X.K c=some C) (hH:H a=some (xcO a C)) (hF:F c=some (.ok d)) (hg:Gl X x) (hdb:(x==("__debug__" : Str))=false)
  (he:starEach [.Name n p2] X.env=(false,eval (.Name n p2) X.env)::starEach [] X.env) (hpl:(backTo pos (starEach [] X.env)).any (·.1)=false) :
  wpAny (model X.prog X.w) X.A (eval (.Call (.Name x p) [.Name n p2] [] pos) X.env) (EP X pins σ fun v H'=>∃ G',Grow G H G' H'∧Rep X.K G' v d) X.xe s:=by
 obtain ⟨f,hm,kp,run⟩:=K0.ex
 refine wpAny_Call_Name_kw (iT I hg hm ?_ hdb)
 refine kF (h₀:=X.base) I.ok.mod.kin kp (thn (cQ (cB hN hv hd hcd) dR he pos pins s σ H (fun vs H'=>vs=[.ref a]∧H'=H) I ⟨.ref a,hσ,rfl,rfl⟩) fun us s1 ⟨vs,H1,I1,rv,e1,e2⟩=>⟨I1.kIn,?_⟩) he hpl
 subst e1 e2
 obtain ⟨u,rfl,ru⟩:=vals1 rv
 cases ru
 refine wpAny_call (codeAny_mono (run X.A X.stack s1 H1 G a C c d hr I1.env0 sm hC hH hF) fun res s' hq=>?_)
 cases res with
 | error e2=>exact hq.elim
 | ok fl=>
  cases fl with
  | ret u=>exact I1.after hq
  | next=>exact qk hq
  | brk=>exact qk hq
  | cont=>exact qk hq
end
end L2.L3
namespace L2.L3
open PySem PySem.Spec PySem.Calls PyProof.Rows
def nE (L:List Str) (F:Str→Mm PyData) (r:Re PyData):Option PyData:=match r with
 | .ok d=>some d
 | .ex c=>if L.contains c then (match F c with | some (.ok d)=>some d | _=>none) else none
section
variable {X:Cx} {L:List Str}
end
section
variable {P:Program} {w:World} {K:qB} {mg:Str→Option Value} {base:Heap} {x:Str} {k:Nat} {F:Str→Mm PyData} {L:List Str}
end
end L2.L3
namespace L2.L3
open PySem PySem.Spec PySem.Calls PyProof.Rows
section
variable {X:Cx}
theorem b2u {scope:Scope} {N':List Str} {cap:List (Option Nat)} {pins:List (Addr×Obj)} {σ:St} {H:Hp} {s:Shared} (B:Blk X scope N' cap) (I:Inv X pins σ H s):Caps (uA scope X.env) scope N' (eK cap σ) H s.heap:=by
 have cl:∀ x c,(uA scope X.env).lookup x=some c→X.env.cells.lookup x=some c:=fun x c h=>a1T h
 refine ⟨fun x y c h1 h2=>I.ok.inj x y c (cl x c h1) (cl y c h2),fun x h=>?_,fun x c h=>⟨I.freeC x c (cl x c h),I.cell x c (cl x c h)⟩,fun i x v e1 e2=>?_,by unfold eK;rw [qQ];exact B.len⟩
 ·have hm:=qZ h
  obtain ⟨c,e⟩:=I.ok.has x (.inl (B.free _ hm rfl))
  exact ⟨c,rQ hm e⟩
 ·unfold eK at e2
  rw [qJ] at e2
  cases hc:cap[i]? with
  | none=>rw [hc] at e2;cases e2
  | some o=>
   rw [hc] at e2
   cases o with
   | none=>cases e2
   | some j=>
    have e3:(σ[j]?).getD none=some v:=qA e2
    have e4:σ[j]?=some (some v):=by
     cases q:σ[j]? with
     | none=>rw [q] at e3;cases e3
     | some w'=>rw [q] at e3;have:w'=some v:=e3;rw [this]
    obtain ⟨y,h1,h2,h3⟩:=B.caps i j hc
    rw [e1] at h1
    cases h1
    have hcell:X.env.kindOf x=some .cell:=B.free _ (qZ h3) rfl
    obtain ⟨m,_,hl⟩:=I.loc
    obtain ⟨u,r,l⟩:=hl j x v h2 e4 (.inr (.inl hcell))
    rcases l with ⟨k,_⟩ | ⟨_,c,e,z⟩
    ·rw [hcell] at k;cases k
    ·exact ⟨h3,u,c,r,rQ (qZ h3) e,z⟩
end
def a5z (L:List Str) (K:qB):Bool:=match dW K "SheetError" with
 | some S=>a2k K S&&L.all (a5A K S)&&(L.all fun c=>L.all fun d=>b2W K c d)
 | none=>false
structure ExG (L:List Str) (K:qB):Prop where
 ok:a5z L K=true
section
variable {L:List Str} {K:qB}
theorem ExG.l (F:ExG L K):ExL L K:=⟨by
 have h:=F.ok
 unfold a5z at h
 unfold a9D
 split at h
 ·rename_i S hS
  rw [qH] at h;first | exact h.1 | (rw [hS];exact h.1)
 ·cases h⟩
theorem ExG.one (F:ExG L K) {c:Str} (hc:c∈L):∃ C,dW K c=some C∧XCls K C∧PySem.W.typeIn K (.ref C)=some (.type "type")∧jy K (.ref C) (.type "ValueError")=some true:=by
 have h:=F.ok
 unfold a5z at h
 split at h
 ·rename_i S hS
  rw [qH,qH] at h
  have h2:=jN.mp h.1.2 c hc
  unfold a5A at h2
  split at h2
  ·rename_i C hC
   simp only [qH,beq_iff_eq] at h2
   exact ⟨C,hC,a0X h2.1.1.1,h2.1.1.2,h2.1.2⟩
  ·cases h2
 ·cases h
theorem ExG.two (F:ExG L K) {c d:Str} (hc:c∈L) (hd:d∈L) (n:c≠d) {C D:Addr} (eC:dW K c=some C) (eD:dW K d=some D):C≠D∧jy K (.ref C) (.ref D)=some false:=by
 have h:=F.ok
 unfold a5z at h
 split at h
 ·rw [qH,qH] at h
  have h2:=jN.mp (jN.mp h.2 c hc) d hd
  unfold b2W at h2
  rw [eC,eD] at h2
  rcases Bool.or_eq_true_iff.mp h2 with z | z
  ·exact absurd (beq_iff_eq.mp z) n
  ·simp only [qH,beq_iff_eq,bne_iff_ne] at z
   exact z
 ·cases h
end
section
variable {X:Cx} {pos p p2:Pos} {x:Str} {L:List Str}
def yQ (L:List Str) (i:Nat) (d:Str):EF:=fun ρ=>match ρ[i]? with
 | some (.exc c)=>if L.contains c then some (.ok (.bool (c==d))) else none
 | _=>none
theorem iU (i:Nat) {d:Str} (F:ExG L X.K) (hm:X.mg "isinstance" = none) (hd':d∈L:=by decide) (hN:X.N[i]?=some x:=by rfl) (hv:Vis X.env.scope x:=by first | exact qu rfl | exact qf (qu rfl) | exact qf (qf rfl)) (hd:(x==("__debug__" : Str))=false:=by decide)
  (hcd:(x==("__classdict__" : Str))=false:=by decide) (hdd:(d==("__debug__" : Str))=false:=by decide)
  (he:starEach [.Name x p,.Name d p2] X.env=(false,eval (.Name x p) X.env)::starEach [.Name d p2] X.env:=by rfl) (he2:starEach [.Name d p2] X.env=(false,eval (.Name d p2) X.env)::starEach [] X.env:=by rfl)
  (hpl:(backTo pos (starEach [.Name d p2] X.env)).any (·.1)=false:=by rfl) (hg:Gl X "isinstance":=by rfl) (hgd:Gl X d:=by rfl) {pi:Pos}:DE X (.Call (.Name "isinstance" pi) [.Name x p,.Name d p2] [] pos) (yQ L i d):=⟨fun pins s σ H Q I ⟨ρ,r,H0,G₀,G,e,R,q⟩=>by
 obtain ⟨D,hD,xD,tD',_⟩:=F.one hd'
 have hmd:X.mg d=some (.ref D):=jl I.mod.kin I.mod.glob (a1O hD)
 have hc:gM X (.builtin "isinstance") (fun xs H Q=>∃ a C c,xs=[.ref a,.ref D]∧c∈L∧dW X.K c=some C∧H a=some (xcO a C)∧Q (.bl (c==d)) H):=by
  intro pins s σ H xs us Q I r ⟨a,C,c,e1,hcn,hC,hH,q⟩
  subst e1
  obtain ⟨u,w',rfl,r1,r2⟩:=vals2 r
  cases r1;cases r2
  obtain ⟨⟨ox,xo⟩,_⟩:=I.hok a _ hH
  obtain ⟨C',hC',xC,_⟩:=F.one hcn
  rw [hC] at hC';cases hC'
  by_cases h:c=d
  ·subst h
   rw [hC] at hD;cases hD
   refine b5W I.kIn xo (by unfold PySem.W.isIn;simp) ⟨.bl (c==c),H,I,by show jQ true=jQ (c==c);simp,q⟩
  ·obtain ⟨n1,n2⟩:=F.two hcn hd' h hC hD
   exact a7w xC xD I.kIn xo n1 tD' n2 ⟨.bl (c==d),H,I.tok _,by show jQ false=jQ (c==d);simp [h],q⟩
 refine lO hc hg hm boot_isinstance (cQ (cB hN hv hd hcd) (cQ (a5g (v:=.ref D) hgd hmd rfl hdd) dR he2) he) (by decide) (by decide) he hpl pins s σ H Q I ?_
 unfold yQ at e
 split at e
 ·rename_i c hi
  split at e
  ·rename_i hcn
   cases (qA e)
   obtain ⟨o,eo,a,C,rfl,hC,hH⟩:=R.at hi
   exact ⟨_,eo,a,C,c,rfl,by simpa using hcn,hC,hH,q _ G H (.refl R.sub) (.bool _)⟩
  ·cases e
 ·cases e⟩
def b4W (L:List Str) (i:Nat):EF:=fun ρ=>match ρ[i]? with
 | some (.exc c)=>if L.contains c then some (.ok (.bool true)) else none
 | _=>none
theorem b2e (i:Nat) (F:ExG L X.K) (hm:X.mg "isinstance" = none) (hmV:X.mg "ValueError" = none) (hN:X.N[i]?=some x:=by rfl) (hv:Vis X.env.scope x:=by first | exact qu rfl | exact qf (qu rfl) | exact qf (qf rfl)) (hd:(x==("__debug__" : Str))=false:=by decide)
  (hcd:(x==("__classdict__" : Str))=false:=by decide)
  (he:starEach [.Name x p,.Name "ValueError" p2] X.env=(false,eval (.Name x p) X.env)::starEach [.Name "ValueError" p2] X.env:=by rfl) (he2:starEach [.Name "ValueError" p2] X.env=(false,eval (.Name "ValueError" p2) X.env)::starEach [] X.env:=by rfl)
  (hpl:(backTo pos (starEach [.Name "ValueError" p2] X.env)).any (·.1)=false:=by rfl) (hg:Gl X "isinstance":=by rfl) (hgd:Gl X "ValueError":=by rfl) {pi:Pos}:DE X (.Call (.Name "isinstance" pi) [.Name x p,.Name "ValueError" p2] [] pos) (b4W L i):=⟨fun pins s σ H Q I ⟨ρ,r,H0,G₀,G,e,R,q⟩=>by
 have hc:gM X (.builtin "isinstance") (fun xs H Q=>∃ a C c,xs=[.ref a,.ty "ValueError"]∧c∈L∧dW X.K c=some C∧H a=some (xcO a C)∧Q (.bl true) H):=by
  intro pins s σ H xs us Q I r ⟨a,C,c,e1,hcn,hC,hH,q⟩
  subst e1
  obtain ⟨u,w',rfl,r1,r2⟩:=vals2 r
  cases r1;cases r2
  obtain ⟨⟨ox,xo⟩,_⟩:=I.hok a _ hH
  obtain ⟨C',hC',xC,_,sV⟩:=F.one hcn
  rw [hC] at hC';cases hC'
  exact b3h I.kIn xo b6a sV ⟨.bl true,H,I,rfl,q⟩
 refine lO hc hg hm boot_isinstance (cQ (cB hN hv hd hcd) (cQ (a5k (v:=.ty "ValueError") hgd hmV (by decide +kernel) rfl (by decide) (by decide)) dR he2) he) (by decide) (by decide) he hpl pins s σ H Q I ?_
 unfold b4W at e
 split at e
 ·rename_i c hi
  split at e
  ·rename_i hcn
   cases (qA e)
   obtain ⟨o,eo,a,C,rfl,hC,hH⟩:=R.at hi
   exact ⟨_,eo,a,C,c,rfl,by simpa using hcn,hC,hH,q _ G H (.refl R.sub) (.bool _)⟩
  ·cases e
 ·cases e⟩
def bK:List Str:=["NoBack", "NoMeeting", "NoSheet", "NoText", "NoTime", "NoZone", "Taken", "TooMany"]
end
end L2.L3
namespace L2.L3
open PySem PySem.Spec PySem.Calls PyProof.Rows
abbrev Sto:=List (Addr×BS)
def dG:Sto→Addr→Option BS
 | [],_=>none
 | p::β,a=>if p.1=a then some p.2 else dG β a
def fO:Sto→Addr→BS→Sto
 | [],_,_=>[]
 | p::β,a,b=>if p.1=a then (a,b)::β else p::fO β a b
def plus (H0 H:Hp) (F:List Addr):Hp:=fun x=>if x∈F then H x else H0 x
def less (H:Hp) (F:List Addr):Hp:=fun x=>if x∈F then none else H x
theorem bX {H0 H:Hp} {F:List Addr} {x:Addr} (h:x∈F):plus H0 H F x=H x:=if_pos h
theorem aU {H0 H:Hp} {F:List Addr} {x:Addr} (h:x∉F):plus H0 H F x=H0 x:=if_neg h
theorem dZ {H:Hp} {F:List Addr} {x:Addr} (h:x∈F):less H F x=none:=if_pos h
theorem bP {H:Hp} {F:List Addr} {x:Addr} (h:x∉F):less H F x=H x:=if_neg h
def oY:HO→Prop
 | .ins _ _ _=>True
 | .own _=>True
 | .dK _=>True
 | .lst _=>True
 | _=>False
theorem BOk.kind {K:qB} {G H:Hp} {a:Addr} {b:BS} {fp:List Addr} (h:BOk K G H a b fp):∀ x∈fp,∃ o,H x=some o∧oY o:=by
 obtain ⟨dx,d,l1,l2,vs,xs,ys,rfl,n,h1,h2,h3,h4,h5,_⟩:=h
 intro x hx
 simp only [qM,kA,or_false] at hx
 rcases hx with rfl | rfl | rfl | rfl | rfl
 ·exact ⟨_,h1,trivial⟩
 ·exact ⟨_,h2,trivial⟩
 ·exact ⟨_,h3,trivial⟩
 ·exact ⟨_,h4,trivial⟩
 ·exact ⟨_,h5,trivial⟩
theorem oY.nt {o:HO} (h:oY o):∀ ps,o≠.tbl ps:=fun ps z=>by subst z;exact h
structure StoOk (K:qB) (H0 G H:Hp) (β:Sto) (fps:List (List Addr)):Prop where
 each:Paired (fun (p:Addr×BS) fp=>BOk K G H p.1 p.2 fp) β fps
 nd:fps.flatten.Nodup
 out:∀ x∈fps.flatten,H0 x=none∧G x=none
def aR (K:qB) (H0 G₀ G H:Hp) (σ:St) (ρ:List Ent) (β:Sto):Prop:=∃ fps,StoOk K H0 G H β fps∧RepS K (plus H0 H fps.flatten) G₀ G H σ ρ
def iX (K:qB) (H0 G₀ G H:Hp) (β:Sto):Prop:=∃ fps,StoOk K H0 G H β fps∧Grow G₀ (plus H0 H fps.flatten) G H
section
variable {K:qB} {H0 G₀ G H G' H':Hp} {σ σ':St} {ρ ρ':List Ent} {β:Sto} {fps:List (List Addr)}
theorem uJ {α:Type} {Φ:α→List Addr→Prop} {Ψ:Addr→Prop} (h:∀ p fp,Φ p fp→∀ x∈fp,Ψ x):∀ {l:List α} {m:List (List Addr)},Paired Φ l m→∀ x∈m.flatten,Ψ x
 | _,_,.nil,x,hx=>nomatch hx
 | _,_,.cons r t,x,hx=>by
  rw [qe,qg] at hx
  rcases hx with hx | hx
  ·exact h _ _ r x hx
  ·exact uJ h t x hx
theorem StoOk.kind (S:StoOk K H0 G H β fps):∀ x∈fps.flatten,∃ o,H x=some o∧oY o:=uJ (fun _ _ r=>r.kind) S.each
theorem oH {α:Type} {Φ Ψ:α→List Addr→Prop}:∀ {l:List α} {m:List (List Addr)},Paired Φ l m→(∀ p fp,fp∈m→Φ p fp→Ψ p fp)→Paired Ψ l m
 | _,_,.nil,_=>.nil
 | _,_,.cons r t,h=>.cons (h _ _ qd r) (oH t fun p fp hf=>h p fp (qE _ hf))
theorem StoOk.grow (S:StoOk K H0 G H β fps) (h0:aM G₀ G) (g:Grow G₀ (plus H0 H fps.flatten) G' H') (s:aM G G'):StoOk K H0 G' H' β fps∧plus H0 H' fps.flatten=plus H0 H fps.flatten:=by
 have kp:∀ x∈fps.flatten,∀ o,H x=some o→H' x=some o:=fun x hx o e=>by
  obtain ⟨o',e',k⟩:=S.kind x hx
  rw [e] at e';cases e'
  exact g.hh.keep x o (by rw [bX hx];exact e) k.nt
 refine ⟨⟨oH S.each fun p fp hf r=>r.keep (fun x o hx e _=>kp x (vF.mpr ⟨fp,hf,hx⟩) o e) s,S.nd,fun x hx=>⟨(S.out x hx).1,g.new x (h0.free (S.out x hx).2) ?_⟩⟩,?_⟩
 ·obtain ⟨o',e',_⟩:=S.kind x hx
  rw [bX hx,e'];simp
 ·funext x
  by_cases hx:x∈fps.flatten
  ·rw [bX hx,bX hx]
   obtain ⟨o',e',_⟩:=S.kind x hx
   rw [e',kp x hx o' e']
  ·rw [aU hx,aU hx]
theorem aR.of (S:StoOk K H0 G H β fps) (h0:aM G₀ G) (R:RepS K (plus H0 H fps.flatten) G₀ G' H' σ' ρ') (s:aM G G'):aR K H0 G₀ G' H' σ' ρ' β:=by
 obtain ⟨S',e⟩:=S.grow h0 R.grow s
 exact ⟨fps,S',by rw [e];exact R⟩
theorem iX.of (S:StoOk K H0 G H β fps) (h0:aM G₀ G) (g:Grow G₀ (plus H0 H fps.flatten) G' H') (s:aM G G'):iX K H0 G₀ G' H' β:=by
 obtain ⟨S',e⟩:=S.grow h0 g s
 exact ⟨fps,S',by rw [e];exact g⟩
theorem aR.grow (R:aR K H0 G₀ G H σ ρ β):iX K H0 G₀ G H β:=by
 obtain ⟨fps,S,R⟩:=R
 exact ⟨fps,S,R.grow⟩
theorem aR.sub (R:aR K H0 G₀ G H σ ρ β):aM G H:=by
 obtain ⟨fps,S,R⟩:=R
 exact R.sub
theorem aR.tab (R:aR K H0 G₀ G H σ ρ β):lJ K G H:=by
 obtain ⟨fps,S,R⟩:=R
 exact R.tab
theorem aR.more (R:aR K H0 G₀ G H σ ρ β) (g:Grow G H G' H'):aR K H0 G₀ G' H' σ ρ β:=by
 obtain ⟨fps,S,R⟩:=R
 exact .of S R.grow.gg (R.more g) g.gg
def eE (β:Sto):Ent→Ent
 | .adr a=>match dG β a with
  | some b=>.ro (some a) b
  | none=>.adr a
 | e=>e
def a2m:Ent→Ent
 | .ro (some a) _=>.adr a
 | e=>e
def vw (β:Sto) (ρ:List Ent):List Ent:=ρ.map (eE β)
def uv (ρ:List Ent):List Ent:=ρ.map a2m
theorem a1h {a:Addr} {b:BS}:∀ {β:Sto} {fps:List (List Addr)},Paired (fun (p:Addr×BS) fp=>BOk K G H p.1 p.2 fp) β fps→dG β a=some b→∃ fp∈fps,BOk K G H a b fp
 | _,_,.nil,e=>nomatch e
 | p::β,_,.cons r t,e=>by
  unfold dG at e
  split at e
  ·rename_i h
   cases (qA e)
   exact ⟨_,qd,h▸r⟩
  ·obtain ⟨fp,h1,h2⟩:=a1h t e
   exact ⟨fp,qE _ h1,h2⟩
theorem RepS.view (S:StoOk K H0 G H β fps) (R:RepS K (plus H0 H fps.flatten) G₀ G H σ ρ):RepS K (plus H0 H fps.flatten) G₀ G H σ (vw β ρ):=by
 refine ⟨R.grow,by unfold vw;rw [qQ];exact R.len,fun i o e h1 h2=>?_,R.inj.sub fun i e h1 h2=>⟨?_,rfl⟩,R.tab⟩
 ·unfold vw at h2
  rw [qJ] at h2
  obtain ⟨e0,q,rfl⟩:=qD.mp h2
  have E:=R.ent i o e0 h1 q
  cases e0 with
  | adr a=>
   unfold eE
   dsimp only
   split
   ·rename_i b hb
    obtain ⟨fp,hf,r⟩:=a1h S.each hb
    refine ⟨a,fp,E,fun a' z=>(qA z).symm,r,fun x hx=>?_⟩
    rw [bX (vF.mpr ⟨fp,hf,hx⟩)]
    obtain ⟨u,z,_⟩:=r.there x hx
    rw [z];simp
   ·exact E
  | _=>exact E
 ·unfold vw at h1
  rw [qJ] at h1
  obtain ⟨e0,q,rfl⟩:=qD.mp h1
  rw [q]
  cases e0 with
  | adr a=>
   unfold eE at h2
   dsimp only at h2
   split at h2<;>cases h2
  | _=>rfl
theorem RepS.unv (R:RepS K H0 G₀ G H σ ρ):RepS K H0 G₀ G H σ (uv ρ):=by
 refine ⟨R.grow,by unfold uv;rw [qQ];exact R.len,fun i o e h1 h2=>?_,R.inj.sub fun i e h1 h2=>⟨?_,rfl⟩,R.tab⟩
 ·unfold uv at h2
  rw [qJ] at h2
  obtain ⟨e0,q,rfl⟩:=qD.mp h2
  have E:=R.ent i o e0 h1 q
  cases e0 with
  | ro oa b=>
   cases oa with
   | none=>exact E
   | some a=>
    obtain ⟨a',fp,z,z2,_⟩:=E
    rw [←z2 a rfl] at z
    exact z
  | _=>exact E
 ·unfold uv at h1
  rw [qJ] at h1
  obtain ⟨e0,q,rfl⟩:=qD.mp h1
  rw [q]
  cases e0 with
  | ro oa b=>cases oa<;>cases h2
  | _=>rfl
theorem RepS.unview (R:RepS K H0 G₀ G H σ (vw β ρ)):RepS K H0 G₀ G H σ ρ:=by
 have hl:σ.length=ρ.length:=by have:=R.len;unfold vw at this;rw [qQ] at this;exact this
 refine ⟨R.grow,hl,fun i o e h1 h2=>?_,R.inj.sub fun i e h1 h2=>⟨?_,rfl⟩,R.tab⟩
 ·have q:(vw β ρ)[i]?=some (eE β e):=by unfold vw;rw [qJ,h2];rfl
  have E:=R.ent i o _ h1 q
  cases e with
  | adr a=>
   unfold eE at E
   dsimp only at E
   split at E
   ·obtain ⟨a',fp,z,z2,_⟩:=E
    rw [←z2 a rfl] at z
    exact z
   ·exact E
  | _=>exact E
 ·have q:(vw β ρ)[i]?=some (eE β e):=by unfold vw;rw [qJ,h1];rfl
  rw [q]
  cases e with
  | adr a=>cases h2
  | _=>rfl
end
end L2.L3
namespace L2.L3
open PySem PySem.Spec PySem.Calls PyProof.Rows
def XcO (X:Cx) (H0 G₀ G:Hp) (ρ:List Ent) (β:Sto) (c:Str):Prop:=
 ∀ (pins:List (Addr×Obj)) (s':Shared) (σ:St) (H' G':Hp) (e:Value),Inv X pins σ H' s'→aR X.K H0 G₀ G' H' σ ρ β→aM G G'→a5W X c e H' s'→X.xe e s'
theorem XcO.mono {X:Cx} {H0 G₀ G G':Hp} {ρ:List Ent} {β:Sto} {c:Str} (h:XcO X H0 G₀ G ρ β c) (s:aM G G'):XcO X H0 G₀ G' ρ β c:=
 fun pins s' σ H' G2 e I R g x=>h pins s' σ H' G2 e I R (s.trans g) x
abbrev OEF:=List Ent→Sto→Option (Re PyData×Sto)
abbrev OAF:=List Ent→Sto→Option (Re (List PyData)×Sto)
abbrev OTF:=List Ent→Sto→Option (Re Bool×Sto)
abbrev OSF:=List Ent→Sto→Option (So×Sto)
def yH (X:Cx) (H0 G₀ G:Hp) (ρ:List Ent) (β:Sto) (σ:St) (Q:VK):Re PyData→Prop
 | .ok d=>∀ v G' H',aM G G'→aR X.K H0 G₀ G' H' σ ρ β→Rep X.K G' v d→Q v H'
 | .ex c=>XcO X H0 G₀ G ρ β c
def a0W (X:Cx) (H0 G₀ G:Hp) (ρ:List Ent) (β:Sto) (σ:St) (Q:List V→Hp→Prop):Re (List PyData)→Prop
 | .ok ds=>∀ vs G' H',aM G G'→aR X.K H0 G₀ G' H' σ ρ β→RepAll X.K G' vs ds→Q vs H'
 | .ex c=>XcO X H0 G₀ G ρ β c
def a0V (X:Cx) (H0 G₀ G:Hp) (ρ:List Ent) (β:Sto) (σ:St) (Q:Bool→Hp→Prop):Re Bool→Prop
 | .ok b=>∀ G' H',aM G G'→aR X.K H0 G₀ G' H' σ ρ β→Q b H'
 | .ex c=>XcO X H0 G₀ G ρ β c
def lA (X:Cx) (H0 G₀ G:Hp) (D:Ends) (β:Sto):So→Prop
 | .nx ρ=>∀ G' H' σ',aM G G'→aR X.K H0 G₀ G' H' σ' ρ β→D.nx σ' H'
 | .rt d=>∀ v G' H',aM G G'→iX X.K H0 G₀ G' H' β→Rep X.K G' v d→D.rt v H'
 | .bk ρ=>∀ G' H' σ',aM G G'→aR X.K H0 G₀ G' H' σ' ρ β→D.bk σ' H'
 | .ct ρ=>∀ G' H' σ',aM G G'→aR X.K H0 G₀ G' H' σ' ρ β→D.ct σ' H'
 | .xc c ρ=>XcO X H0 G₀ G ρ β c
def rOE (X:Cx) (f:OEF):TE:=fun σ H Q=>∃ ρ β r β' H0 G₀ G,f ρ β=some (r,β')∧aR X.K H0 G₀ G H σ ρ β∧yH X H0 G₀ G ρ β' σ Q r
def rOA (X:Cx) (f:OAF):TA:=fun σ H Q=>∃ ρ β r β' H0 G₀ G,f ρ β=some (r,β')∧aR X.K H0 G₀ G H σ ρ β∧a0W X H0 G₀ G ρ β' σ Q r
def rOT (X:Cx) (f:OTF):TT:=fun σ H Q=>∃ ρ β r β' H0 G₀ G,f ρ β=some (r,β')∧aR X.K H0 G₀ G H σ ρ β∧a0V X H0 G₀ G ρ β' σ Q r
def rOS (X:Cx) (f:OSF):TS:=fun D σ H=>∃ ρ β o β' H0 G₀ G,f ρ β=some (o,β')∧aR X.K H0 G₀ G H σ ρ β∧lA X H0 G₀ G D β' o
structure OE (X:Cx) (e:Expr) (f:OEF):Prop where
 run:PE X e (rOE X f)
structure OA (X:Cx) (es:List Expr) (f:OAF):Prop where
 run:PA X es (rOA X f)
structure OT (X:Cx) (e:Expr) (f:OTF):Prop where
 run:PT X e (rOT X f)
structure OW (X:Cx) (e:Expr) (f:OTF):Prop where
 run:PW X e (rOT X f)
structure OS (X:Cx) (st:Stmt) (f:OSF):Prop where
 run:PS X st (rOS X f)
structure OB (X:Cx) (sts:List Stmt) (f:OSF):Prop where
 run:PSs X sts (rOS X f)
section
variable {X:Cx} {H0 G₀ G G1 H:Hp} {ρ:List Ent} {β β':Sto} {σ:St}
theorem yH.mono {Q:VK} {r:Re PyData} (q:yH X H0 G₀ G ρ β σ Q r) (s:aM G G1):yH X H0 G₀ G1 ρ β σ Q r:=by
 cases r with
 | ok d=>exact fun v G' H' s' R rv=>q v G' H' (s.trans s') R rv
 | ex c=>exact XcO.mono q s
theorem a0W.mono {Q:List V→Hp→Prop} {r:Re (List PyData)} (q:a0W X H0 G₀ G ρ β σ Q r) (s:aM G G1):a0W X H0 G₀ G1 ρ β σ Q r:=by
 cases r with
 | ok d=>exact fun v G' H' s' R rv=>q v G' H' (s.trans s') R rv
 | ex c=>exact XcO.mono q s
theorem a0V.mono {Q:Bool→Hp→Prop} {r:Re Bool} (q:a0V X H0 G₀ G ρ β σ Q r) (s:aM G G1):a0V X H0 G₀ G1 ρ β σ Q r:=by
 cases r with
 | ok d=>exact fun G' H' s' R=>q G' H' (s.trans s') R
 | ex c=>exact XcO.mono q s
theorem lA.mono {D:Ends} {o:So} (h:lA X H0 G₀ G D β o) (s:aM G G1):lA X H0 G₀ G1 D β o:=by
 cases o with
 | nx ρ=>exact fun G2 H' σ' s2 R=>h G2 H' σ' (s.trans s2) R
 | rt d=>exact fun v G2 H' s2 g r=>h v G2 H' (s.trans s2) g r
 | bk ρ=>exact fun G2 H' σ' s2 R=>h G2 H' σ' (s.trans s2) R
 | ct ρ=>exact fun G2 H' σ' s2 R=>h G2 H' σ' (s.trans s2) R
 | xc c ρ=>exact XcO.mono h s
def rW {α γ:Type} (m:Option (Re α×Sto)) (k:α→Sto→Option (Re γ×Sto)):Option (Re γ×Sto):=match m with
 | some (.ok a,β)=>k a β
 | some (.ex c,β)=>some (.ex c,β)
 | none=>none
def a2e {α:Type} (m:Option (Re α×Sto)) (ρ:List Ent) (k:α→Sto→Option (So×Sto)):Option (So×Sto):=match m with
 | some (.ok a,β)=>k a β
 | some (.ex c,β)=>some (.xc c ρ,β)
 | none=>none
theorem uE {α γ:Type} {m:Option (Re α×Sto)} {k:α→Sto→Option (Re γ×Sto)} {r:Re γ×Sto} (h:rW m k=some r):(∃ a β,m=some (.ok a,β)∧k a β=some r)∨∃ c β,m=some (.ex c,β)∧r=(.ex c,β):=by
 match m,h with
 | some (.ok a,β),h=>exact .inl ⟨a,β,rfl,h⟩
 | some (.ex c,β),h=>exact .inr ⟨c,β,rfl,(qA h).symm⟩
 | none,h=>cases h
theorem uD {α:Type} {m:Option (Re α×Sto)} {ρ:List Ent} {k:α→Sto→Option (So×Sto)} {r:So×Sto} (h:a2e m ρ k=some r):(∃ a β,m=some (.ok a,β)∧k a β=some r)∨∃ c β,m=some (.ex c,β)∧r=(.xc c ρ,β):=by
 match m,h with
 | some (.ok a,β),h=>exact .inl ⟨a,β,rfl,h⟩
 | some (.ex c,β),h=>exact .inr ⟨c,β,rfl,(qA h).symm⟩
 | none,h=>cases h
theorem obE {fa:OEF} {γ:Type} {k:PyData→Sto→Option (Re γ×Sto)} {r:Re γ} (R:aR X.K H0 G₀ G H σ ρ β) (e:rW (fa ρ β) k=some (r,β')) {T:VK} (hx:∀ c,r=.ex c→XcO X H0 G₀ G ρ β' c)
  (h:∀ x v β1 G1 H1,aM G G1→aR X.K H0 G₀ G1 H1 σ ρ β1→Rep X.K G1 v x→k x β1=some (r,β')→T v H1):rOE X fa σ H T:=by
 rcases uE e with ⟨x,β1,e1,e2⟩ | ⟨c,β1,e1,e2⟩
 ·exact ⟨ρ,β,_,β1,H0,G₀,G,e1,R,fun v G1 H1 s1 R1 rv=>h x v β1 G1 H1 s1 R1 rv e2⟩
 ·cases e2;exact ⟨ρ,β,_,_,H0,G₀,G,e1,R,hx c rfl⟩
theorem obA {fa:OAF} {γ:Type} {k:List PyData→Sto→Option (Re γ×Sto)} {r:Re γ} (R:aR X.K H0 G₀ G H σ ρ β) (e:rW (fa ρ β) k=some (r,β')) {T:List V→Hp→Prop} (hx:∀ c,r=.ex c→XcO X H0 G₀ G ρ β' c)
  (h:∀ x v β1 G1 H1,aM G G1→aR X.K H0 G₀ G1 H1 σ ρ β1→RepAll X.K G1 v x→k x β1=some (r,β')→T v H1):rOA X fa σ H T:=by
 rcases uE e with ⟨x,β1,e1,e2⟩ | ⟨c,β1,e1,e2⟩
 ·exact ⟨ρ,β,_,β1,H0,G₀,G,e1,R,fun v G1 H1 s1 R1 rv=>h x v β1 G1 H1 s1 R1 rv e2⟩
 ·cases e2;exact ⟨ρ,β,_,_,H0,G₀,G,e1,R,hx c rfl⟩
theorem obT {fa:OTF} {γ:Type} {k:Bool→Sto→Option (Re γ×Sto)} {r:Re γ} (R:aR X.K H0 G₀ G H σ ρ β) (e:rW (fa ρ β) k=some (r,β')) {T:Bool→Hp→Prop} (hx:∀ c,r=.ex c→XcO X H0 G₀ G ρ β' c)
  (h:∀ x β1 G1 H1,aM G G1→aR X.K H0 G₀ G1 H1 σ ρ β1→k x β1=some (r,β')→T x H1):rOT X fa σ H T:=by
 rcases uE e with ⟨x,β1,e1,e2⟩ | ⟨c,β1,e1,e2⟩
 ·exact ⟨ρ,β,_,β1,H0,G₀,G,e1,R,fun G1 H1 s1 R1=>h x β1 G1 H1 s1 R1 e2⟩
 ·cases e2;exact ⟨ρ,β,_,_,H0,G₀,G,e1,R,hx c rfl⟩
theorem osE {fa:OEF} {k:PyData→Sto→Option (So×Sto)} {o:So} {D:Ends} (R:aR X.K H0 G₀ G H σ ρ β) (e:a2e (fa ρ β) ρ k=some (o,β')) (q:lA X H0 G₀ G D β' o) {T:VK}
  (h:∀ x v β1 G1 H1,aM G G1→aR X.K H0 G₀ G1 H1 σ ρ β1→Rep X.K G1 v x→k x β1=some (o,β')→lA X H0 G₀ G1 D β' o→T v H1):rOE X fa σ H T:=by
 rcases uD e with ⟨x,β1,e1,e2⟩ | ⟨c,β1,e1,e2⟩
 ·exact ⟨ρ,β,_,β1,H0,G₀,G,e1,R,fun v G1 H1 s1 R1 rv=>h x v β1 G1 H1 s1 R1 rv e2 (q.mono s1)⟩
 ·cases e2;exact ⟨ρ,β,_,_,H0,G₀,G,e1,R,q⟩
theorem osA {fa:OAF} {k:List PyData→Sto→Option (So×Sto)} {o:So} {D:Ends} (R:aR X.K H0 G₀ G H σ ρ β) (e:a2e (fa ρ β) ρ k=some (o,β')) (q:lA X H0 G₀ G D β' o) {T:List V→Hp→Prop}
  (h:∀ x v β1 G1 H1,aM G G1→aR X.K H0 G₀ G1 H1 σ ρ β1→RepAll X.K G1 v x→k x β1=some (o,β')→lA X H0 G₀ G1 D β' o→T v H1):rOA X fa σ H T:=by
 rcases uD e with ⟨x,β1,e1,e2⟩ | ⟨c,β1,e1,e2⟩
 ·exact ⟨ρ,β,_,β1,H0,G₀,G,e1,R,fun v G1 H1 s1 R1 rv=>h x v β1 G1 H1 s1 R1 rv e2 (q.mono s1)⟩
 ·cases e2;exact ⟨ρ,β,_,_,H0,G₀,G,e1,R,q⟩
theorem osT {fa:OTF} {k:Bool→Sto→Option (So×Sto)} {o:So} {D:Ends} (R:aR X.K H0 G₀ G H σ ρ β) (e:a2e (fa ρ β) ρ k=some (o,β')) (q:lA X H0 G₀ G D β' o) {T:Bool→Hp→Prop}
  (h:∀ x β1 G1 H1,aM G G1→aR X.K H0 G₀ G1 H1 σ ρ β1→k x β1=some (o,β')→lA X H0 G₀ G1 D β' o→T x H1):rOT X fa σ H T:=by
 rcases uD e with ⟨x,β1,e1,e2⟩ | ⟨c,β1,e1,e2⟩
 ·exact ⟨ρ,β,_,β1,H0,G₀,G,e1,R,fun G1 H1 s1 R1=>h x β1 G1 H1 s1 R1 e2 (q.mono s1)⟩
 ·cases e2;exact ⟨ρ,β,_,_,H0,G₀,G,e1,R,q⟩
theorem yH.x {Q:VK} {r:Re PyData} (q:yH X H0 G₀ G ρ β σ Q r):∀ c,r=.ex c→XcO X H0 G₀ G ρ β c:=fun c e=>by subst e;exact q
theorem a0V.x {Q:Bool→Hp→Prop} {r:Re Bool} (q:a0V X H0 G₀ G ρ β σ Q r):∀ c,r=.ex c→XcO X H0 G₀ G ρ β c:=fun c e=>by subst e;exact q
theorem a0W.x {Q:List V→Hp→Prop} {r:Re (List PyData)} (q:a0W X H0 G₀ G ρ β σ Q r):∀ c,r=.ex c→XcO X H0 G₀ G ρ β c:=fun c e=>by subst e;exact q
end
def upE (f:EF):OEF:=fun ρ β=>(f (vw β ρ)).map (·,β)
def upT (f:TF):OTF:=fun ρ β=>(f (vw β ρ)).map (·,β)
def a7E:So→So
 | .nx ρ=>.nx (uv ρ)
 | .rt d=>.rt d
 | .bk ρ=>.bk (uv ρ)
 | .ct ρ=>.ct (uv ρ)
 | .xc c ρ=>.xc c (uv ρ)
def upS (f:SF):OSF:=fun ρ β=>(f (vw β ρ)).map fun o=>(a7E o,β)
section
variable {X:Cx} {e a b c:Expr} {es rest:List Expr} {st:Stmt} {sts:List Stmt} {pos p:Pos} {fa fb:EF} {ft:TF} {f:SF} {g:AF}
theorem a5n (h:DE X e fa):OE X e (upE fa):=⟨fun pins s σ H Q I ⟨ρ,β,r,β',H0,G₀,G,e,R,q⟩=>by
 obtain ⟨r',er,z⟩:=qD.mp e
 cases z
 obtain ⟨fps,S,R⟩:=R
 refine h.run pins s σ H Q I ⟨_,_,_,G₀,G,er,RepS.view S R,?_⟩
 cases r with
 | ok d=>exact fun v G' H' g rv=>q v G' H' g.gg (.of S R.grow.gg (R.more g) g.gg) rv
 | ex c=>exact fun pins s' σ H' G' e I' R' g x=>q pins s' σ H' G' e I' (.of S R.grow.gg R'.unview g) g x⟩
theorem a5l (h:DT X e ft):OT X e (upT ft):=⟨fun pins s σ H Q I ⟨ρ,β,r,β',H0,G₀,G,e,R,q⟩=>by
 obtain ⟨r',er,z⟩:=qD.mp e
 cases z
 obtain ⟨fps,S,R⟩:=R
 refine h.run pins s σ H Q I ⟨_,_,_,G₀,G,er,RepS.view S R,?_⟩
 cases r with
 | ok d=>exact fun G' H' g=>q G' H' g.gg (.of S R.grow.gg (R.more g) g.gg)
 | ex c=>exact fun pins s' σ H' G' e I' R' g x=>q pins s' σ H' G' e I' (.of S R.grow.gg R'.unview g) g x⟩
theorem b0q {H0 G₀ G H:Hp} {β:Sto} {fps:List (List Addr)} {D:Ends} {o:So} (S:StoOk X.K H0 G H β fps) (h0:aM G₀ G) (q:lA X H0 G₀ G D β (a7E o)):sG X (plus H0 H fps.flatten) G₀ G D o:=by
 cases o with
 | nx ρ=>exact fun G' H' σ' s R'=>q G' H' σ' s (.of S h0 R'.unv s)
 | rt d=>exact fun v G' H' s g rv=>q v G' H' s (.of S h0 g s) rv
 | bk ρ=>exact fun G' H' σ' s R'=>q G' H' σ' s (.of S h0 R'.unv s)
 | ct ρ=>exact fun G' H' σ' s R'=>q G' H' σ' s (.of S h0 R'.unv s)
 | xc c ρ=>exact fun pins s' σ H' G' e I' R' g x=>q pins s' σ H' G' e I' (.of S h0 R'.unv g) g x
theorem eO (h:DS X st f):OS X st (upS f):=⟨fun pins s σ H D I ⟨ρ,β,o,β',H0,G₀,G,e,R,q⟩=>by
 obtain ⟨o',er,z⟩:=qD.mp e
 cases z
 obtain ⟨fps,S,R⟩:=R
 exact h.run pins s σ H D I ⟨_,_,_,G₀,G,er,RepS.view S R,b0q S R.grow.gg q⟩⟩
end
section
variable {X:Cx} {e a b c:Expr} {es rest:List Expr} {st:Stmt} {sts:List Stmt} {pos p:Pos} {fa fb:OEF} {ft fu:OTF} {f g:OSF} {fA:OAF}
theorem aR.set {K:qB} {H0 G₀ G H:Hp} {σ:St} {ρ:List Ent} {β:Sto} {i:Nat} {v:V} {d:PyData} (R:aR K H0 G₀ G H σ ρ β) (r:Rep K G v d):aR K H0 G₀ G H (σ.set i (some v)) (ρ.set i (.val d)) β:=by
 obtain ⟨fps,S,R⟩:=R
 exact .of S R.grow.gg (R.set r) (.refl _)
def a8N:OSF:=fun ρ β=>some (.nx ρ,β)
def bF (f g:OSF):OSF:=fun ρ β=>match f ρ β with
 | some (.nx ρ',β')=>g ρ' β'
 | r=>r
theorem a8I:OB X [] a8N:=⟨fun pins s σ H D I ⟨ρ,β,o,β',H0,G₀,G,e,R,q⟩=>a5a pins s σ H D I (by cases (qA e);exact q G H σ (.refl _) R)⟩
theorem aN (h1:OS X st f) (h2:OB X sts g):OB X (st::sts) (bF f g):=⟨fun pins s σ H D I ⟨ρ,β,o,β',H0,G₀,G,e,R,q⟩=>by
 unfold bF at e
 split at e
 ·rename_i ρ' β1 e1
  refine wpAny_execs_cons (thn (h1.run pins s σ H { D with nx:=fun σ' H'=>rOS X g D σ' H' } I ⟨ρ,β,_,_,H0,G₀,G,e1,R,fun G' H' σ' s' R'=>⟨ρ',β1,o,β',H0,G₀,G',e,R',q.mono s'⟩⟩) fun fl s1 z=>?_)
  cases fl with
  | next=>obtain ⟨σ',H',I',z⟩:=z;exact h2.run pins s1 σ' H' D I' z
  | ret v=>exact z
  | brk=>exact z
  | cont=>exact z
 ·rename_i z
  have hn:∀ ρ',o≠.nx ρ':=fun ρ' w=>z ρ' β' (by rw [e,w])
  have q':lA X H0 G₀ G { D with nx:=fun _ _=>False } β' o:=by
   cases o with
   | nx ρ'=>exact absurd rfl (hn ρ')
   | rt d=>exact q
   | bk ρ'=>exact q
   | ct ρ'=>exact q
   | xc c ρ'=>exact q
  refine wpAny_execs_cons (thn (h1.run pins s σ H { D with nx:=fun _ _=>False } I ⟨ρ,β,o,β',H0,G₀,G,e,R,q'⟩) fun fl s1 z=>?_)
  cases fl with
  | next=>obtain ⟨_,_,_,z⟩:=z;exact z.elim
  | ret v=>exact z
  | brk=>exact z
  | cont=>exact z⟩
theorem eG (h:OS X st f):OB X [st] f:=⟨a1r h.run⟩
def lQ (fa:OEF):OSF:=fun ρ β=>a2e (fa ρ β) ρ fun _ β'=>some (.nx ρ,β')
theorem gO (h:OE X e fa) (hs:swapsWith e none pos.line X.env=pure false:=by rfl):OS X (.Expr e pos) (lQ fa):=⟨fun pins s σ H D I ⟨ρ,β,o,β',H0,G₀,G,e,R,q⟩=>oG h.run hs pins s σ H D I (osE R e q fun x v β1 G1 H1 s1 R1 rv e1 q1=>by
 cases (qA e1);exact q1 G1 H1 σ (.refl _) R1)⟩
def tG (fa:OEF):OSF:=fun ρ β=>a2e (fa ρ β) ρ fun d β'=>some (.rt d,β')
theorem wS (h:OE X e fa):OS X (.Return (some e) pos) (tG fa):=⟨fun pins s σ H D I ⟨ρ,β,o,β',H0,G₀,G,e,R,q⟩=>a8h h.run pins s σ H D I (osE R e q fun x v β1 G1 H1 s1 R1 rv e1 q1=>by
 cases (qA e1);exact q1 v G1 H1 (.refl _) R1.grow rv)⟩
def ifO (ft:OTF) (f g:OSF):OSF:=fun ρ β=>a2e (ft ρ β) ρ fun t β'=>if t then f ρ β' else g ρ β'
theorem a8D {x y:List Stmt} (hc:OT X c ft) (ha:OB X x f) (hb:OB X y g):OS X (.If c x y pos) (ifO ft f g):=⟨fun pins s σ H D I ⟨ρ,β,o,β',H0,G₀,G,e,R,q⟩=>b2N hc.run ha.run hb.run pins s σ H D I (osT R e q fun t β1 G1 H1 s1 R1 e1 q1=>by
 cases t with
 | true=>rw [if_pos rfl] at e1 ⊢;exact ⟨ρ,β1,o,β',H0,G₀,G1,e1,R1,q1⟩
 | false=>rw [if_neg (by decide)] at e1 ⊢;exact ⟨ρ,β1,o,β',H0,G₀,G1,e1,R1,q1⟩)⟩
def a8P (i:Nat) (f:OAF):OSF:=fun ρ β=>a2e (f ρ β) ρ fun ds β'=>if dA ds.length then some (.nx (ρ.set i (.lst ds)),β') else none
theorem a8C (i:Nat) {x:Str} {p p2:Pos} (hN:X.N.Nodup) (h:OA X es fA) (hi:X.N[i]?=some x:=by rfl) (hx:Loc X.env.scope x:=by first | exact qu rfl | exact qf rfl)
  (hs:swapsWith (.List es p2) (some (.Name x p)) pos.line X.env=pure false:=by rfl) (hf:X.fn x=true∨X.env.scope.names.lookup x=some .local:=by first | exact .inl rfl | exact .inr rfl) :
  OS X (.Assign [.Name x p] (.List es p2) pos) (a8P i fA):=⟨fun pins s σ H D I ⟨ρ,β,o,β',H0,G₀,G,e,R,q⟩=>wO hN hi hx (pF h.run) hs hf pins s σ H D I (osA R e q fun ds vs β1 G1 H1 s1 R1 rv e1 q1=>by
 split at e1
 ·rename_i hz
  cases (qA e1)
  obtain ⟨fps,S,R1⟩:=R1
  exact ⟨by rw [rv.length];exact fM hz,fun a ha=>q1 G1 _ _ (.refl _) (.of S R1.grow.gg (R1.fresh ha rv) (.refl _))⟩
 ·cases e1)⟩
def pP (i:Nat) (fa:OEF):OSF:=fun ρ β=>match ρ[i]? with
 | some (.lst ds)=>a2e (fa ρ β) ρ fun d β'=>if dA ds.length then some (.nx (ρ.set i (.lst (ds++[d]))),β') else none
 | _=>none
theorem iC (i:Nat) {x:Str} {p ap cp:Pos} (h:OE X e fa) (hN:X.N[i]?=some x:=by rfl)
  (hv:Vis X.env.scope x:=by first | exact qu rfl | exact qf (qu rfl) | exact qf (qf rfl)) (hd:(x==("__debug__" : Str))=false:=by decide) (hcd:(x==("__classdict__" : Str))=false:=by decide)
  (hbase:attributeBase (.Name x p) "append" X.env (eval (.Name x p) X.env)=eval (.Name x p) X.env:=by rfl)
  (hfew:((backTo cp (starEach (e::[]) X.env)).all (fun x=>!x.1)&&(backToKw cp (keywordEach [] X.env)).all (fun x=>x.1.isSome)&&decide ((e::[]).length+([]:List Keyword).length+(if ([]:List Keyword).isEmpty then 0 else 1)<30))=true:=by rfl)
  (hline:(ap.endLine==cp.line)=true:=by rfl) (hst:starEach (e::[]) X.env=(false,eval e X.env)::starEach [] X.env:=by rfl) (hplain:(backTo cp (starEach [] X.env)).any (·.1)=false:=by rfl)
  (hsw:swapsWith (.Call (.Attribute (.Name x p) "append" ap) [e] [] cp) none pos.line X.env=pure false:=by rfl) :
  OS X (.Expr (.Call (.Attribute (.Name x p) "append" ap) [e] [] cp) pos) (pP i fa):=⟨fun pins s σ H D I ⟨ρ,β,o,β',H0,G₀,G,ef,R,q⟩=>
 oG (a5j kG PySem.F.slot_list_append PySem.F.type_list_append tL (cB hN hv hd hcd) (cQ h.run dR hst) hbase hfew hline hst hplain) hsw pins s σ H D I (by
  unfold pP at ef
  split at ef
  ·rename_i ds hi
   obtain ⟨a,xs,e1,h1,h2,h3,r⟩:=(show ∃ fps,StoOk X.K H0 G H β fps∧RepS X.K (plus H0 H fps.flatten) G₀ G H σ ρ from R).choose_spec.2.own hi
   refine ⟨.ref a,e1,.inl ⟨rfl,xs,.of h1⟩,osE R ef q fun d v β1 G1 H1 s1 R1 rv e2 q1=>?_⟩
   split at e2
   ·rename_i hz
    cases (qA e2)
    obtain ⟨fps1,S1,R1⟩:=R1
    obtain ⟨a',xs',e1',h1',h2',h3',r'⟩:=R1.own hi
    rw [e1] at e1';cases e1'
    exact ⟨a,xs',v,rfl,rfl,h1',by rw [r'.length];exact a7O hz,q1 G1 _ σ (.refl _) (.of S1 R1.grow.gg (R1.wrote hi e1 (r'.append (.cons rv .nil))) (.refl _))⟩
   ·cases e2
  ·cases ef)⟩
def a5V:OAF:=fun _ β=>some (.ok [],β)
def yE (f:OEF) (g:OAF):OAF:=fun ρ β=>rW (f ρ β) fun x β1=>rW (g ρ β1) fun xs β2=>some (.ok (x::xs),β2)
theorem a8J:OA X [] a5V:=⟨fun pos pins s σ H Q I ⟨ρ,β,r,β',H0,G₀,G,e,R,q⟩=>dR pos pins s σ H Q I (by
 cases (qA e);exact q [] G H (.refl _) R .nil)⟩
theorem a5o (ha:OE X e fa) (hr:OA X es fA) (hs:starEach (e::es) X.env=(false,eval e X.env)::starEach es X.env:=by rfl):OA X (e::es) (yE fa fA):=
 ⟨fun pos pins s σ H Q I ⟨ρ,β,r,β',H0,G₀,G,e,R,q⟩=>cQ ha.run hr.run hs pos pins s σ H Q I (obE R e q.x fun x v β1 G1 H1 s1 R1 rv e1=>obA R1 e1 (q.mono s1).x fun ys us β2 G2 H2 s2 R2 ru e2=>by
  cases (qA e2)
  exact q _ G2 H2 (s1.trans s2) R2 (.cons (rv.mono s2) ru))⟩
def a3q (g:PyData→PyData→Option Bool) (fa fb:OEF):OEF:=fun ρ β=>rW (fa ρ β) fun x β1=>rW (fb ρ β1) fun y β2=>(lft ((g x y).map .bool)).map (·,β2)
def a3p (g:PyData→PyData→Option Bool) (fa fb:OEF):OTF:=fun ρ β=>rW (fa ρ β) fun x β1=>rW (fb ρ β1) fun y β2=>(lft (g x y)).map (·,β2)
theorem a8H {op:CmpOp} {g:PyData→PyData→Option Bool} (hg:∀ x y t,g x y=some t→CmpD X op x y t) (ha:OE X a fa) (hb:OE X b fb) (hm:behindInMarks op b=false:=by first | exact a1y _ | with_unfolding_all rfl):OE X (.Compare a [op] [b] pos) (a3q g fa fb):=
 ⟨fun pins s σ H Q I ⟨ρ,β,r,β',H0,G₀,G,e,R,q⟩=>a5i gP ha.run hb.run hm pins s σ H Q I (obE R e q.x fun x v β1 G1 H1 s1 R1 rv e1=>obE R1 e1 (q.mono s1).x fun y u β2 G2 H2 s2 R2 ru e2=>by
  obtain ⟨r',er,z⟩:=qD.mp e2
  cases z
  obtain ⟨d,ed,rfl⟩:=aW er
  obtain ⟨t,et,rfl⟩:=qD.mp ed
  obtain ⟨r,h1,h2⟩:=(hg x y t et).ex
  exact ⟨r,h1,h2 v u G2 H2 Q R2.sub (rv.mono s2) ru (q _ G2 H2 (s1.trans s2) R2 (.bool _))⟩)⟩
theorem a8A {op:CmpOp} {g:PyData→PyData→Option Bool} (hg:∀ x y t,g x y=some t→CmpD X op x y t) (ha:OE X a fa) (hb:OE X b fb) (hm:behindInMarks op b=false:=by first | exact a1y _ | with_unfolding_all rfl):OT X (.Compare a [op] [b] pos) (a3p g fa fb):=
 ⟨fun pins s σ H Q I ⟨ρ,β,r,β',H0,G₀,G,e,R,q⟩=>a4Z gP ha.run hb.run hm pins s σ H Q I (obE R e q.x fun x v β1 G1 H1 s1 R1 rv e1=>obE R1 e1 (q.mono s1).x fun y u β2 G2 H2 s2 R2 ru e2=>by
  obtain ⟨r',er,z⟩:=qD.mp e2
  cases z
  obtain ⟨t,et,rfl⟩:=aW er
  obtain ⟨r,h1,h2⟩:=(hg x y t et).ex
  exact ⟨r,h1,h2 v u G2 H2 _ R2.sub (rv.mono s2) ru ⟨_,rfl,q G2 H2 (s1.trans s2) R2⟩⟩)⟩
def a2L (f g:OTF):OTF:=fun ρ β=>rW (f ρ β) fun t β1=>if t then some (.ok true,β1) else g ρ β1
theorem a8y (ha:OT X a ft):OW X (.BoolOp .Or [a] pos) ft:=⟨a8b ha.run⟩
theorem a8z (ha:OT X a ft) (hb:OW X (.BoolOp .Or (b::rest) pos) fu):OW X (.BoolOp .Or (a::b::rest) pos) (a2L ft fu):=
 ⟨fun wh pins s σ H Q I ⟨ρ,β,r,β',H0,G₀,G,e,R,q⟩=>b2M ha.run hb.run wh pins s σ H Q I (obT R e q.x fun t β1 G1 H1 s1 R1 e1=>by
  cases t with
  | true=>rw [if_pos rfl] at e1 ⊢;cases (qA e1);exact q _ _ s1 R1
  | false=>rw [if_neg (by decide)] at e1 ⊢;exact ⟨ρ,β1,r,β',H0,G₀,G1,e1,R1,q.mono s1⟩)⟩
theorem OW.ot (h:OW X e ft):OT X e ft:=⟨h.run _⟩
def b0l (f g:OEF):OEF:=fun ρ β=>rW (f ρ β) fun x β1=>match nX x with
 | some true=>g ρ β1
 | some false=>some (.ok (.bool false),β1)
 | none=>none
theorem b4l {op} (ha:OE X a fa):OE X (.BoolOp op [a] pos) fa:=⟨a8p ha.run⟩
theorem b4m (ha:OE X a fa) (hb:OE X (.BoolOp .And (b::rest) pos) fb):OE X (.BoolOp .And (a::b::rest) pos) (b0l fa fb):=
 ⟨fun pins s σ H Q I ⟨ρ,β,r,β',H0,G₀,G,e,R,q⟩=>a8v ha.run hb.run pins s σ H Q I (obE R e q.x fun x v β1 G1 H1 s1 R1 rv e1=>by
  split at e1
  ·rename_i hb
   cases nW hb
   cases rv
   refine ⟨true,rfl,?_⟩
   rw [if_pos rfl];exact ⟨ρ,β1,r,β',H0,G₀,G1,e1,R1,q.mono s1⟩
  ·rename_i hb
   cases nW hb
   cases rv
   refine ⟨false,rfl,?_⟩
   rw [if_neg (by decide)];cases (qA e1);exact q _ _ _ s1 R1 (.bool _)
  ·cases e1)⟩
def a9z (i:Nat) (f:OSF):OSF:=fun ρ β=>match ρ[i]? with
 | some (.lst ds)=>f (ρ.set i (.val (.list ds))) β
 | _=>f ρ β
theorem b4p (i:Nat) (h:OB X sts f):OB X sts (a9z i f):=⟨fun pins s σ H D I ⟨ρ,β,o,β',H0,G₀,G,e,R,q⟩=>by
 unfold a9z at e
 split at e
 ·rename_i ds hi
  obtain ⟨fps,S,R⟩:=R
  obtain ⟨G',s',R'⟩:=R.freeze hi
  exact h.run pins s σ H D I ⟨_,β,o,β',H0,G₀,G',e,.of S R.grow.gg R' s',q.mono s'⟩
 ·exact h.run pins s σ H D I ⟨ρ,β,o,β',H0,G₀,G,e,R,q⟩⟩
def oV (t:Tg) (fb:OSF):List PyData→List Ent→Sto→Option (So×Sto)
 | [],ρ,β=>some (.nx ρ,β)
 | d::ds,ρ,β=>match tgD t ρ d with
  | none=>none
  | some ρ1=>(match fb ρ1 β with
   | some (.nx ρ2,β2)=>oV t fb ds ρ2 β2
   | some (.ct ρ2,β2)=>oV t fb ds ρ2 β2
   | some (.bk ρ2,β2)=>some (.nx ρ2,β2)
   | some (.rt d,β2)=>some (.rt d,β2)
   | some (.xc c ρ2,β2)=>some (.xc c ρ2,β2)
   | none=>none)
def a6S (t:Tg) (fi:AF) (fb:OSF):OSF:=fun ρ β=>match fi ρ with
 | some (.ok ds)=>oV t fb ds ρ β
 | _=>none
theorem b3Z {tg iter:Expr} {body:List Stmt} {t:Tg} {fi:AF} (hp:PassesOwn (model X.prog X.w) X.A X.env X.xe) (hc:X.calm=true) (hi:DI X tg iter fi) (hg:DG X tg t) (hb:OB X body g)
  (hs:∀ x,foldedSetIterable iter X.env x=pure x:=by intro _;rfl):OS X (.For tg iter body [] pos) (a6S t fi g):=⟨fun pins s σ H D I ⟨ρ,β,o,β',H0,G₀,G,ef,R,q⟩=>
 a8i hp hc hi.run hg.pg hb.run hs pins s σ H D I (by
  unfold a6S at ef
  split at ef
  ·rename_i ds e1
   obtain ⟨fps,S,R0⟩:=R
   refine ⟨ρ,_,_,G₀,G,e1,R0,fun J G1 H1 g1 wk=>?_⟩
   refine ⟨fun i m σ' H'=>m=ds.length - i∧i≤ds.length∧∃ ρ' β1 G',aM G1 G'∧aR X.K H0 G₀ G' H' σ' ρ' β1∧oV t g (ds.drop i) ρ' β1=some (o,β'),⟨ds.length,by simp,jA _,ρ,β,G1,.refl _,.of S R0.grow.gg (R0.more g1) g1.gg,by simpa using ef⟩,?_⟩
   rintro i m σ' H' ⟨rfl,hin,ρ',β1,G',s',R',e'⟩
   obtain ⟨wgo,wstop⟩:=wk i G' H' s' R'.sub
   by_cases hlt:i<ds.length
   ·rw [List.drop_eq_getElem_cons hlt] at e'
    have hx:ds[i]?=some ds[i]:=qN hlt
    refine .inr ⟨(wgo _ hx).1,fun σ2 H2=>∃ ρ2 β2 G2,aM G1 G2∧aR X.K H0 G₀ G2 H2 σ2 ρ2 β2∧oV t g (ds.drop (i+1)) ρ2 β2=some (o,β'),?_,fun x H2 y=>?_⟩
    ·rintro σ2 H2 ⟨ρ2,β2,G2,s2,R2,e2⟩
     exact ⟨ds.length - (i+1),by omega,rfl,hlt,ρ2,β2,G2,s2,R2,e2⟩
    ·obtain ⟨G2,g2,rx⟩:=(wgo _ hx).2 x H2 y
     unfold oV at e'
     split at e'
     ·cases e'
     ·rename_i ρ1 et
      obtain ⟨fps',S',R0'⟩:=R'
      refine ⟨ρ',ds[i],ρ1,_,G₀,G2,et,R0'.more g2,rx,fun σ3 R3=>?_⟩
      have RO3:aR X.K H0 G₀ G2 H2 σ3 ρ1 β1:=.of S' R0'.grow.gg R3 g2.gg
      have sg:aM G1 G2:=s'.trans g2.gg
      split at e'
      ·rename_i ρ2 β2 eb
       exact ⟨ρ1,β1,_,_,H0,G₀,G2,eb,RO3,fun G4 H4 σ4 s4 R4=>⟨ρ2,β2,G4,sg.trans s4,R4,e'⟩⟩
      ·rename_i ρ2 β2 eb
       exact ⟨ρ1,β1,_,_,H0,G₀,G2,eb,RO3,fun G4 H4 σ4 s4 R4=>⟨ρ2,β2,G4,sg.trans s4,R4,e'⟩⟩
      ·rename_i ρ2 β2 eb
       cases (qA e')
       exact ⟨ρ1,β1,_,_,H0,G₀,G2,eb,RO3,fun G4 H4 σ4 s4 R4=>q G4 H4 σ4 (g1.gg.trans (sg.trans s4)) R4⟩
      ·rename_i d' β2 eb
       cases (qA e')
       exact ⟨ρ1,β1,_,_,H0,G₀,G2,eb,RO3,fun v G4 H4 s4 gr rv=>q v G4 H4 (g1.gg.trans (sg.trans s4)) gr rv⟩
      ·rename_i c' ρ2 β2 eb
       cases (qA e')
       exact ⟨ρ1,β1,_,_,H0,G₀,G2,eb,RO3,XcO.mono q (g1.gg.trans sg)⟩
      ·cases e'
   ·have hi':i=ds.length:=by omega
    subst hi'
    rw [List.drop_length] at e'
    cases (qA e')
    exact .inl ⟨wstop (qO _),q G' H' σ' (g1.gg.trans s') R'⟩
  ·cases ef)⟩
end
end L2.L3
namespace L2
open PySem PySem.Spec PyProof.Rows
section
variable (P:Program) (w:World)
end
section
variable {P:Program} {w:World} {H H':Hp} {h h':Heap} {a:Addr} {o:HO}
end
section
variable {P:Program} {w:World} {H:Hp} {h h':Heap} {x e:Addr} {o':HO}
end
section
variable {fs fs' ex ex':List Addr} {H H1 H2:Hp} {h h1 h2 h':Heap} {a x e:Addr} {o:HO}
end
section
variable {X:Cx} {pins:List (Addr×Obj)} {σ:List (Option V)} {H H':Hp} {s:Shared} {h':Heap}
end
section
variable {X:Cx}
variable {a b:Expr} {ta tb:TE} {pos:Pos}
variable {tA tB':TT} {rest:List Expr}
end
section
variable {X:Cx} {pins:List (Addr×Obj)} {σ:St} {H:Hp} {s:Shared} {a:Addr} {xs ys:List V}
end
section
variable {X:Cx} {pins:List (Addr×Obj)} {σ:St} {H:Hp} {s:Shared} {E:Value→Shared→Prop}
end
section
variable {X:Cx} {st:Stmt} {rest:List Stmt} {t u:TS} {e:Expr} {te:TE} {pos:Pos}
end
section
variable {X:Cx} {pos:Pos}
end
section
variable {X:Cx} {pos:Pos}
end
section
variable {X:Cx} {tg:Expr}
end
section
variable {X:Cx} {a b c:Expr} {ta tb tc:TE} {pos:Pos}
end
section
variable {X:Cx} {a b c:Expr} {ta tb tc:TE} {pos:Pos}
end
section
variable {prog:Program} {w:World} {A:Around} {E:Value→Shared→Prop} {s:Shared} {K:qB} {x dx C f:Addr} {mA:Str→Option Value} {name:Str} {v:Value}
end
section
variable {P:Program} {w:World} {H H':Hp} {h h':Heap} {a C dx:Addr} {fs fs':List (Str×V)}
end
section
variable {X:Cx} {pins:List (Addr×Obj)} {σ:St} {H:Hp} {s:Shared} {a C dx:Addr} {fs:List (Str×V)} {f:Str} {v:V} {A:Around} {E:Value→Shared→Prop}
end
section
variable {X:Cx} {o e value:Expr} {f:Str} {pos pos' tpos:Pos} {ta tv:TE}
end
section
variable {X:Cx} {pins:List (Addr×Obj)} {σ:St} {H:Hp} {s:Shared} {A:Around} {E:Value→Shared→Prop} {Q:Value→Shared→Prop} {c:Value} {b:Bool}
end
section
variable {X:Cx} {e:Expr} {es:List Expr} {te:TE} {t:TA} {pos:Pos}
end
section
variable {X:Cx} {pins:List (Addr×Obj)} {σ:St} {H:Hp} {s s':Shared}
end
section
variable {X:Cx} {CX:CXT} {k:Nat} {f C:Addr} {fd:FuncData} {ps:List Str} {sp:Sp} {dvs:List V} {ds:List Value} {E:XK} {x m:Str} {p pos apos:Pos} {e o:Expr} {es:List Expr} {ta:TE} {t:TA}
end
section
variable {X:Cx} {CX:CXT} {k:Nat} {f C:Addr} {fd:FuncData} {ps ks:List Str} {sp:Sp} {E:XK} {x m:Str} {p pos apos kpos:Pos} {e o:Expr} {es:List Expr} {kws:List Keyword} {te ta:TE} {t tk:TA} {nm:Option Str}
variable {g:List Value→List Value→List Value} {gV:List V→List V→List V}
end
section
variable {X:Cx} {x:Str} {p pos:Pos} {e:Expr} {es:List Expr} {t:TA} {id T:String} {r:List V→Hp→VK→Prop}
end
section
variable {κ:Type} [DecidableEq κ]
def mY (kvs:List (κ×V)) (k:κ):Option V:=(kvs.find? fun kv=>decide (kv.1=k)).map (·.2)
def putK (kvs:List (κ×V)) (k:κ) (v:V):List (κ×V):=
 if (kvs.any fun kv=>decide (kv.1=k))=true then kvs.map (fun kv=>if kv.1=k then (kv.1,v) else kv) else kvs++[(k,v)]
def xU (kvs:List (κ×V)) (k:κ):List (κ×V):=kvs.filter fun kv=>decide (kv.1≠k)
theorem pS {p:κ×V} {r:List (κ×V)} {k:κ} (e:p.1=k):mY (p::r) k=some p.2:=by simp [mY,jw,e]
theorem pT {p:κ×V} {r:List (κ×V)} {k:κ} (e:¬p.1=k):mY (p::r) k=mY r k:=by simp [mY,jw,e]
theorem a2l (k:κ):∀ kvs:List (κ×V),(kvs.any fun kv=>decide (kv.1=k))=(mY kvs k).isSome
 | []=>rfl
 | p::r=>by
  rw [jV]
  by_cases e:p.1=k
  ·simp only [pS e,decide_eq_true e,Bool.true_or,Option.isSome_some]
  ·rw [pT e,decide_eq_false e,Bool.false_or];exact a2l k r
theorem uO (kvs:List (κ×V)) (k:κ) (v:V):(putK kvs k v).length≤kvs.length+1:=by
 unfold putK
 split
 ·rw [qQ];omega
 ·rw [jU,qb,List.length_nil];omega
theorem oA.isSome_eq {o:Option V} {u:Option Value} (r:oA o u):o.isSome=u.isSome:=by
 cases o with
 | none=>cases u with
  | none=>rfl
  | some _=>exact (show False from r).elim
 | some _=>cases u with
  | none=>exact (show False from r).elim
  | some _=>rfl
theorem oA.getD {o:Option V} {u:Option Value} {d:V} {d':Value} (r:oA o u) (rd:RelV d d'):RelV (o.getD d) (u.getD d'):=by
 cases o with
 | none=>cases u with
  | none=>exact rd
  | some _=>exact (show False from r).elim
 | some _=>cases u with
  | none=>exact (show False from r).elim
  | some _=>exact r
theorem KV.val {kvs:List (κ×V)} {vs:List (κ×Value)} (r:KV kvs vs) (k:κ):oA (mY kvs k) (valueAt vs k):=by
 unfold KV at r
 induction r with
 | nil=>exact jm
 | @cons p q ps qs h t ih=>
  obtain ⟨h1,h2⟩:=h
  by_cases e:p.1=k
  ·have e':q.1=k:=h1.symm.trans e
   have b:valueAt (q::qs) k=some q.2:=by simp [valueAt,jw,e']
   rw [pS e,b];exact h2
  ·have e':¬q.1=k:=fun z=>e (h1.trans z)
   have b:valueAt (q::qs) k=valueAt qs k:=by simp [valueAt,jw,e']
   rw [pT e,b];exact ih
theorem KV.any {kvs:List (κ×V)} {vs:List (κ×Value)} (r:KV kvs vs) (k:κ):(kvs.any fun kv=>decide (kv.1=k))=vs.any fun kv=>decide (kv.1=k):=by
 unfold KV at r
 induction r with
 | nil=>rfl
 | cons h t ih=>rw [jV,jV,ih,h.1]
theorem KV.repl {kvs:List (κ×V)} {vs:List (κ×Value)} (r:KV kvs vs) (k:κ) {y:V} {u:Value} (ry:RelV y u) :
  KV (kvs.map fun kv=>if kv.1=k then (kv.1,y) else kv) (vs.map fun kv=>if kv.1=k then (kv.1,u) else kv):=by
 unfold KV at r ⊢
 induction r with
 | nil=>exact .nil
 | @cons p q ps qs h t ih=>
  rw [qF,qF]
  refine .cons ?_ ih
  obtain ⟨h1,h2⟩:=h
  by_cases e:p.1=k
  ·rw [if_pos e,if_pos (h1.symm.trans e)];exact ⟨h1,ry⟩
  ·rw [if_neg e,if_neg (fun z=>e (h1.trans z))];exact ⟨h1,h2⟩
theorem KV.put {kvs:List (κ×V)} {vs:List (κ×Value)} (r:KV kvs vs) (k:κ) {y:V} {u:Value} (ry:RelV y u):KV (putK kvs k y) (stored vs k u):=by
 unfold putK stored
 rw [r.any k]
 by_cases e:(vs.any fun kv=>decide (kv.1=k))=true
 ·rw [if_pos e,if_pos e];exact r.repl k ry
 ·rw [if_neg e,if_neg e];exact Paired.snoc r ⟨rfl,ry⟩
theorem KV.drop {kvs:List (κ×V)} {vs:List (κ×Value)} (r:KV kvs vs) (k:κ):KV (xU kvs k) (without vs k):=by
 unfold KV at r ⊢
 unfold xU without
 induction r with
 | nil=>exact .nil
 | @cons p q ps qs h t ih=>
  obtain ⟨h1,h2⟩:=h
  rw [List.filter_cons,List.filter_cons]
  by_cases e:p.1=k
  ·have a:¬decide (p.1≠k)=true:=by simp [e]
   have b:¬decide (q.1≠k)=true:=by simp [h1.symm.trans e]
   rw [if_neg a,if_neg b];exact ih
  ·have e':¬q.1=k:=fun z=>e (h1.trans z)
   have a:decide (p.1≠k)=true:=by simp [e]
   have b:decide (q.1≠k)=true:=by simp [e']
   rw [if_pos a,if_pos b];exact .cons ⟨h1,h2⟩ ih
theorem KV.length {kvs:List (κ×V)} {vs:List (κ×Value)} (r:KV kvs vs):kvs.length=vs.length:=Paired.length r
theorem a9N (kvs:List (κ×V)) (k:κ):(xU kvs k).length≤kvs.length:=List.length_filter_le _ _
end
theorem a0D {P:Program} {w:World} {k:Key} {u:Value} (r:RelV (kV k) u):(bR P w).is k u=true:=by
 cases k with
 | inl i=>obtain ⟨t,e⟩:=(show ∃ t,u=ze i t from r);subst e;exact uL P w i t
 | inr x=>obtain ⟨t,e⟩:=(show ∃ t,u=zd x t from r);subst e;exact uK P w x t
theorem a0E {P:Program} {w:World}:∀ {ks:List Key} {us:List Value},aX (ks.map kV) us→ItemsAre (bR P w) ks us
 | [],_,r=>by rw [List.map_nil] at r;cases r;exact .nil
 | k::ks,_,r=>by
  rw [qF] at r
  cases r with
  | cons h t=>exact .cons (a0D h) (a0E t)
abbrev KT (H:Hp):List (List Key×V)→List (List Key×Addr×Value)→Prop:=Paired fun p q=>p.1=q.1∧H q.2.1=some (.tup (p.1.map kV))∧RelV p.2 q.2.2
theorem KT.val {H:Hp} {kvs:List (List Key×V)} {xs:List (List Key×Addr×Value)} (r:KT H kvs xs) (k:List Key):oA (mY kvs k) ((atKey xs k).map (·.2)):=by
 induction r with
 | nil=>exact jm
 | @cons p q ps qs h t ih=>
  obtain ⟨h1,_,h2⟩:=h
  by_cases e:p.1=k
  ·have e':q.1=k:=h1.symm.trans e
   have b:atKey (q::qs) k=some q.2:=by simp [atKey,jw,e']
   rw [pS e,b];exact h2
  ·have e':¬q.1=k:=fun z=>e (h1.trans z)
   have b:atKey (q::qs) k=atKey qs k:=by simp [atKey,jw,e']
   rw [pT e,b];exact ih
theorem KT.repl {H:Hp} {kvs:List (List Key×V)} {xs:List (List Key×Addr×Value)} (r:KT H kvs xs) (k:List Key) {y:V} {u:Value} (ry:RelV y u) :
  KT H (kvs.map fun kv=>if kv.1=k then (kv.1,y) else kv) (xs.map (putAt k u)):=by
 induction r with
 | nil=>exact .nil
 | @cons p q ps qs h t ih=>
  rw [qF,qF]
  refine .cons ?_ ih
  obtain ⟨h1,h2,h3⟩:=h
  unfold putAt
  by_cases e:p.1=k
  ·rw [if_pos e,if_pos (h1.symm.trans e)];exact ⟨h1,h2,ry⟩
  ·rw [if_neg e,if_neg (fun z=>e (h1.trans z))];exact ⟨h1,h2,h3⟩
theorem KT.put {H:Hp} {kvs:List (List Key×V)} {xs:List (List Key×Addr×Value)} (r:KT H kvs xs) (k:List Key) {b:Addr} {y:V} {u:Value} (hb:H b=some (.tup (k.map kV))) (ry:RelV y u) :
  KT H (putK kvs k y) (storedH xs k b u):=by
 have e:(kvs.any fun kv=>decide (kv.1=k))=(atKey xs k).isSome:=by
  rw [a2l,(r.val k).isSome_eq,zt]
 unfold putK storedH
 rw [e]
 by_cases q:(atKey xs k).isSome=true
 ·rw [if_pos q,if_pos q];exact r.repl k ry
 ·rw [if_neg q,if_neg q];exact Paired.snoc r ⟨rfl,hb,ry⟩
theorem KT.keeps {H H':Hp} {kvs:List (List Key×V)} {xs:List (List Key×Addr×Value)} (r:KT H kvs xs) (ht:∀ b ys,H b=some (.tup ys)→H' b=some (.tup ys)):KT H' kvs xs:=
 Paired.mapP r fun _ _ z=>⟨z.1,ht _ _ z.2.1,z.2.2⟩
section
variable {P:Program} {w:World} {H:Hp} {h:Heap} {a:Addr}
theorem b2L {u:HO} (ok:HOk P w H h) (e:Rd H a u):cG P w H h a u:=e.ok ok
theorem a0K {kvs:List (Key×V)} (ok:HOk P w H h) (e:Rd H a (.dK kvs)):kvs.length≤sizeLine∧(a==sysModules)=false∧∃ vs,KV kvs vs∧h.DictOf (bR P w) a vs:=
 show cG P w H h a (.dK kvs) from b2L ok e
theorem b3c {kvs:List (Key×V)} (ok:HOk P w H h) (e:H a=some (.dK kvs)):kvs.length≤sizeLine∧(a==sysModules)=false∧∃ vs,KV kvs vs∧h.DictOf (bR P w) a vs:=a0K ok (.inl e)
theorem xF {ks:List Key} (ok:HOk P w H h) (e:H a=some (.tup (ks.map kV))):(tupleKind (bR P w)).is h ks a:=by
 obtain ⟨_,its,r,o,h1,h2,n,h3⟩:=(show cG P w H h a (.tup (ks.map kV)) from ok a _ e)
 exact ⟨o,its.toArray,n,h1,h2,h3,by simpa using a0E r⟩
theorem a3i {kvs:List (List Key×V)} (ok:HOk P w H h) (e:Rd H a (.dT kvs)):kvs.length≤sizeLine∧(a==sysModules)=false ∧
  ∃ xs,KT H kvs xs∧h.DictOfH (tupleKind (bR P w)) a xs:=by
 obtain ⟨z,y,xs,r,o,es,ep,h1,h2,h3,h4,h5⟩:=(show cG P w H h a (.dT kvs) from b2L ok e)
 refine ⟨z,y,xs,r,o,es,ep,h1,h2,h3,h4,fun x hx=>?_,h5⟩
 have all:∀ {l:List (List Key×V)} {m:List (List Key×Addr×Value)},KT H l m→∀ x∈m,(tupleKind (bR P w)).is h x.1 x.2.1:=by
  intro l m q
  induction q with
  | nil=>intro x hx;exact nomatch hx
  | @cons p q ps qs hq t ih=>
   intro x hx
   rcases qM.mp hx with e | hx
   ·subst e
    exact xF ok (by rw [←hq.1];exact hq.2.1)
   ·exact ih x hx
 exact all r x hx
theorem b7d {kvs:List (List Key×V)} (ok:HOk P w H h) (e:H a=some (.dT kvs)):kvs.length≤sizeLine∧(a==sysModules)=false ∧
  ∃ xs,KT H kvs xs∧h.DictOfH (tupleKind (bR P w)) a xs:=a3i ok (.inl e)
end
def a7u (H:Hp) (a:Addr) (y:V) (r:Option V):Prop:=
 (∃ kvs k,Rd H a (.dK kvs)∧y=kV k∧r=mY kvs k)∨∃ kvs k b,Rd H a (.dT kvs)∧y=.ref b∧H b=some (.tup (k.map kV))∧r=mY kvs k
def b7k (H:Hp) (a:Addr) (y v:V) (H':Hp):Prop:=
 (∃ kvs k,H a=some (.dK kvs)∧y=kV k∧kvs.length<sizeLine∧H'=upd H a (.dK (putK kvs k v))) ∨
 ∃ kvs k b,H a=some (.dT kvs)∧y=.ref b∧H b=some (.tup (k.map kV))∧kvs.length<sizeLine∧H'=upd H a (.dT (putK kvs k v))
section
variable {X:Cx} {pins:List (Addr×Obj)} {σ:St} {H:Hp} {s:Shared} {a:Addr} {y v:V} {u r:Value} {o:Option V} {A:Around} {E:Value→Shared→Prop}
theorem Inv.big (I:Inv X pins σ H s):sysModules<s.heap.objs.size:=by
 have h:mainGlobals<s.heap.objs.size:=(I.mod.glob.keeps I.bk).lt
 exact Nat.lt_trans (by decide) h
theorem b8z {Q:Value→Shared→Prop} (hu:A.units+1<cLine) (I:Inv X pins σ H s) (g:a7u H a y o) (ry:RelV y u) (h:∀ s',Inv X pins σ H s'→Q (.bool o.isSome) s') :
  wpAny (model X.prog X.w) A (compareOp .In u (.ref a)) Q E s:=by
 rcases g with ⟨kvs,k,e,ey,l⟩ | ⟨kvs,k,b,e,ey,eb,l⟩
 ·subst ey
  obtain ⟨z,hd,vs,rel,dd⟩:=a0K I.hok e
  refine wpAny_in_of (a0D ry) hd dd.mapOf ?_
  rw [←(rel.val k).isSome_eq,←l]
  exact h _ (I.tok _)
 ·subst ey
  cases (show u=qi b from ry)
  obtain ⟨z,hd,xs,rel,dd⟩:=a3i I.hok e
  refine wpAny_in_heap (tupleKind_room_in1 hu) (xF I.hok eb) hd dd ?_
  have q:=(rel.val k).isSome_eq
  rw [zt] at q
  rw [←q,←l]
  exact h _ (I.tok _)
theorem b2h {Q:Value→Shared→Prop} (hu:A.units+1<cLine) (I:Inv X pins σ H s) (g:a7u H a y o) (ry:RelV y u) (h:∀ s',Inv X pins σ H s'→Q (.bool (!o.isSome)) s') :
  wpAny (model X.prog X.w) A (compareOp .NotIn u (.ref a)) Q E s:=by
 rcases g with ⟨kvs,k,e,ey,l⟩ | ⟨kvs,k,b,e,ey,eb,l⟩
 ·subst ey
  obtain ⟨z,hd,vs,rel,dd⟩:=a0K I.hok e
  refine wpAny_notIn_of (a0D ry) hd dd.mapOf ?_
  rw [←(rel.val k).isSome_eq,←l]
  exact h _ (I.tok _)
 ·subst ey
  cases (show u=qi b from ry)
  obtain ⟨z,hd,xs,rel,dd⟩:=a3i I.hok e
  refine wpAny_notIn_heap (tupleKind_room_in1 hu) (xF I.hok eb) hd dd ?_
  have q:=(rel.val k).isSome_eq
  rw [zt] at q
  rw [←q,←l]
  exact h _ (I.tok _)
theorem a1S {h':Heap} {t':Nat} {ob:HO} (I:Inv X pins σ H s) (mu:Mut (H a)) (hs:jk a s.heap h') (he:∃ q,h'.get? a=some q) (new:cG X.prog X.w (upd H a ob) h' a ob) :
  Inv X pins σ (upd H a ob) { s with heap:=h',toks:=t' }:=
 I.write (x:=a) (e:=a) mu (.inl rfl) (fun b q hb z=>(hs.2 b hb).trans z) he new
theorem a9P {P:Program} {w:World} {H':Hp} {h':Heap} {kvs:List (Key×V)} {vs:List (Key×Value)} (z:kvs.length≤sizeLine) (hd:(a==sysModules)=false) (rel:KV kvs vs) (dd:h'.DictOf (bR P w) a vs) :
  cG P w H' h' a (.dK kvs):=⟨z,hd,vs,rel,dd⟩
theorem a7e {H':Hp} {Q:Unit→Shared→Prop} (hu:A.units+1<cLine) (I:Inv X pins σ H s) (g:b7k H a y v H') (ry:RelV y u) (rv:RelV v r) (h:∀ s',Inv X pins σ H' s'→Q () s') :
  wpAny (model X.prog X.w) A (setItem (.ref a) u r) Q E s:=by
 rcases g with ⟨kvs,k,e,ey,l,eH⟩ | ⟨kvs,k,b,e,ey,eb,l,eH⟩
 ·subst ey eH
  obtain ⟨z,hd,vs,rel,dd⟩:=b3c I.hok e
  have hz:vs.length≤sizeLine:=by rw [←rel.length];exact z
  have hl:(putK kvs k v).length≤sizeLine:=by have:=uO kvs k v;omega
  refine wpAny_setItem_pairs (hsz:=hz) (a0D ry) dd fun h' dd' hs=>h _ ?_
  have he:∃ q,h'.get? a=some q:=let ⟨q,_,_,hq,_⟩:=dd';⟨q,hq⟩
  exact a1S I (by rw [e];exact jm) hs he (a9P hl hd (rel.put k rv) dd')
 ·subst ey eH
  cases (show u=qi b from ry)
  obtain ⟨z,hd,xs,rel,dd⟩:=b7d I.hok e
  have hz:xs.length≤sizeLine:=by rw [←Paired.length rel];exact z
  have hl:(putK kvs k v).length≤sizeLine:=by have:=uO kvs k v;omega
  refine wpAny_setItem_heap (hsz:=hz) (tupleKind_room_in1 hu) (xF I.hok eb) dd fun h' dd' hs=>h _ ?_
  obtain ⟨q,es,ep,hq,h2,h3,h4,_,h5⟩:=dd'
  refine a1S I (by rw [e];exact jm) hs ⟨q,hq⟩ ⟨hl,hd,_,(rel.put k eb rv).keeps fun c ys ec=>?_,q,es,ep,hq,h2,h3,h4,h5⟩
  rw [aG (bZ ec e (fun z=>nomatch z))]
  exact ec
end
section
variable {X:Cx} {pins:List (Addr×Obj)} {σ:St} {H:Hp} {s:Shared} {a:Addr} {kvs:List (Key×V)} {k:Key} {u:Value} {A:Around} {E:Value→Shared→Prop}
theorem b7f {v:V} {more:List Value} {Q:Value→Shared→Prop} (I:Inv X pins σ H s) (e:H a=some (.dK kvs)) (ry:RelV (kV k) u) (l:mY kvs k=some v) (hm:more=[]∨∃ x,more=[x])
  (h:∀ w' s',Inv X pins σ (upd H a (.dK (xU kvs k))) s'→RelV v w'→Q w' s'):wpAny (model X.prog X.w) A (call (.builtin "dict.pop") (.ref a::u::more)) Q E s:=by
 obtain ⟨z,hd,vs,rel,dd⟩:=b3c I.hok e
 obtain ⟨w',hw,rw'⟩:=oA.some_of (v:=v) (o:=valueAt vs k) (by rw [←l];exact rel.val k)
 have hp:(keyPart u).isSome=true:=by
  cases k with
  | inl i=>obtain ⟨t,q⟩:=(show ∃ t,u=ze i t from ry);subst q;rfl
  | inr x=>obtain ⟨t,q⟩:=(show ∃ t,u=zd x t from ry);subst q;rfl
 have ha:argsOk "dict.pop" ⟨.ref a::u::more,[]⟩:=by
  rcases hm with q | ⟨x,q⟩
  ·subst q;exact PySem.F.args_dict_pop_2 _ _
  ·subst q;exact PySem.F.args_dict_pop_3 _ _ _
 refine call_meetsIn PySem.F.slot_dict_pop dd.typeIs PySem.F.entry_dict_pop ha (meets_dict_pop_there (bR X.prog X.w) a (a0D ry) more hm hp)
  ⟨vs,w',dd,by rw [←rel.length];exact z,hw,fun h' dd' hs=>h w' _ ?_ rw'⟩
 have he:∃ q,h'.get? a=some q:=let ⟨q,_,_,hq,_⟩:=dd';⟨q,hq⟩
 exact a1S I (by rw [e];exact jm) hs he (a9P (qj (a9N kvs k) z) hd (rel.drop k) dd')
end
def b7H (ty td:TE):TE:=fun σ H Q=>ty σ H fun y H1=>td σ H1 fun x H2=>∃ a o,x=.ref a∧a7u H2 a y o∧Q (.bl o.isSome) H2
def b0t (ty td:TE):TE:=fun σ H Q=>ty σ H fun y H1=>td σ H1 fun x H2=>∃ a o,x=.ref a∧a7u H2 a y o∧Q (.bl (!o.isSome)) H2
def b6k (td ty tv:TE):TS:=fun D σ H=>tv σ H fun v H1=>td σ H1 fun x H2=>ty σ H2 fun y H3=>∃ a H4,x=.ref a∧b7k H3 a y v H4∧D.nx σ H4
section
variable {X:Cx} {o i e value:Expr} {pos pos' tpos:Pos} {td ty tv:TE}
theorem b3Y (hu:X.A.units+1<cLine) (hi:PE X i ty) (ho:PE X o td):PC X .In i o (b7H ty td):=by
 intro pins s σ H Q I h
 refine thn (hi pins s σ H _ I h) fun iv s1 ⟨y,H1,I1,ry,q1⟩=>thn (ho pins s1 σ H1 _ I1 q1) fun u s2 ⟨x,H2,I2,rx,a,ov,ex,g,q2⟩=>?_
 subst ex
 obtain rfl:u=qi a:=rx
 exact b8z hu I2 g ry fun s3 I3=>⟨.bl ov.isSome,H2,I3,rfl,q2⟩
theorem a6z (hu:X.A.units+1<cLine) (hi:PE X i ty) (ho:PE X o td):PC X .NotIn i o (b0t ty td):=by
 intro pins s σ H Q I h
 refine thn (hi pins s σ H _ I h) fun iv s1 ⟨y,H1,I1,ry,q1⟩=>thn (ho pins s1 σ H1 _ I1 q1) fun u s2 ⟨x,H2,I2,rx,a,ov,ex,g,q2⟩=>?_
 subst ex
 obtain rfl:u=qi a:=rx
 exact b2h hu I2 g ry fun s3 I3=>⟨.bl (!ov.isSome),H2,I3,rfl,q2⟩
theorem b0L (hu:X.A.units+1<cLine) (ho:PE X o td) (hi:PE X i ty) (hv:PE X value tv) (hs:swapsWith value (some (.Subscript o i pos')) pos.line X.env=pure false) :
  PS X (.Assign [.Subscript o i pos'] value pos) (b6k td ty tv):=by
 intro pins s σ H D I h
 refine wpAny_Assign_Subscript (thn (hv pins s σ H _ I h) fun r s1 ⟨v,H1,I1,rv,q1⟩=>thn (ho pins s1 σ H1 _ I1 q1) fun u s2 ⟨x,H2,I2,rx,q2⟩=>thn (hi pins s2 σ H2 _ I2 q2) fun iv s3 ⟨y,H3,I3,ry,a,H4,ex,g,q3⟩=>?_) hs
 subst ex
 obtain rfl:u=qi a:=rx
 exact a7e hu I3 g ry rv fun s4 I4=>⟨σ,H4,I4,q3⟩
end
theorem a9Q {P:Program} {w:World} {H:Hp} (h:Heap) (hb:sysModules<h.objs.size):cG P w H (h.push { cls:=.type "dict", data:=.dict #[] }) h.objs.size (.dK []):=
 ⟨jA _,beq_eq_false_iff_ne.mpr (qr (qU hb)),[],.nil,Heap.DictOf.new h⟩
def b3B:TE:=fun _ H Q=>∀ p,H p=none→Q (.ref p) (upd H p (.dK []))
section
variable {X:Cx} {pos:Pos}
theorem a8s:PE X (.Dict [] [] pos) b3B:=fun pins s σ H Q I h=>
 wpAny_Dict_empty ⟨.ref s.heap.objs.size,_,I.laid (a:=s.heap.objs.size) (o:=.dK []) (t':=s.toks) (fun _ _ q=>qC _ q) (qO _) (a9Q s.heap I.big),rfl,h _ (I.hok.fresh (qO _))⟩
end
structure M1 (X:Cx) (o:Expr) (m:Str) (apos:Pos) (e:Expr) (cpos:Pos):Prop where
 base:attributeBase o m X.env (eval o X.env)=eval o X.env
 few:((backTo cpos (starEach [e] X.env)).all (fun x=>!x.1)&&(backToKw cpos (keywordEach [] X.env)).all (fun x=>x.1.isSome)
  && decide (([e]:List Expr).length+([]:List Keyword).length+(if ([]:List Keyword).isEmpty then 0 else 1)<30))=true
 line:(apos.endLine==cpos.line)=true
 trees:backTo cpos (starEach [e] X.env)=[(false,eval e X.env)]
def IsD (H:Hp) (a:Addr):Prop:=(∃ kvs,Rd H a (.dK kvs))∨∃ kvs,Rd H a (.dT kvs)
theorem a9e {X:Cx} {pins:List (Addr×Obj)} {σ:St} {H:Hp} {s:Shared} {a:Addr} (I:Inv X pins σ H s) (d:IsD H a) :
  s.TypeIs (.ref a) "dict" ∧ (∀ b,qi a=.ref b→∃ ob,s.heap.get? b=some ob∧ob.dict=none)∧(a==sysModules)=false:=by
 rcases d with ⟨kvs,e⟩ | ⟨kvs,e⟩
 ·obtain ⟨_,hd,vs,_,dd⟩:=a0K I.hok e
  refine ⟨dd.typeIs,fun b q=>?_,hd⟩
  cases q
  obtain ⟨ob,_,_,h1,h2,_⟩:=dd
  exact ⟨ob,h1,h2.2.1⟩
 ·obtain ⟨_,hd,xs,_,dd⟩:=a3i I.hok e
  refine ⟨dd.typeIs,fun b q=>?_,hd⟩
  cases q
  obtain ⟨ob,_,_,h1,h2,_⟩:=dd
  exact ⟨ob,h1,h2.2.1⟩
section
variable {X:Cx} {pins:List (Addr×Obj)} {σ:St} {H:Hp} {s:Shared} {a:Addr} {y d:V} {u r:Value} {o:Option V} {A:Around} {E:Value→Shared→Prop}
theorem b5x {Q:Value→Shared→Prop} (hu:A.units+1<cLine) (I:Inv X pins σ H s) (g:a7u H a y o) (ry:RelV y u) (h:∀ w' s',Inv X pins σ H s'→RelV (o.getD .non) w'→Q w' s') :
  wpAny (model X.prog X.w) A (call (.builtin "dict.get") [.ref a,u]) Q E s:=by
 rcases g with ⟨kvs,k,e,ey,l⟩ | ⟨kvs,k,b,e,ey,eb,l⟩
 ·subst ey
  obtain ⟨z,hd,vs,rel,dd⟩:=a0K I.hok e
  refine call_meetsIn zM dd.typeIs PySem.F.entry_dict_get (PySem.F.args_dict_get_2 _ _) (meets_dict_get (bR X.prog X.w) a (a0D ry) hd) ⟨_,dd.mapOf,h _ _ (I.tok _) ?_⟩
  rw [l]
  exact (rel.val k).getD rfl
 ·subst ey
  cases (show u=qi b from ry)
  obtain ⟨z,hd,xs,rel,dd⟩:=a3i I.hok e
  refine call_meetsIn zM dd.typeIs PySem.F.entry_dict_get (PySem.F.args_dict_get_2 _ _) (meetsH_dict_get (tupleKind (bR X.prog X.w)) a b hd) ⟨tupleKind_room_in1 hu,k,xs,xF I.hok eb,dd,h _ _ (I.tok _) ?_⟩
  rw [l]
  exact (rel.val k).getD rfl
end
def b3C (td ty:TE):TE:=fun σ H Q=>td σ H fun x H1=>∃ a,x=.ref a∧IsD H1 a∧ty σ H1 fun y H2=>∃ o,a7u H2 a y o∧Q (o.getD .non) H2
def b3A (td ty:TE):TE:=fun σ H Q=>td σ H fun x H1=>∃ a,x=.ref a∧IsD H1 a∧ty σ H1 fun y H2=>∃ kvs k v,H2 a=some (.dK kvs)∧y=kV k∧mY kvs k=some v∧Q v (upd H2 a (.dK (xU kvs k)))
section
variable {X:Cx} {o e f:Expr} {apos cpos:Pos} {td ty tx:TE}
theorem a8t (hu:X.A.units+1<cLine) (ho:PE X o td) (he:PE X e ty) (m:M1 X o "get" apos e cpos):PE X (.Call (.Attribute o "get" apos) [e] [] cpos) (b3C td ty):=by
 intro pins s σ H Q I h
 refine wpAny_Call_method m.base m.few m.line PySem.F.plainAttrs_dict zM PySem.F.type_dict_get (thn (ho pins s σ H _ I h) fun u s1 ⟨x,H1,I1,rx,a,ex,d,q1⟩=>?_)
 subst ex
 obtain rfl:u=qi a:=rx
 obtain ⟨t1,t2,_⟩:=a9e I1 d
 refine ⟨t1,t2,?_⟩
 rw [m.trees]
 refine ke rfl (ky (kU (thn (he pins s1 σ H1 _ I1 q1) fun iv s2 ⟨y,H2,I2,ry,ov,g,q2⟩=>kB ?_)))
 exact b5x hu I2 g ry fun w' s3 I3 rw'=>⟨_,H2,I3,rw',q2⟩
theorem a8r (ho:PE X o td) (he:PE X e ty) (m:M1 X o "pop" apos e cpos):PE X (.Call (.Attribute o "pop" apos) [e] [] cpos) (b3A td ty):=by
 intro pins s σ H Q I h
 refine wpAny_Call_method m.base m.few m.line PySem.F.plainAttrs_dict PySem.F.slot_dict_pop PySem.F.type_dict_pop (thn (ho pins s σ H _ I h) fun u s1 ⟨x,H1,I1,rx,a,ex,d,q1⟩=>?_)
 subst ex
 obtain rfl:u=qi a:=rx
 obtain ⟨t1,t2,_⟩:=a9e I1 d
 refine ⟨t1,t2,?_⟩
 rw [m.trees]
 refine ke rfl (ky (kU (thn (he pins s1 σ H1 _ I1 q1) fun iv s2 ⟨y,H2,I2,ry,kvs,k,v,ea,ey,l,q2⟩=>kB ?_)))
 subst ey
 exact b7f I2 ea ry l (.inl rfl) fun w' s3 I3 rw'=>⟨v,_,I3,rw',q2⟩
end
section
variable {X:Cx} {pins:List (Addr×Obj)} {σ:St} {H:Hp} {s:Shared} {a:Addr} {kvs:List (Key×V)} {A:Around} {E:Value→Shared→Prop}
end
section
variable {X:Cx} {pins:List (Addr×Obj)} {σ:St} {H:Hp} {s:Shared} {a:Addr} {y:V} {u:Value} {A:Around} {E:Value→Shared→Prop}
end
end L2
namespace Att
open PySem PySem.W PySem.Calls PyProof.Rows
section
variable {prog:Program} {w:World} {A:Around} {E:Value→Shared→Prop} {s:Shared} {K:Frag}
end
end Att
namespace L2
open PySem PySem.Spec PyProof.Rows
section
variable {P:Program} {w:World} {K:qB} {mg:Str→Option Value} {base:Heap}
end
section
variable {X:Cx}
end
section
variable {κ:Type} [DecidableEq κ]
end
end L2
namespace L2.L3
open PySem PySem.Spec PyProof.Rows
section
variable {P:Program} {w:World} {K:qB} {mg:Str→Option Value} {base:Heap} {x:Str} {k:Nat} {ps N:List Str}
end
section
variable {X:Cx} {e:Expr} {fa:EF} {pos p pos2 p2:Pos}
end
section
variable {X:Cx} {a b:Expr} {pos p p2 pos2:Pos} {fa:EF}
end
end L2.L3
namespace L2.SX
open PySem PyProof.Rows
section
variable {prog:Program} {w:World} {K:Type} [DecidableEq K] {knd:KeyKind prog w K} {A:Around} {E:Value→Shared→Prop} {s:Shared} {a:Addr}
end
section
variable {prog:Program} {w:World} {K:Type} [DecidableEq K] {knd:KeyKind prog w K} {A:Around} {R:Result→Shared→Prop} {I:Addr} {fp wr:List Addr} {G:Array GenState→Array GenState→Prop} {n:Nat} {P:Nat→Value→Prop} {St:Nat→Shared→Prop}
end
section
variable {prog:Program} {w:World} {K:Type} [DecidableEq K] {knd:KeyKind prog w K} {A:Around} {E:Value→Shared→Prop} {s:Shared}
end
end L2.SX
namespace L2.L3
open PySem PySem.Spec PyProof.Rows
def rP:PyData→Option Key
 | .int i=>some (.inl i)
 | .str x=>some (.inr x)
 | _=>none
theorem a0M (k:Key):rP (lG k)=some k:=by cases k<;>rfl
theorem oO {d:PyData} {k:Key} (h:rP d=some k):d=lG k:=by
 unfold rP at h;split at h
 ·cases h;rfl
 ·cases h;rfl
 ·cases h
def eI (k:Key):List (PyData×PyData)→Option PyData
 | []=>none
 | p::r=>if rP p.1=some k then some p.2 else eI k r
def oW (k:Key):List (Key×V)→Option V
 | []=>none
 | p::r=>if p.1=k then some p.2 else oW k r
section
variable {K:qB} {G:Hp}
theorem oI {k:Key} {d:PyData}:∀ {kvs:List (Key×V)} {D:List (PyData×PyData)},D.map (·.1)=kvs.map (fun p=>lG p.1)→RepAll K G (kvs.map (·.2)) (D.map (·.2))→eI k D=some d→∃ v,oW k kvs=some v∧Rep K G v d
 | [],[],_,_,h=>by cases h
 | [],_::_,e,_,_=>by simp at e
 | _::_,[],e,_,_=>by simp at e
 | q::kvs,p::D,e,.cons r t,h=>by
  rw [qF,qF,km] at e
  unfold eI at h
  unfold oW
  rw [e.1,a0M] at h
  by_cases c:q.1=k
  ·rw [if_pos (by rw [c])] at h
   rw [if_pos c]
   cases (qA h)
   exact ⟨_,rfl,r⟩
  ·rw [if_neg (fun z=>c (qA z))] at h
   rw [if_neg c]
   exact oI e.2 t h
theorem a0y {k:Key} {v:V}:∀ {kvs:List (Key×V)} {vs:List (Key×Value)},KV kvs vs→oW k kvs=some v→∃ u,valueAt vs k=some u∧RelV v u
 | _,_,.nil,h=>by cases h
 | q::kvs,p::vs,.cons r t,h=>by
  unfold oW at h
  have e:valueAt (p::vs) k=if p.1=k then some p.2 else valueAt vs k:=by
   unfold valueAt
   rw [jw]
   by_cases c:p.1=k
   ·rw [if_pos c];simp [c]
   ·rw [if_neg c];simp [c]
  rw [e]
  by_cases c:q.1=k
  ·rw [if_pos c] at h
   rw [if_pos (r.1▸c)]
   cases (qA h)
   exact ⟨_,rfl,r.2⟩
  ·rw [if_neg c] at h
   rw [if_neg (fun z=>c (r.1.trans z))]
   exact a0y t h
theorem oF {k:Key} {v:V} (r:Rep K G v (lG k)):v=kV k:=by
 cases k<;>(cases r;rfl)
end
section
variable {X:Cx} {e a b:Expr} {fa fb:EF} {pos p:Pos}
theorem b1C {P:Program} {w:World} {k:Key} {u:Value} (r:RelV (kV k) u):(bR P w).is k u=true:=by
 cases k with
 | inl i=>obtain ⟨t,rfl⟩:=r;exact uL P w i t
 | inr x=>obtain ⟨t,rfl⟩:=r;exact uK P w x t
def b7Y:R2:=fun x y H Q=>∃ p kvs k v,x=.ref p∧y=kV k∧Rd H p (.dK kvs)∧oW k kvs=some v∧Q v H
theorem b1F:IxR X b7Y:=by
 intro value slice pins s σ H x y v u Q I rx ry h hs
 obtain ⟨p,kvs,k,z,rfl,rfl,hq,he,q⟩:=h
 cases rx
 obtain ⟨hz,hS,vs,kv,dd⟩:=(show cG X.prog X.w H s.heap p (.dK kvs) from hq.ok I.hok)
 obtain ⟨w,ew,rw'⟩:=a0y kv he
 exact subscriptTail_builtinR (x:=w) dd.typeIs slot_dict_getitem.lookup
  (wpAny_getItem_of (Q:=fun r s'=>r=w∧EP X pins σ Q r s') (b1C ry) dd.mapOf ew ⟨rfl,z,H,I.tok _,rw',q⟩) hs
end
theorem RepAll.plain {K:qB} {G G':Hp}:∀ {vs:List V} {ds:List PyData},ds.all a3U=true→RepAll K G vs ds→RepAll K G' vs ds
 | _,_,_,.nil=>.nil
 | _,_,h,.cons r t=>by
  rw [zD,qH] at h
  exact .cons (r.plain h.1) (RepAll.plain h.2 t)
section
variable {X:Cx} {elt iter tg:Expr} {ifs:List Expr} {scope:Scope} {pos spos p:Pos} {N':List Str} {cap:List (Option Nat)} {t:Tg} {fi:AF} {ft:TF} {fe:EF}
end
def a1A (i:Nat) (fa fb:EF):SF:=fun ρ=>match fa (frzAll ρ),fb (frzAll ρ) with
 | some (.ok (.list a)),some (.ok (.list b))=>if (a++b).all a3U&&dA (a.length+b.length) then some (.nx (ρ.set i (.lst (a++b)))) else none
 | _,_=>none
section
variable {X:Cx} {e a b:Expr} {fa fb:EF} {pos p p2 p3:Pos}
theorem a0J (i:Nat) {x:Str} (hN:X.N.Nodup) (ha:DE X a fa) (hb:DE X b fb)
  (hi:X.N[i]?=some x:=by rfl) (hx:Loc X.env.scope x:=by first | exact qu rfl | exact qf rfl)
  (hs:swapsWith (.BinOp a .Add b p2) (some (.Name x p)) pos.line X.env=pure false:=by rfl) (hf:X.fn x=true∨X.env.scope.names.lookup x=some .local:=by first | exact .inl rfl | exact .inr rfl) :
  DS X (.Assign [.Name x p] (.BinOp a .Add b p2) pos) (a1A i fa fb):=⟨fun pins s σ H D I ⟨ρ,o,H0,G₀,G,ef,R,q⟩=>wO hN hi hx (a5f a5m ha.run hb.run) hs hf pins s σ H D I (by
 unfold a1A at ef
 split at ef
 ·rename_i da db ea eb
  split at ef
  ·rename_i hz
   rw [qH] at hz
   cases (qA ef)
   obtain ⟨G',s',R'⟩:=R.frzAll
   refine ⟨_,_,H0,G₀,G',ea,R',fun v G1 H1 g1 rv=>⟨_,_,H0,G₀,G1,eb,R'.more g1,fun u G2 H2 g2 ru=>?_⟩⟩
   have gt:=g1.trans g2
   have rv2:=rv.mono g2.gg
   have g0:Grow G H G H2:=⟨.refl _,gt.hh,s'.trans (gt.gg.trans gt.sub),fun _ z _=>z,id⟩
   cases rv2 with
   | list h1 r1=>cases ru with
    | list h2 r2=>
     exact ⟨_,_,_,_,rfl,rfl,g2.sub.seq h1,g2.sub.seq h2,by rw [r1.length,r2.length];exact fM hz.2,fun l hl=>q G _ _ (.refl _) ((R.more g0).fresh hl (RepAll.plain hz.1 (r1.append r2)))⟩
  ·cases ef
 ·cases ef)⟩
end
def a0m (kvs:List (Key×PyData)) (k:Key) (d:PyData):List (Key×PyData):=
 if (kvs.any fun kv=>decide (kv.1=k))=true then kvs.map (fun kv=>if kv.1=k then (kv.1,d) else kv) else kvs++[(k,d)]
theorem a3x {β γ:Type} {k:Key}:∀ {vs:List (Key×β)} {kvs:List (Key×γ)},vs.map (·.1)=kvs.map (·.1)→(vs.any fun kv=>decide (kv.1=k))=kvs.any fun kv=>decide (kv.1=k)
 | [],[],_=>rfl
 | [],_::_,h=>by simp at h
 | _::_,[],h=>by simp at h
 | a::vs,b::kvs,h=>by
  rw [qF,qF,km] at h
  rw [jV,jV,a3x h.2,h.1]
theorem cY.repl {K:qB} {G:Hp} {k:Key} {v:V} {d:PyData} (r:Rep K G v d):∀ {vs:List (Key×V)} {kvs:List (Key×PyData)},cY K G vs kvs→cY K G (vs.map fun kv=>if kv.1=k then (kv.1,v) else kv) (kvs.map fun kv=>if kv.1=k then (kv.1,d) else kv)
 | [],[],h=>h
 | [],_::_,h=>by have:=h.1;simp at this
 | _::_,[],h=>by have:=h.1;simp at this
 | a::vs,b::kvs,⟨h1,h2⟩=>by
  rw [qF,qF,km] at h1
  rw [qF,qF] at h2
  cases h2 with
  | cons ra rr=>
   obtain ⟨i1,i2⟩:=cY.repl (k:=k) r (vs:=vs) (kvs:=kvs) ⟨h1.2,rr⟩
   by_cases c:b.1=k
   ·have c':a.1=k:=h1.1.trans c
    refine ⟨?_,?_⟩
    ·simp only [qF,if_pos c,if_pos c',i1,h1.1]
    ·simp only [qF,if_pos c,if_pos c']
     exact .cons r i2
   ·have c':¬a.1=k:=fun z=>c (h1.1.symm.trans z)
    refine ⟨?_,?_⟩
    ·simp only [qF,if_neg c,if_neg c',i1,h1.1]
    ·simp only [qF,if_neg c,if_neg c']
     exact .cons ra i2
theorem cY.put {K:qB} {G:Hp} {k:Key} {v:V} {d:PyData} {vs:List (Key×V)} {kvs:List (Key×PyData)} (h:cY K G vs kvs) (r:Rep K G v d):cY K G (putK vs k v) (a0m kvs k d):=by
 unfold putK a0m
 rw [a3x h.1]
 split
 ·exact cY.repl r h
 ·refine ⟨by rw [kI,kI,h.1];rfl,?_⟩
  rw [kI,kI]
  exact h.2.append (.cons r .nil)
theorem cY.len {K:qB} {G:Hp} {vs:List (Key×V)} {kvs:List (Key×PyData)} (h:cY K G vs kvs):vs.length=kvs.length:=by
 have:=congrArg List.length h.1
 simpa using this
section
variable {X:Cx} {a e kx o f:Expr} {fa fk fv fd fx:EF} {pos p p2:Pos}
end
def b6Y (D:List (PyData×PyData)) (k z:PyData):Option PyData:=match rP k with
 | some k=>some ((eI k D).getD z)
 | none=>none
theorem sJ {k:Key}:∀ kvs:List (Key×V),mY kvs k=oW k kvs
 | []=>rfl
 | p::r=>by
  unfold oW
  by_cases c:p.1=k
  ·rw [if_pos c,pS c]
  ·rw [if_neg c,pT c,sJ r]
theorem pG {k:Key}:∀ {kvs:List (Key×V)} {D:List (PyData×PyData)},D.map (·.1)=kvs.map (fun p=>lG p.1)→eI k D=none→oW k kvs=none
 | [],_,_,_=>rfl
 | p::r,[],h,_=>by simp at h
 | p::r,q::D,h,e=>by
  rw [qF,qF,km] at h
  unfold eI at e
  unfold oW
  split at e
  ·cases e
  ·rename_i c
   rw [h.1,a0M] at c
   rw [if_neg fun z=>c (by rw [z])]
   exact pG h.2 e
theorem a8Y {K:qB} {G:Hp} {k:Key} {kvs:List (Key×V)} {D:List (PyData×PyData)} {z:PyData} {zv:V} (h:D.map (·.1)=kvs.map (fun p=>lG p.1)) (r:RepAll K G (kvs.map (·.2)) (D.map (·.2))) (rz:Rep K G zv z):Rep K G ((mY kvs k).getD zv) ((eI k D).getD z):=by
 rw [sJ]
 cases e:eI k D with
 | none=>rw [pG h e];exact rz
 | some d=>
  obtain ⟨v,ev,rv⟩:=oI h r e
  rw [ev];exact rv
section
variable {X:Cx} {o e f:Expr} {fd fk fx:EF} {ap cp:Pos}
end
end L2.L3
namespace L2.L3
open PySem
theorem b5K {α β:Type} {m:Mm α} {a:α} {k:α→Mm β} (h:m=some (.ok a)):bnd m k=k a:=by rw [h];rfl
theorem a0x {α:Type} {t:Tg} {ρb:List Ent} {ft:TF} {fe:EF} (φ:α→PyData) (ρx:α→List Ent) (c:α→Bool) (v:α→PyData):∀ (xs:List α),(∀ x∈xs,tgD t ρb (φ x)=some (ρx x))→(∀ x∈xs,ft (ρx x)=some (.ok (c x)))→(∀ x∈xs,c x=true→fe (ρx x)=some (.ok (v x))) →
  rB t ρb ft fe (xs.map φ)=some ((xs.filter c).map v)
 | [],_,_,_=>rfl
 | x::xs,h1,h2,h3=>by
  have ih:=a0x φ ρx c v xs (fun y hy=>h1 y (qE _ hy)) (fun y hy=>h2 y (qE _ hy)) (fun y hy=>h3 y (qE _ hy))
  have e1:=h1 x qd
  have e2:=h2 x qd
  rw [qF,rB,e1]
  dsimp only
  rw [e2]
  cases hc:c x with
  | true=>
   have e3:=h3 x qd hc
   dsimp only
   rw [e3]
   dsimp only
   rw [ih,ql hc]
   rfl
  | false=>
   dsimp only
   rw [ih,qx (by rw [hc];decide)]
theorem a7f {α:Type} {t:Tg} {cap:List (Option Nat)} {fi:AF} {ft:TF} {fe:EF} {ρ:List Ent} (φ:α→PyData) (ρx:α→List Ent) (c:α→Bool) (v:α→PyData) (xs:List α) (hi:fi ρ=some (.ok (xs.map φ))) (hz:xs.length≤100000)
  (h1:∀ x∈xs,tgD t (cJ cap ρ) (φ x)=some (ρx x)) (h2:∀ x∈xs,ft (ρx x)=some (.ok (c x))) (h3:∀ x∈xs,c x=true→fe (ρx x)=some (.ok (v x))) :
  gL t cap fi ft fe ρ=some (.ok (.list ((xs.filter c).map v))):=by
 unfold gL
 rw [b5K hi,qQ,if_pos (by unfold dA;exact decide_eq_true hz),a0x φ ρx c v xs h1 h2 h3]
 rfl
theorem filter_all {α:Type} {c:α→Bool} {xs:List α} (h:∀ x∈xs,c x=true):xs.filter c=xs:=List.filter_eq_self.mpr h
theorem a0O {α:Type} {t:Tg} {cap:List (Option Nat)} {fi:AF} {fe:EF} {ρ:List Ent} (φ:α→PyData) (ρx:α→List Ent) (v:α→PyData) (xs:List α) (hi:fi ρ=some (.ok (xs.map φ))) (hz:xs.length≤100000)
  (h1:∀ x∈xs,tgD t (cJ cap ρ) (φ x)=some (ρx x)) (h3:∀ x∈xs,fe (ρx x)=some (.ok (v x))) :
  gL t cap fi ttT fe ρ=some (.ok (.list (xs.map v))):=by
 rw [a7f φ ρx (fun _=>true) v xs hi hz h1 (fun _ _=>rfl) (fun x hx _=>h3 x hx),filter_all (fun _ _=>rfl)]
section
variable {α β:Type} {ρ:List Ent} {fa fb fc fd:EF} {ft fu:TF} {aa:AF} {d e:PyData} {i j k:Int}
@[simp] theorem lV (a:α) (k:α→Mm β):bnd (some (.ok a)) k=k a:=rfl
@[simp] theorem b9m (c:Str) (k:α→Mm β):bnd (some (.ex c)) k=some (.ex c):=rfl
@[simp] theorem b0h (a:α) (k:α→Option So):bns (some (.ok a)) ρ k=k a:=rfl
@[simp] theorem b9l (c:Str) (k:α→Option So):bns (some (.ex c)) ρ k=some (.xc c ρ):=rfl
@[simp] theorem a8Z (a:α):lft (some a)=some (.ok a):=rfl
@[simp] theorem a5N:cst d ρ=some (.ok d):=rfl
@[simp] theorem a7D (d:PyData) (r:List Ent):var 0 (.val d::r)=some (.ok d):=rfl
@[simp] theorem b2F (n:Nat) (x:Ent) (r:List Ent):var (n+1) (x::r)=var n r:=rfl
@[simp] theorem b6D (g:PyData→PyData→Option PyData):op2 g fa fb ρ=bnd (fa ρ) fun x=>bnd (fb ρ) fun y=>lft (g x y):=rfl
@[simp] theorem b6E (g:PyData→Option PyData):op1 g fa ρ=bnd (fa ρ) fun x=>lft (g x):=rfl
@[simp] theorem a4L:aI ρ=some (.ok []):=rfl
@[simp] theorem bY:aB fa aa ρ=bnd (fa ρ) fun x=>bnd (aa ρ) fun xs=>some (.ok (x::xs)):=rfl
@[simp] theorem b7s:cR aa ρ=bnd (aa ρ) fun xs=>lft (a0t xs):=rfl
@[simp] theorem b8h:fL aa ρ=bnd (aa ρ) fun xs=>lft (a0u xs):=rfl
@[simp] theorem b7L (n:Nat):dA n=decide (n≤100000):=rfl
@[simp] theorem b7l (ds:List PyData):a0t ds=if ds.length≤100000 then some (.tuple ds) else none:=by unfold a0t dA;by_cases h:ds.length≤100000<;>simp [h]
@[simp] theorem b7m (ds:List PyData):a0u ds=if ds.length≤100000 then some (.list ds) else none:=by unfold a0u dA;by_cases h:ds.length≤100000<;>simp [h]
@[simp] theorem b5F (g:PyData→PyData→Option Bool):b5G g fa fb ρ=bnd (fa ρ) fun x=>bnd (fb ρ) fun y=>lft ((g x y).map .bool):=rfl
@[simp] theorem b5E (g:PyData→PyData→Option Bool):gS g fa fb ρ=bnd (fa ρ) fun x=>bnd (fb ρ) fun y=>lft (g x y):=rfl
@[simp] theorem b8B (g g':PyData→PyData→Option Bool):b5I g g' fa fb fc ρ=bnd (fa ρ) fun x=>bnd (fb ρ) fun y=>bnd (lft (g x y)) fun t=>if t then bnd (fc ρ) fun z=>lft ((g' y z).map .bool) else some (.ok (.bool false)):=rfl
@[simp] theorem b8A (g g':PyData→PyData→Option Bool):b5H g g' fa fb fc ρ=bnd (fa ρ) fun x=>bnd (fb ρ) fun y=>bnd (lft (g x y)) fun t=>if t then bnd (fc ρ) fun z=>lft (g' y z) else some (.ok false):=rfl
@[simp] theorem b3t:eT fa ρ=bnd (fa ρ) fun x=>lft (a2n x):=rfl
@[simp] theorem b3u (b:Bool):a2n (.bool b)=some b:=rfl
@[simp] theorem b7v (ds:List PyData):a2n (.list ds)=some (!ds.isEmpty):=rfl
@[simp] theorem b7t (ds:List PyData):a2n (.tuple ds)=some (!ds.isEmpty):=rfl
@[simp] theorem b7w (i:Int):a2n (.int i)=some (i != 0):=rfl
@[simp] theorem b7u:a2n .none=some false:=rfl
@[simp] theorem b4r:eV ft ρ=bnd (ft ρ) fun t=>some (.ok (!t)):=rfl
@[simp] theorem b8a:b4s fa ρ=bnd (fa ρ) fun x=>lft ((nX x).map fun t=>.bool (!t)):=rfl
@[simp] theorem b7p (b:Bool):nX (.bool b)=some b:=rfl
@[simp] theorem b8t (i:Int):intD (.int i)=some i:=rfl
@[simp] theorem b7O (i:Str):a7P (.str i)=some i:=rfl
@[simp] theorem b8C:b5P ft fu ρ=bnd (ft ρ) fun t=>if t then fu ρ else some (.ok false):=rfl
@[simp] theorem b8P:orT ft fu ρ=bnd (ft ρ) fun t=>if t then some (.ok true) else fu ρ:=rfl
@[simp] theorem b8D:a7q fa fb ρ=bnd (fa ρ) fun x=>bnd (lft (nX x)) fun t=>if t then fb ρ else some (.ok (.bool false)):=rfl
@[simp] theorem b8Q:orE fa fb ρ=bnd (fa ρ) fun x=>bnd (lft (nX x)) fun t=>if t then some (.ok (.bool true)) else fb ρ:=rfl
@[simp] theorem b9f:ifE ft fa fb ρ=bnd (ft ρ) fun t=>if t then fa ρ else fb ρ:=rfl
@[simp] theorem b0i (g:List PyData→Option PyData):iL g aa ρ=bnd (aa ρ) fun xs=>lft (g xs):=rfl
@[simp] theorem a2b (F:List PyData→Mm PyData):bS F aa ρ=bnd (aa ρ) fun ds=>(match F ds with | some (.ok d)=>some (.ok d) | _=>none):=rfl
@[simp] theorem b5R:nZ (.int i) (.int j)=some (.int (i+j)):=rfl
@[simp] theorem b7M:b7N (.int i) (.int j)=some (.int (i - j)):=rfl
@[simp] theorem b8R:a8Q (.int i)=some (.int (-i)):=rfl
@[simp] theorem b8E (a b:List PyData):nZ (.tuple a) (.tuple b)=if a.length+b.length≤100000 then some (.tuple (a++b)) else none:=by
 show (if dA (a.length+b.length)=true then _ else _)=_
 by_cases h:a.length+b.length≤100000<;>simp [h]
@[simp] theorem b8F (a b:List PyData):nZ (.list a) (.list b)=if a.length+b.length≤100000 then some (.list (a++b)) else none:=by
 show (if dA (a.length+b.length)=true then _ else _)=_
 by_cases h:a.length+b.length≤100000<;>simp [h]
@[simp] theorem b8V:ltD (.int i) (.int j)=some (decide (i<j)):=rfl
@[simp] theorem b8Z:leD (.int i) (.int j)=some (decide (i≤j)):=rfl
@[simp] theorem b9g:gtD (.int i) (.int j)=some (decide (j<i)):=rfl
@[simp] theorem b9h:geD (.int i) (.int j)=some (decide (j≤i)):=rfl
@[simp] theorem b9j:eqD (.int i) (.int j)=some (decide (i=j)):=rfl
@[simp] theorem b8T:neD (.int i) (.int j)=some (!decide (i=j)):=rfl
@[simp] theorem b9i (a b:Str):eqD (.str a) (.str b)=some (decide (a=b)):=rfl
@[simp] theorem b8S (a b:Str):neD (.str a) (.str b)=some (!decide (a=b)):=rfl
@[simp] theorem b9k (a b:Bool):eqD (.bool a) (.bool b)=some (decide (a=b)):=rfl
@[simp] theorem b8U (a b:Bool):neD (.bool a) (.bool b)=some (!decide (a=b)):=rfl
@[simp] theorem b4A:mZ (.int i) (.int j)=if 0<j then some (.int (i % j)) else none:=rfl
@[simp] theorem b8y:b1P (.int i) (.int j)=if 0<j∧j<1073741824 then some (.int (i / j)) else none:=rfl
theorem a1B (h1:-(2 ^ 64)<j) (h2:j<2 ^ 64):pX (.int i) (.int j)=some (.int (i*j)):=by
 show (if (lC i || lC j)=true then _ else _)=_
 rw [if_pos];simp [lC];right;omega
theorem b1q (h1:-(2 ^ 64)<i) (h2:i<2 ^ 64):pX (.int i) (.int j)=some (.int (i*j)):=by
 show (if (lC i || lC j)=true then _ else _)=_
 rw [if_pos];simp [lC];left;omega
@[simp] theorem b6N (xs:List PyData):xA [.list xs]=some (.int xs.length):=rfl
@[simp] theorem b8Y (xs:List PyData):xA [.tuple xs]=some (.int xs.length):=rfl
@[simp] theorem b8f:b8g [.int i,.int j]=some (.int (max i j)):=rfl
@[simp] theorem b8d:b8e [.int i,.int j]=some (.int (min i j)):=rfl
@[simp] theorem b8N (xs:List PyData):uW [.list xs]=some (.tuple xs):=rfl
@[simp] theorem b8M (xs:List PyData):uW [.tuple xs]=some (.tuple xs):=rfl
@[simp] theorem b8X (xs:List PyData):b6M [.list xs]=some (.list xs):=rfl
@[simp] theorem b8W (xs:List PyData):b6M [.tuple xs]=some (.list xs):=rfl
@[simp] theorem b9e (b:Bool):b8u [.bool b]=some (.int (if b then 1 else 0)):=rfl
@[simp] theorem b7R:yJ fa ρ=bnd (fa ρ) fun x=>lft (wA x):=rfl
@[simp] theorem b7T (ds:List PyData):wA (.list ds)=some ds:=rfl
@[simp] theorem b7S (ds:List PyData):wA (.tuple ds)=some ds:=rfl
@[simp] theorem b9a (ds:List PyData):ixD (.tuple ds) (.int i)=atI ds i:=rfl
@[simp] theorem b9b (ds:List PyData):ixD (.list ds) (.int i)=atI ds i:=rfl
theorem b5O {xs:List α} (n:Nat):atI xs (n:Int)=xs[n]?:=by
 unfold atI ixN
 rw [if_pos (by omega)]
 by_cases h:n<xs.length
 ·rw [if_pos (by omega)];simp
 ·rw [if_neg (by omega)];rw [jB (by omega)];rfl
@[simp] theorem b9s (a:α) (r:List α):atI (a::r) 0=some a:=by
 unfold atI ixN
 rw [if_pos (by decide),if_pos (by simp<;>omega)];rfl
@[simp] theorem b9r (a b:α) (r:List α):atI (a::b::r) 1=some b:=by
 unfold atI ixN
 rw [if_pos (by decide),if_pos (by simp<;>omega)];rfl
@[simp] theorem b9q (a b c:α) (r:List α):atI (a::b::c::r) 2=some c:=by
 unfold atI ixN
 rw [if_pos (by decide),if_pos (by simp<;>omega)];rfl
@[simp] theorem b9p (a b c d:α) (r:List α):atI (a::b::c::d::r) 3=some d:=by
 unfold atI ixN
 rw [if_pos (by decide),if_pos (by simp<;>omega)];rfl
@[simp] theorem b8b:iO ρ=some (.nx ρ):=rfl
@[simp] theorem tF:retS fa ρ=bns (fa ρ) ρ fun d=>some (.rt d):=rfl
@[simp] theorem b7n:a5y fa ρ=bns (fa ρ) ρ fun _=>some (.nx ρ):=rfl
@[simp] theorem a1i (i:Nat):sP i fa ρ=bns (fa ρ) ρ fun d=>some (.nx (ρ.set i (.val d))):=rfl
@[simp] theorem b7r (t:Tg):b3q t fa ρ=bns (fa ρ) ρ fun d=>(tgD t ρ d).map So.nx:=rfl
@[simp] theorem rF (f g:SF):ifS ft f g ρ=bns (ft ρ) ρ fun t=>if t then f ρ else g ρ:=rfl
@[simp] theorem b8x (t:Tg) (fb:SF):b5d t aa fb ρ=bns (aa ρ) ρ fun ds=>wY t fb ds ρ:=rfl
@[simp] theorem b8c (i:Nat):a8O i aa ρ=bns (aa ρ) ρ fun ds=>if ds.length≤100000 then some (.nx (ρ.set i (.lst ds))) else none:=by
 unfold a8O dA;cases aa ρ with
 | none=>rfl
 | some r=>cases r with
  | ok ds=>by_cases h:ds.length≤100000<;>simp [bns,h]
  | ex c=>rfl
theorem mE {f g:SF} {ρ':List Ent} (h:f ρ=some (.nx ρ')):eF f g ρ=g ρ':=by unfold eF;rw [h]
theorem a4S {f g:SF} (h:f ρ=some (.rt d)):eF f g ρ=some (.rt d):=by unfold eF;rw [h]
@[simp] theorem b8O (i:Nat):tgD (.nm i) ρ d=some (ρ.set i (.val d)):=rfl
@[simp] theorem b7z (i j:Nat) (a b:PyData):tgD (.tp [i,j]) ρ (.tuple [a,b])=some ((ρ.set i (.val a)).set j (.val b)):=rfl
@[simp] theorem b7y (i j k:Nat) (a b c:PyData):tgD (.tp [i,j,k]) ρ (.tuple [a,b,c])=some (((ρ.set i (.val a)).set j (.val b)).set k (.val c)):=rfl
@[simp] theorem b7x (i j k l:Nat) (a b c d:PyData):tgD (.tp [i,j,k,l]) ρ (.tuple [a,b,c,d])=some ((((ρ.set i (.val a)).set j (.val b)).set k (.val c)).set l (.val d)):=rfl
end
end L2.L3
namespace L2.L3
open PySem
end L2.L3
namespace L2.L3
open PySem PySem.W PyProof.Rows
section
variable {X:Cx} {e:Expr} {fa:EF} {x:Str} {pos:Pos}
def dfE (g:PyData→PyData→Option PyData) (fa fb:EF):EF:=fun ρ=>match fa ρ,fb ρ with
 | some (.ok x),some (.ok y)=>lft (g x y)
 | _,_=>none
def b1R (i:Nat) (fa:EF):SF:=fun ρ=>match ρ[i]? with
 | some (.lst ds)=>bns (fa ρ) ρ fun d=>(match wA d with
  | some es=>if dA (ds.length+es.length) then some (.nx (ρ.set i (.lst (ds++es)))) else none
  | none=>none)
 | _=>none
def b6s (K:qB):V→List V→Hp→VK→Prop:=fun x vs H Q=>∃ l b xs zs,x=.ref l∧vs=[.ref b]∧H l=some (.lst xs)∧(SqL K H b zs∨SqT K H b zs)∧xs.length+zs.length≤sizeLine∧Q .non (upd H l (.lst (xs++zs)))
theorem b1r:MtM X "list.extend" (b6s X.K):=by
 intro pins s σ H x vs v us Q I rx rv h
 obtain ⟨l,b,xs,zs,rfl,rfl,hH,hB,hz,q⟩:=h
 cases rx
 obtain ⟨u,rfl,ru⟩:=rv.one
 cases ru
 obtain ⟨z,its,n,r,hl,e⟩:=I.lstM hH
 obtain ⟨its2,T,o,n2,hT,ho,hc,hd,r2⟩:=sQ I hB
 have hl2:=r2.length
 have hl1:=r.length
 have hsz:its.toArray.size+its2.toArray.size≤sizeLine:=by rw [qI,qI];omega
 have hlong:¬(!its.toArray.isEmpty&&kQ (its.toArray.size+its2.toArray.size))=true:=by
  rw [a2O hsz,Bool.and_false]
  exact qT
 refine wpAny_call_entry F.slot_list_extend ⟨_,e,rfl⟩ F.entry_list_extend ?_ (F.args_list_extend_2 _ _)
 show wpAny _ _ (jP (.ref l) (.ref b) .none) _ _ s
 unfold jP
 refine wpAny_bind (wpAny_typeOf (T:=T) ⟨o,ho,hc⟩ ?_)
 rw [if_pos (by rcases hT with rfl | rfl<;>simp)]
 refine wpAny_bind (listItems_at ho hd ?_)
 refine wpAny_bind (listItems_at e rfl ?_)
 rw [if_neg hlong]
 refine wpAny_bind (listUpdate_at e rfl ?_ (by rw [qI];omega) (by rw [Array.size_append];omega))
 refine wpAny_pure ⟨_,rfl,.non,_,I.lset (its':=its++its2) (t':=s.toks) hH e (by simp) (r.append r2) ?_,rfl,q⟩
 rw [jU]
 omega
theorem a5F (i:Nat) {p ap cp:Pos} (h:DE X e fa) (hN:X.N[i]?=some x:=by rfl)
  (hv:Vis X.env.scope x:=by first | exact qu rfl | exact qf (qu rfl) | exact qf (qf rfl)) (hd:(x==("__debug__" : Str))=false:=by decide) (hcd:(x==("__classdict__" : Str))=false:=by decide)
  (hbase:attributeBase (.Name x p) "extend" X.env (eval (.Name x p) X.env)=eval (.Name x p) X.env:=by rfl)
  (hfew:((backTo cp (starEach (e::[]) X.env)).all (fun x=>!x.1)&&(backToKw cp (keywordEach [] X.env)).all (fun x=>x.1.isSome)&&decide ((e::[]).length+([]:List Keyword).length+(if ([]:List Keyword).isEmpty then 0 else 1)<30))=true:=by rfl)
  (hline:(ap.endLine==cp.line)=true:=by rfl) (hst:starEach (e::[]) X.env=(false,eval e X.env)::starEach [] X.env:=by rfl) (hplain:(backTo cp (starEach [] X.env)).any (·.1)=false:=by rfl)
  (hsw:swapsWith (.Call (.Attribute (.Name x p) "extend" ap) [e] [] cp) none pos.line X.env=pure false:=by rfl) :
  DS X (.Expr (.Call (.Attribute (.Name x p) "extend" ap) [e] [] cp) pos) (b1R i fa):=⟨fun pins s σ H D I ⟨ρ,o,H0,G₀,G,ef,R,q⟩=>
 oG (a5j kG PySem.F.slot_list_extend PySem.F.type_list_extend b1r (cB hN hv hd hcd) (cQ h.run dR hst) hbase hfew hline hst hplain) hsw pins s σ H D I (by
  unfold b1R at ef
  split at ef
  ·rename_i ds hi
   obtain ⟨a,xs,e1,h1,h2,h3,r⟩:=R.own hi
   refine ⟨.ref a,e1,.inl ⟨rfl,xs,.of h1⟩,sE R ef q fun d v G1 H1 g1 R1 rv e2 q1=>?_⟩
   split at e2
   ·rename_i es he
    split at e2
    ·rename_i hz
     cases (qA e2)
     obtain ⟨b,zs,rfl,hq,r'⟩:=iR g1.sub he rv
     exact ⟨a,_,xs,_,rfl,rfl,g1.hh.lst h1,hq,by rw [r.length,r'.length];exact fM hz,q1 G1 _ σ (.refl _) (R1.wrote hi e1 ((r.mono g1.gg).append r'))⟩
    ·cases e2
   ·cases e2
  ·cases ef)⟩
end
end L2.L3
namespace L2.L3
open PySem PySem.Spec PyProof.Rows
def blD:PyData→Option Bool
 | .bool b=>some b
 | _=>none
theorem b0j {d:PyData} {b:Bool} (h:blD d=some b):d=.bool b:=by
 unfold blD at h
 split at h
 ·cases h;rfl
 ·cases h
def b5y (x y:PyData):Option PyData:=match x,y with
 | .list xs,.int k=>(match iP intD xs with | some ns=>some (.int (ns.count k:Nat)) | none=>none)
 | .list xs,.bool c=>(match iP blD xs with | some bs=>some (.int (bs.count c:Nat)) | none=>none)
 | _,_=>none
def b4Z (x y:PyData):Option PyData:=match x,y with
 | .list xs,.bool c=>(match iP blD xs with | some bs=>if c∈bs then some (.int (bs.idxOf c:Nat)) else none | none=>none)
 | _,_=>none
theorem pA:∀ {bs:List Bool} {us:List Value},aX (bs.map V.bl) us→us=bs.map jQ
 | [],_,.nil=>rfl
 | b::bs,_,.cons r t=>by cases r;rw [qF,pA t]
theorem xX (k:Int):∀ {us:List Value} {ns:List Int},aX (ns.map V.int) us→us.countP (isInt k)=ns.count k
 | _,[],.nil=>rfl
 | _,n::ns,.cons ⟨t,e⟩ r=>by
  subst e
  rw [List.countP_cons,List.count_cons,xX k r]
  rfl
section
variable {X:Cx} {o e:Expr} {fo fa:EF} {apos cpos:Pos}
theorem a6H:MtM X "list.count" (fun x vs H Q=>∃ (p:Addr) (ns:List Int) (k:Int),x=.ref p∧vs=[.int k]∧SqL X.K H p (ns.map V.int)∧Q (.int (ns.count k:Nat)) H):=by
 intro pins s σ H x vs v us Q I rx rv ⟨p,ns,k,e1,e2,hq,q⟩
 subst e1 e2
 cases rx
 obtain ⟨u,rfl,t,rfl⟩:=rv.one
 obtain ⟨its,r1,p1,hz⟩:=I.list hq
 obtain ⟨⟨c1,d1,t1,sl1⟩,n1,g1,k1,_,m1⟩:=p1
 dsimp only at k1 m1
 subst k1 m1
 have hi:=intsAre_of r1
 refine call_meets zP ⟨_,g1,rfl⟩ F.entry_list_count (F.args_list_count_2 _ _)
  (SeqAt.list_countAt p its.toArray n1 d1 sl1 (.int k t) (isInt k)) ⟨g1,fun y hy=>(eq_isInt k t hi y (by simpa using hy)).at _ _,⟨.int _,H,I.tok _,⟨_,rfl⟩,?_⟩⟩
 have:(its.toArray.toList.countP (isInt k):Nat)=ns.count k:=by simpa using xX k r1
 rw [this];exact q
def a9f (c:Bool):Value→Bool
 | .bool b=>b==c
 | _=>false
theorem a6I:MtM X "list.count" (fun x vs H Q=>∃ (p:Addr) (bs:List Bool) (c:Bool),x=.ref p∧vs=[.bl c]∧SqL X.K H p (bs.map V.bl)∧Q (.int (bs.count c:Nat)) H):=by
 intro pins s σ H x vs v us Q I rx rv ⟨p,bs,c,e1,e2,hq,q⟩
 subst e1 e2
 cases rx
 obtain ⟨u,rfl,rfl⟩:=rv.one
 obtain ⟨its,r1,p1,hz⟩:=I.list hq
 obtain ⟨⟨c1,d1,t1,sl1⟩,n1,g1,k1,_,m1⟩:=p1
 dsimp only at k1 m1
 subst k1 m1
 have hi:=pA r1
 subst hi
 refine call_meets zP ⟨_,g1,rfl⟩ F.entry_list_count (F.args_list_count_2 _ _)
  (SeqAt.list_countAt p (bs.map jQ).toArray n1 d1 sl1 (.bool c) (a9f c)) ⟨g1,fun y hy=>?_,⟨.int _,H,I.tok _,⟨_,rfl⟩,?_⟩⟩
 ·obtain ⟨b,_,rfl⟩:=je.mp (show y∈bs.map jQ by simpa using hy)
  exact zn b c
 ·have:((bs.map jQ).toArray.toList.countP (a9f c):Nat)=bs.count c:=by
   rw [List.countP_map]
   rfl
  rw [this];exact q
theorem a6G:MtM X "list.index" (fun x vs H Q=>∃ (p:Addr) (bs:List Bool) (c:Bool),x=.ref p∧vs=[.bl c]∧SqL X.K H p (bs.map V.bl)∧c∈bs∧Q (.int (bs.idxOf c:Nat)) H):=by
 intro pins s σ H x vs v us Q I rx rv ⟨p,bs,c,e1,e2,hq,hc,q⟩
 subst e1 e2
 cases rx
 obtain ⟨u,rfl,rfl⟩:=rv.one
 obtain ⟨its,r1,p1,hz⟩:=I.list hq
 obtain ⟨⟨c1,d1,t1,sl1⟩,n1,g1,k1,_,m1⟩:=p1
 dsimp only at k1 m1
 subst k1 m1
 have hi:=pA r1
 subst hi
 have lt:bs.idxOf c<bs.length:=List.idxOf_lt_length_iff.mpr hc
 rw [qQ] at hz
 have hz2:(sizeLine:Nat)<2 ^ 62:=by rw [sizeLine_eq];decide
 refine call_meets F.slot_list_index ⟨_,g1,rfl⟩ F.entry_list_index (F.args_list_index_2 _ _)
  (SeqAt.list_indexAt p (bs.map jQ).toArray n1 d1 sl1 (.bool c) (a9f c) (bs.idxOf c) (by simpa using lt) (by omega) ?_ ?_) ⟨g1,fun y hy=>?_,⟨.int _,H,I.tok _,⟨_,rfl⟩,q⟩⟩
 ·have:=List.getElem_idxOf lt
  simpa [a9f] using this
 ·intro j hjs hlt
  have h1:j<bs.length:=by simpa using hjs
  have:=List.not_of_lt_findIdx (p:=(·==c)) (xs:=bs) hlt
  simpa [a9f] using this
 ·obtain ⟨b,_,rfl⟩:=je.mp (show y∈bs.map jQ by simpa using hy)
  exact zn b c
theorem a9T (ho:DE X o fo) (ha:DE X e fa)
  (hbase:attributeBase o "count" X.env (eval o X.env)=eval o X.env:=by rfl)
  (hfew:((backTo cpos (starEach (e::[]) X.env)).all (fun x=>!x.1)&&(backToKw cpos (keywordEach [] X.env)).all (fun x=>x.1.isSome)&&decide ((e::[]).length+([]:List Keyword).length+(if ([]:List Keyword).isEmpty then 0 else 1)<30))=true:=by rfl)
  (hline:(apos.endLine==cpos.line)=true:=by rfl) (hst:starEach (e::[]) X.env=(false,eval e X.env)::starEach [] X.env:=by rfl) (hplain:(backTo cpos (starEach [] X.env)).any (·.1)=false:=by rfl) :
  DE X (.Call (.Attribute o "count" apos) [e] [] cpos) (dfE b5y fo fa):=uV fun ρ r h=>by
 unfold dfE at h
 split at h
 ·rename_i x y ea eb
  obtain ⟨d,ed,rfl⟩:=aW h
  refine ⟨d,rfl,?_⟩
  unfold b5y at ed
  split at ed
  ·rename_i xs k
   split at ed
   ·rename_i ns ei
    have hx:=eA (g:=PyData.int) (fun d a q=>oK q) ei
    subst hx
    cases (qA ed)
    exact a8x F.plainAttrs_list zP F.type_list_count a6H (ho.pd ea) (pV (ha.pd eb) vK hst) (fun x G H s r=>by cases r with | list hq _=>exact .inl ⟨rfl,_,s.seq hq⟩) (fun x vs G H Q s r rs q=>by
     cases r with
     | list hq ra=>
      have e:=ra.ints
      subst e
      cases rs with
      | cons r1 r2=>cases r1;cases r2;exact ⟨_,ns,k,rfl,rfl,s.seq hq,q _ G H (.refl s) (.int _)⟩) hbase hfew hline hst hplain
   ·cases ed
  ·rename_i xs c
   split at ed
   ·rename_i bs ei
    have hx:=eA (g:=vC) (fun d a q=>b0j q) ei
    subst hx
    cases (qA ed)
    exact a8x F.plainAttrs_list zP F.type_list_count a6I (ho.pd ea) (pV (ha.pd eb) vK hst) (fun x G H s r=>by cases r with | list hq _=>exact .inl ⟨rfl,_,s.seq hq⟩) (fun x vs G H Q s r rs q=>by
     cases r with
     | list hq ra=>
      have e:=ra.bools
      subst e
      cases rs with
      | cons r1 r2=>cases r1;cases r2;exact ⟨_,bs,c,rfl,rfl,s.seq hq,q _ G H (.refl s) (.int _)⟩) hbase hfew hline hst hplain
   ·cases ed
  ·cases ed
 ·cases h
theorem a7d (ho:DE X o fo) (ha:DE X e fa)
  (hbase:attributeBase o "index" X.env (eval o X.env)=eval o X.env:=by rfl)
  (hfew:((backTo cpos (starEach (e::[]) X.env)).all (fun x=>!x.1)&&(backToKw cpos (keywordEach [] X.env)).all (fun x=>x.1.isSome)&&decide ((e::[]).length+([]:List Keyword).length+(if ([]:List Keyword).isEmpty then 0 else 1)<30))=true:=by rfl)
  (hline:(apos.endLine==cpos.line)=true:=by rfl) (hst:starEach (e::[]) X.env=(false,eval e X.env)::starEach [] X.env:=by rfl) (hplain:(backTo cpos (starEach [] X.env)).any (·.1)=false:=by rfl) :
  DE X (.Call (.Attribute o "index" apos) [e] [] cpos) (dfE b4Z fo fa):=uV fun ρ r h=>by
 unfold dfE at h
 split at h
 ·rename_i x y ea eb
  obtain ⟨d,ed,rfl⟩:=aW h
  refine ⟨d,rfl,?_⟩
  unfold b4Z at ed
  split at ed
  ·rename_i xs c
   split at ed
   ·rename_i bs ei
    split at ed
    ·rename_i hk
     have hx:=eA (g:=vC) (fun d a q=>b0j q) ei
     subst hx
     cases (qA ed)
     exact a8x F.plainAttrs_list F.slot_list_index F.type_list_index a6G (ho.pd ea) (pV (ha.pd eb) vK hst) (fun x G H s r=>by cases r with | list hq _=>exact .inl ⟨rfl,_,s.seq hq⟩) (fun x vs G H Q s r rs q=>by
      cases r with
      | list hq ra=>
       have e:=ra.bools
       subst e
       cases rs with
       | cons r1 r2=>cases r1;cases r2;exact ⟨_,bs,c,rfl,rfl,s.seq hq,hk,q _ G H (.refl s) (.int _)⟩) hbase hfew hline hst hplain
    ·cases ed
   ·cases ed
  ·cases ed
 ·cases h
end
end L2.L3
namespace L2.L3
open PySem PySem.Spec PyProof.Rows
section
variable {X:Cx} {b:Expr} {fb:EF} {p pos:Pos}
end
end L2.L3
namespace L2.L3
open PySem PySem.Spec PyProof.Rows
def xT (kvs:List (Key×PyData)) (k:Key):List (Key×PyData):=kvs.filter fun kv=>decide (kv.1≠k)
theorem cY.keys {K:qB} {G:Hp} {vs:List (Key×V)} {kvs:List (Key×PyData)} (r:cY K G vs kvs):(kvs.map fun p=>(lG p.1,p.2)).map (·.1)=vs.map fun p=>lG p.1:=by
 rw [jT]
 have:=congrArg (List.map lG) r.1
 rw [jT,jT] at this
 exact this.symm
theorem cY.vals {K:qB} {G:Hp} {vs:List (Key×V)} {kvs:List (Key×PyData)} (r:cY K G vs kvs):RepAll K G (vs.map (·.2)) ((kvs.map fun p=>(lG p.1,p.2)).map (·.2)):=by
 rw [jT];exact r.2
theorem cY.drop {K:qB} {G:Hp} {k:Key}:∀ {vs:List (Key×V)} {kvs:List (Key×PyData)},cY K G vs kvs→cY K G (xU vs k) (xT kvs k)
 | [],[],h=>h
 | [],_::_,h=>by have:=h.1;simp at this
 | _::_,[],h=>by have:=h.1;simp at this
 | a::vs,b::kvs,⟨h1,h2⟩=>by
  rw [qF,qF,km] at h1
  rw [qF,qF] at h2
  cases h2 with
  | cons ra rr=>
   obtain ⟨i1,i2⟩:=cY.drop (k:=k) (vs:=vs) (kvs:=kvs) ⟨h1.2,rr⟩
   unfold xU xT at i1 i2 ⊢
   by_cases c:b.1=k
   ·have c':a.1=k:=h1.1.trans c
    rw [qx (by simpa using c'),qx (by simpa using c)]
    exact ⟨i1,i2⟩
   ·have c':¬a.1=k:=fun z=>c (h1.1.symm.trans z)
    rw [ql (by simpa using c'),ql (by simpa using c)]
    exact ⟨by rw [qF,qF,i1,h1.1],by rw [qF,qF];exact .cons ra i2⟩
theorem tM {K:qB} {G:Hp} {k:Key} {kvs:List (Key×V)} {D:List (PyData×PyData)} (h:D.map (·.1)=kvs.map (fun p=>lG p.1)) (r:RepAll K G (kvs.map (·.2)) (D.map (·.2))):(mY kvs k).isSome=(eI k D).isSome:=by
 rw [sJ]
 cases e:eI k D with
 | none=>rw [pG h e];rfl
 | some d=>
  obtain ⟨v,ev,_⟩:=oI h r e
  rw [ev];rfl
section
variable {X:Cx} {a b e kx o f:Expr} {fa fk fv fd fx:EF} {pos p p2 p3 ap cp:Pos}
end
end L2.L3
namespace L2.L3
open PySem PySem.Spec PyProof.Rows
theorem b6R {P:Program} {w:World} {k:Key} {u:Value} (h:(bR P w).is k u=true):RelV (kV k) u:=by
 rw [a4c] at h
 rcases cD h with ⟨i,t,rfl,rfl⟩ | ⟨x,t,rfl,rfl⟩
 ·exact ⟨t,rfl⟩
 ·exact ⟨t,rfl⟩
theorem a0B {P:Program} {w:World}:∀ (l:List (Key×V)) (vs:List (Key×Value)) (us:List Value),KV l vs→us.length=vs.length →
  (∀ (j:Nat) (v:Value),us[j]?=some v→∃ k x,vs[j]?=some (k,x)∧(bR P w).is k v=true)→aX (l.map fun p=>kV p.1) us
 | [],_,us,r,hl,_=>by
  cases r
  cases us with
  | nil=>exact .nil
  | cons _ _=>simp at hl
 | p::l,_,us,r,hl,h=>by
  cases r with
  | @cons _ q _ qs h1 t=>
  cases us with
  | nil=>simp at hl
  | cons u us=>
   refine .cons ?_ (a0B (P:=P) (w:=w) l qs us t (by simpa using hl) fun j v e=>?_)
   ·obtain ⟨k,x,e,g⟩:=h 0 u rfl
    cases e
    show RelV (kV p.1) u
    rw [h1.1];exact b6R g
   ·obtain ⟨k,x,e,g⟩:=h (j+1) v (by simpa using e)
    exact ⟨k,x,by simpa using e,g⟩
section
variable {X:Cx}
end
end L2.L3
namespace L2.L3
open PySem PySem.Spec PyProof.Rows
section
variable {X:Cx}
end
end L2.L3
namespace L2.SX
open PySem PyProof.Rows
section
variable {prog:Program} {w:World} {A:Around} {E:Value→Shared→Prop} {s:Shared} {K:Type} [DecidableEq K] {knd:KeyKind prog w K}
end
end L2.SX
namespace L2.SX
open PySem PyProof.Rows
section
variable {prog:Program} {w:World} {A:Around} {E:Value→Shared→Prop} {s:Shared} {K:Type} [DecidableEq K] {knd:KeyKind prog w K}
end
end L2.SX
namespace L2.L3
open PySem PySem.Spec PyProof.Rows PySem.Calls
section
variable {X:Cx} {e1 e2:Expr} {fa fb:EF} {p1 p2 q1 q2 pos:Pos}
end
end L2.L3
namespace L2.L3
open PySem PySem.Spec PyProof.Rows
section
variable {X:Cx}
end
end L2.L3
namespace L2.L3
open PySem PySem.Spec PyProof.Rows
section
variable {X:Cx} {elt iter tg:Expr} {ifs:List Expr} {scope:Scope} {pos spos p:Pos} {N':List Str} {cap:List (Option Nat)} {t:Tg} {fi:AF} {ft:TF} {fe:EF}
end
end L2.L3
namespace L2.L3
open PySem PySem.Spec PyProof.Rows
end L2.L3
namespace L2.L3
open PySem PySem.Spec PyProof.Rows
section
variable {X:Cx} {pins:List (Addr×Obj)} {σ:St} {H:Hp} {s:Shared} {a:Addr} {o o':HO}
end
section
variable {X:Cx} {o tg:Expr} {td:TE} {apos cpos:Pos}
end
section
variable {X:Cx} {elt tg:Expr} {ifs:List Expr} {scope:Scope} {pos spos p apos cpos xp:Pos} {N':List Str} {cap:List (Option Nat)} {t:Tg} {fi:AF} {ft:TF} {fe:EF}
end
end L2.L3
namespace L2.L3
open PySem PySem.Spec PyProof.Rows
section
variable {X:Cx} {pins:List (Addr×Obj)} {σ:St} {H G N:Hp} {s:Shared} {h':Heap} {t':Nat}
end
section
variable {prog:Program} {w:World} {A:Around} {E:Value→Shared→Prop} {s:Shared}
theorem a3M {T:String} {r d:Addr} {n:Nat} {P:Nat→Value→Prop} {OK:Heap→Prop} {ss:List Str} {Q:Value→Shared→Prop} (K:PySem.W.KdlSrc prog w T r d n P OK) (hh:A.handled=none) (hok:OK s.heap) (h64:n<64) (hP:∀ acc,ItemsOf P acc n→StrsAre acc.toList ss)
  (h:∀ (h1:Heap) (tk:Nat) (h2:Heap) (ep:Nat) (out:Array Value) (ss':List Str),(∀ b o,s.heap.get? b=some o→h1.get? b=some o)→(∀ b o,h1.get? b=some o→h2.get? b=some o)→h2.get? h1.objs.size=some (seqObj "list" out ep) →
   StrsAre out.toList ss'→ss'.Perm ss→sortedS ss'=true→Q (.ref h1.objs.size) { s with heap:=h2,toks:=tk }) :
  wpAny (model prog w) A (call (.builtin "sorted") [.ref r]) Q E s:=by
 refine zJ kind_sorted plain_sorted entry_sorted (args_sorted1 _) ?_
 unfold Builtin.«sorted»
 refine wpAny_bind (m:=checkCount "sorted" 1 1 _) (wpAny_pure (wpAny_bind (PySem.W.kdu_collect K hh hok (by rw [sizeLine_eq];omega) fun h1 tk acc kp hi=>?_)))
 have hS:=hP acc hi
 have hl:acc.toList.length<64:=by rw [qR,hi.1];exact h64
 have hoL:(h1.push (seqObj "list" acc.toList.toArray 0)).get? h1.objs.size=some (seqObj "list" acc.toList.toArray 0):=qK _ rfl
 refine wpAny_bind (wpAny_newList ?_ (by rw [sizeLine_eq];omega))
 show wpAny _ _ _ _ _ { s with heap:=h1.push (seqObj "list" acc.toList.toArray 0),toks:=tk }
 refine wpAny_bind (wpAny_holding (wpAny_call_entry slot_list_sort ⟨_,hoL,rfl⟩ entry_list_sort (list_sort_treeK strKind_oneLt hoL hS.keysOf (fun v₁ v₂ rest e=>keyKind_strs (by rw [←e];exact hS)) hl fun st' a1 a2=>⟨_,rfl,?_⟩) (args_list_sort _)))
 obtain ⟨ss',b1,b2,b3⟩:=sorted_out_str hS a1 a2
 generalize (arrOf st').map (·.2)=out at b1
 obtain ⟨e1,ho1⟩:∃ e1,((h1.push (seqObj "list" acc.toList.toArray 0)).update h1.objs.size (jX fun _=>#[])).get? h1.objs.size=some (seqObj "list" #[] e1):=⟨_,get?_update_seq hoL (fun _=>#[])⟩
 have ho6:=qC (seqObj "list" #[] 0) (qC (seqObj "tuple" acc.toList.toArray 0) ho1)
 obtain ⟨e2,ho2⟩:∃ e2,(sortedHeap (h1.push (seqObj "list" acc.toList.toArray 0)) h1.objs.size acc.toList out).get? h1.objs.size=some (seqObj "list" out e2):=⟨_,get?_update_seq ho6 (fun _=>out)⟩
 refine wpAny_pure ⟨_,rfl,h h1 tk _ e2 out ss' kp (fun b o q=>?_) ho2 b1 b2 b3⟩
 have hb:b≠h1.objs.size:=qU (qG q)
 unfold sortedHeap
 rw [jt _ _ _ _ hb]
 refine qC _ (qC _ ?_)
 rw [jt _ _ _ _ hb]
 exact qC _ q
end
section
variable {X:Cx}
theorem a1X (hc:X.calm=true):gM X (.builtin "sorted") (fun xs H Q=>∃ (a:Addr) (kvs:List (Key×V)) (ns:List Str),xs=[V.ref a]∧Rd H a (.dK kvs)∧kvs.map (·.1)=ns.map zW∧ns.length<64∧∀ l,H l=none→Q (.ref l) (upd H l (.lst ((gH ns).map V.str)))):=by
 intro pins s σ H xs us Q I r ⟨a,kvs,ns,e,ha,ek,h64,q⟩
 subst e
 obtain ⟨u,rfl,rx⟩:=vals1 r
 cases rx
 obtain ⟨z,lo,vs,rel,dd⟩:=a0K I.hok ha
 obtain ⟨ep,dat⟩:=dd.dictAt
 have ln:kvs.length=ns.length:=by have:=congrArg List.length ek;rwa [qQ,qQ] at this
 refine a3M (ss:=ns) (PySem.W.kdl_dict (knd:=bR X.prog X.w) (kvs:=vs) (ep:=ep) lo) (I.ok.hd hc) dat (by rw [←rel.length,ln];exact h64) (fun acc hi=>?_) fun h1 tk h2 ep' out ss' kp kp2 ho b1 b2 b3=>?_
 ·have kv:=a0B (P:=X.prog) (w:=X.w) kvs vs acc.toList rel (by rw [qR];exact hi.1) (fun j v e=>hi.2 j v (by rw [←jK];exact e))
  have:(kvs.map fun p=>kV p.1)=ns.map V.str:=by
   have:=congrArg (List.map kV) ek
   rw [jT,jT] at this
   exact this
  rw [this] at kv
  exact vV kv
 ·have e:=vZ b2 b3
  subst e
  have I1:Inv X pins σ H { s with heap:=h1,toks:=tk }:=I.kept (t':=tk) kp
  have hf:H h1.objs.size=none:=I1.hok.fresh (qO _)
  refine ⟨.ref h1.objs.size,_,I1.laid (t':=tk) kp2 (qO _) ?_,rfl,q _ hf⟩
  refine ⟨?_,out.toList,ep',sI b1,?_⟩
  ·rw [qQ,(fP ns).length_eq]
   exact qv (gZ (by omega))
  ·rw [ho]
def b6Q:PyData×PyData→Option Str:=fun p=>match p.1 with | .str x=>some x | _=>none
def b0n:List (PyData×PyData)→Option (List Str)
 | []=>some []
 | p::r=>match b6Q p,b0n r with | some x,some xs=>some (x::xs) | _,_=>none
def a4P (ds:List PyData):Option PyData:=match ds with
 | [.dict D]=>(match b0n D with | some ns=>if ns.length<64 then some (.list ((gH ns).map .str)) else none | none=>none)
 | _=>none
theorem a5U:∀ {D:List (PyData×PyData)} {ns:List Str},b0n D=some ns→D.map (·.1)=ns.map .str
 | [],ns,h=>by cases h;rfl
 | (k,v)::r,ns,h=>by
  unfold b0n at h
  split at h
  ·rename_i x xs e1 e2
   cases h
   rw [qF,qF,a5U e2]
   congr 1
   unfold b6Q at e1
   dsimp only at e1
   split at e1
   ·cases e1;rfl
   ·cases e1
  ·cases h
theorem a0C:∀ {kvs:List (Key×V)} {ns:List Str},(kvs.map fun p=>lG p.1)=ns.map .str→kvs.map (·.1)=ns.map zW
 | [],[],_=>rfl
 | [],_::_,h=>by cases h
 | _::_,[],h=>by cases h
 | (k,v)::r,x::ns,h=>by
  rw [qF,qF] at h
  injection h with h1 h2
  rw [qF,qF,a0C h2]
  congr 1
  cases k with
  | inl i=>cases h1
  | inr y=>injection h1 with h1;subst h1;rfl
end
section
variable {X:Cx} {o:Expr} {fo:EF} {p pos apos cpos:Pos}
end
end L2.L3
namespace L2.L3
open PySem PySem.Spec PyProof.Rows
section
variable {X:Cx} {e:Expr} {fk:EF} {pos ap cp:Pos}
end
end L2.L3
namespace L2.L3
open PySem PySem.Spec PyProof.Rows
end L2.L3
namespace L2.L3
open PySem PySem.Spec PySem.Calls PyProof.Rows
def dU (ρ:List Ent):Bool:=ρ.all fun e=>match e with | .ro _ _=>false | _=>true
theorem b1k {ρ:List Ent} (h:dU ρ=true) {i:Nat} {oa:Option Addr} {b:BS}:ρ[i]?≠some (.ro oa b):=fun z=>by
 have:=jN.mp h _ (List.mem_of_getElem? z)
 cases this
theorem BOk.nd {K:qB} {G H:Hp} {a:Addr} {b:BS} {fp:List Addr} (h:BOk K G H a b fp):fp.Nodup:=by
 obtain ⟨dx,d,l1,l2,vs,xs,ys,rfl,n,h1,h2,h3,h4,h5,_⟩:=h
 simp only [jv,qM,kA,or_false,not_or,not_false_eq_true,List.nodup_nil,and_true]
 exact ⟨⟨bZ h1 h2 (by nofun),bZ h1 h3 (by nofun),bZ h1 h4 (by nofun),bZ h1 h5 (by nofun)⟩,⟨bZ h2 h3 (by nofun),bZ h2 h4 (by nofun),bZ h2 h5 (by nofun)⟩,⟨bZ h3 h4 (by nofun),bZ h3 h5 (by nofun)⟩,n⟩
theorem Tab.tr {P:Addr} {q:Str} {H H':Hp} (t:Tab P q H) (k:∀ x o,H x=some o→¬oY o→H' x=some o):Tab P q H':=by
 obtain ⟨ps,h1,h2,h3⟩:=t
 refine ⟨ps,k _ _ h1 (fun z=>z),h2,fun pos cv e=>?_⟩
 obtain ⟨c,e1,e2⟩:=h3 pos cv e
 exact ⟨c,e1,k _ _ e2 (fun z=>z)⟩
section
variable {K:qB} {H0 H1 G₀ G H G' H':Hp} {σ σ':St} {ρ ρ':List Ent} {β:Sto} {fps:List (List Addr)} {fp fp':List Addr} {a:Addr} {b b':BS}
theorem RepS.back (R:RepS K H1 G₀ G H σ ρ) (hn:dU ρ=true) (k1:∀ x∈fp,∃ o,H x=some o∧oY o) (k2:∀ x∈fp,H1 x≠none) (k3:∀ x∈fp',(∃ o,H' x=some o∧oY o)∧less H fp x=none∧G' x=none)
  (g:Grow G (plus (less H fp) H' fp') G' H'):RepS K (plus (less H1 fp) H' fp') G₀ G' H' σ ρ:=by
 have mid:∀ x o,x∉fp→H x=some o→plus (less H fp) H' fp' x=some o:=fun x o nx e=>by
  rw [aU (fun z=>by have:=(k3 x z).2.1;rw [bP nx,e] at this;cases this),bP nx,e]
 have keep:∀ x o,x∉fp→H x=some o→(∀ ps,o≠.tbl ps)→H' x=some o:=fun x o nx e nt=>g.hh.keep x o (mid x o nx e) nt
 have nk:∀ x o,H x=some o→¬oY o→x∉fp:=fun x o e n z=>by
  obtain ⟨o',e',k⟩:=k1 x z
  rw [e] at e';cases e';exact n k
 have nf':∀ x o,x∉fp→H x=some o→x∉fp':=fun x o nx e z=>by
  have:=(k3 x z).2.1;rw [bP nx,e] at this;cases this
 have tabs:∀ P q,Tab P q H→Tab P q H':=fun P q t=>g.hh.tab P q (t.tr fun x o e n=>mid x o (nk x o e n) e)
 have own:∀ x o,H1 x=none→H x=some o→x∉fp∧plus (less H1 fp) H' fp' x=none:=fun x o e1 e=>by
  have nx:x∉fp:=fun z=>k2 x z e1
  exact ⟨nx,by rw [aU (nf' x o nx e),bP nx,e1]⟩
 have gn:∀ x o,x∉fp→H x=some o→G x=none→G' x=none:=fun x o nx e n=>g.new x n (by rw [mid x o nx e];simp)
 refine ⟨⟨R.grow.gg.trans g.gg,⟨fun x o e nt=>?_,fun x ps e=>?_,fun P q t=>?_⟩,g.sub,fun x e n=>?_,fun z=>g.nt (R.grow.nt z)⟩,R.len,fun i o e h1 h2=>?_,R.inj.other fun j a' dss h1 h2 vs e=>?_,⟨fun x hx c P e=>tabs _ _ (R.tab.1 x hx c P e),g.nt R.tab.2⟩⟩
 ·by_cases h':x∈fp'
  ·rw [bX h'] at e;exact e
  ·rw [aU h'] at e
   by_cases h:x∈fp
   ·rw [dZ h] at e;cases e
   ·rw [bP h] at e
    exact keep x o h (R.grow.hh.keep x o e nt) nt
 ·by_cases h':x∈fp'
  ·rw [bX h'] at e;exact ⟨ps,e⟩
  ·rw [aU h'] at e
   by_cases h:x∈fp
   ·rw [dZ h] at e;cases e
   ·rw [bP h] at e
    obtain ⟨p1,e1⟩:=R.grow.hh.tbl x ps e
    exact g.hh.tbl x p1 (mid x _ h e1)
 ·refine tabs P q (R.grow.hh.tab P q (t.tr fun x o e n=>?_))
  by_cases h':x∈fp'
  ·rw [bX h'] at e
   obtain ⟨o',e',k⟩:=(k3 x h').1
   rw [e] at e';cases e';exact absurd k n
  ·rw [aU h'] at e
   by_cases h:x∈fp
   ·rw [dZ h] at e;cases e
   ·rw [bP h] at e;exact e
 ·by_cases h':x∈fp'
  ·exact (k3 x h').2.2
  ·rw [aU h'] at n
   by_cases h:x∈fp
   ·rw [dZ h] at n;exact absurd rfl n
   ·rw [bP h] at n
    cases q:H1 x with
    | none=>exact absurd q n
    | some o=>
     obtain ⟨o',e'⟩:=R.grow.hh.ne q
     exact gn x o' h e' (R.grow.new x e n)
 ·have E:=R.ent i o e h1 h2
  cases e with
  | no=>trivial
  | val d=>obtain ⟨v,z,rv⟩:=E;exact ⟨v,z,rv.mono g.gg⟩
  | lst es=>
   obtain ⟨x,xs,z,g1,g2,g3,rv⟩:=E
   obtain ⟨nx,n'⟩:=own x _ g3 g1
   exact ⟨x,xs,z,keep x _ nx g1 (by nofun),gn x _ nx g1 g2,n',rv.mono g.gg⟩
  | exc c=>obtain ⟨x,C,z,g1,g2⟩:=E;exact ⟨x,C,z,g1,keep x _ (nk x _ g2 (fun z=>z)) g2 (by unfold xcO;nofun)⟩
  | nst dss=>
   obtain ⟨x,bs,z,g1,g2,g3,g4,g5,r⟩:=E
   obtain ⟨nx,n'⟩:=own x _ g3 g1
   refine ⟨x,bs,z,keep x _ nx g1 (by nofun),gn x _ nx g1 g2,n',g4,g5,Paired.mapP r fun y ds ⟨xs,x1,x2,x3,x4⟩=>?_⟩
   obtain ⟨ny,n2⟩:=own y _ x3 x1
   exact ⟨xs,keep y _ ny x1 (by nofun),gn y _ ny x1 x2,n2,x4.mono g.gg⟩
  | dct kvs=>
   obtain ⟨x,vs,z,g1,g2,g3,r⟩:=E
   obtain ⟨nx,n'⟩:=own x _ g3 g1
   exact ⟨x,vs,z,keep x _ nx g1 (by nofun),gn x _ nx g1 g2,n',r.mono g.gg⟩
  | adr a=>exact E
  | ro oa b=>exact absurd h2 (b1k hn)
 ·obtain ⟨x,bs,e1,e2,_,e3,_⟩:=R.ent j _ _ h1 h2
  cases e1
  rw [keep _ _ (own _ _ e3 e2).1 e2 (by nofun)] at e
  cases e
  exact e2
theorem a0e:∀ {β:Sto} {fps:List (List Addr)},Paired (fun (p:Addr×BS) fp=>BOk K G H p.1 p.2 fp) β fps→dG β a=some b →
  ∃ β1 β2 f1 f2 fp,fps=f1++fp::f2∧Paired (fun (p:Addr×BS) fp=>BOk K G H p.1 p.2 fp) β1 f1∧BOk K G H a b fp∧Paired (fun (p:Addr×BS) fp=>BOk K G H p.1 p.2 fp) β2 f2∧∀ b',fO β a b'=β1++(a,b')::β2
 | _,_,.nil,e=>nomatch e
 | p::β,_,.cons (l₂:=fs) r t,e=>by
  unfold dG at e
  split at e
  ·rename_i h
   cases (qA e)
   exact ⟨[],β,[],fs,_,rfl,.nil,h▸r,t,fun b'=>by unfold fO;rw [if_pos h];rfl⟩
  ·rename_i h
   obtain ⟨β1,β2,f1,f2,fp,e1,p1,r',p2,e2⟩:=a0e t e
   exact ⟨p::β1,β2,_::f1,f2,fp,by rw [e1];rfl,.cons r p1,r',p2,fun b'=>by unfold fO;rw [if_neg h,e2];rfl⟩
theorem wQ {α β:Type} {F:α→β→Prop}:∀ {l l':List α} {m m':List β},Paired F l m→Paired F l' m'→Paired F (l++l') (m++m')
 | _,_,_,_,.nil,h=>h
 | _,_,_,_,.cons r t,h=>.cons r (wQ t h)
theorem aR.chg (R:aR K H0 G₀ G H σ ρ β) (hn:dU ρ=true) (hg:dG β a=some b):∃ fp,BOk K G H a b fp∧(∀ x∈fp,G x=none)∧∀ (G' H':Hp) (b':BS) (fp':List Addr),BOk K G' H' a b' fp'→(∀ x∈fp',less H fp x=none∧G' x=none)→Grow G (plus (less H fp) H' fp') G' H'→aR K H0 G₀ G' H' σ ρ (fO β a b'):=by
 obtain ⟨fps,S,R⟩:=R
 obtain ⟨β1,β2,f1,f2,fp,rfl,p1,hb,p2,es⟩:=a0e S.each hg
 have mem:∀ x,x∈(f1++fp::f2).flatten↔x∈f1.flatten∨x∈fp∨x∈f2.flatten:=fun x=>by rw [kl,qe,qg,qg]
 refine ⟨fp,hb,fun x hx=>(S.out x ((mem x).mpr (.inr (.inl hx)))).2,fun G' H' b' fp' hb' k3 g=>?_⟩
 have nd:=S.nd
 rw [kl,qe,jh,jh] at nd
 obtain ⟨nd1,⟨ndp,nd2,dp2⟩,d1⟩:=nd
 have o1:∀ x∈f1.flatten,x∉fp:=fun x hx z=>d1 x hx x (jD _ z) rfl
 have o2:∀ x∈f2.flatten,x∉fp:=fun x hx z=>dp2 x z x hx rfl
 have k:∀ x∈(f1++fp::f2).flatten,∃ o,H x=some o∧oY o:=S.kind
 have oth:∀ x,x∈f1.flatten∨x∈f2.flatten→x∉fp∧x∉fp'∧H' x=H x∧(∃ o,H x=some o∧oY o)∧G' x=none∧H0 x=none:=fun x hx=>by
  have hm:x∈(f1++fp::f2).flatten:=(mem x).mpr (hx.elim .inl fun z=>.inr (.inr z))
  have nx:x∉fp:=hx.elim (o1 x) (o2 x)
  obtain ⟨o,e,ko⟩:=k x hm
  have nx':x∉fp':=fun z=>by have:=(k3 x z).1;rw [bP nx,e] at this;cases this
  have m:plus (less H fp) H' fp' x=some o:=by rw [aU nx',bP nx,e]
  exact ⟨nx,nx',by rw [e,g.hh.keep x o m ko.nt],⟨o,e,ko⟩,g.new x (S.out x hm).2 (by rw [m];simp),(S.out x hm).1⟩
 have R':=RepS.back R hn (fun x hx=>k x ((mem x).mpr (.inr (.inl hx)))) (fun x hx=>by
  rw [bX ((mem x).mpr (.inr (.inl hx)))]
  obtain ⟨o,e,_⟩:=k x ((mem x).mpr (.inr (.inl hx)))
  rw [e];simp) (fun x hx=>⟨hb'.kind x hx,(k3 x hx).1,(k3 x hx).2⟩) g
 have mem':∀ x,x∈(f1++fp'::f2).flatten↔x∈f1.flatten∨x∈fp'∨x∈f2.flatten:=fun x=>by rw [kl,qe,qg,qg]
 have eq:plus (less (plus H0 H (f1++fp::f2).flatten) fp) H' fp'=plus H0 H' (f1++fp'::f2).flatten:=by
  funext x
  by_cases h1:x∈fp'
  ·rw [bX h1,bX ((mem' x).mpr (.inr (.inl h1)))]
  ·by_cases h2:x∈f1.flatten∨x∈f2.flatten
   ·obtain ⟨nx,nx',e,_⟩:=oth x h2
    rw [aU h1,bP nx,bX ((mem x).mpr (h2.elim .inl fun z=>.inr (.inr z))),bX ((mem' x).mpr (h2.elim .inl fun z=>.inr (.inr z))),e]
   ·have n':x∉(f1++fp'::f2).flatten:=fun z=>((mem' x).mp z).elim (fun z=>h2 (.inl z)) fun z=>z.elim h1 fun z=>h2 (.inr z)
    rw [aU h1,aU n']
    by_cases h3:x∈fp
    ·rw [dZ h3,(S.out x ((mem x).mpr (.inr (.inl h3)))).1]
    ·rw [bP h3,aU (fun z=>((mem x).mp z).elim (fun z=>h2 (.inl z)) fun z=>z.elim h3 fun z=>h2 (.inr z))]
 refine ⟨f1++fp'::f2,⟨?_,?_,fun x hx=>?_⟩,by rw [←eq];exact R'⟩
 ·rw [es]
  have kp:∀ f:List (List Addr),(∀ x∈f.flatten,x∈f1.flatten∨x∈f2.flatten)→∀ {βx:Sto},Paired (fun (p:Addr×BS) fp=>BOk K G H p.1 p.2 fp) βx f→Paired (fun (p:Addr×BS) fp=>BOk K G' H' p.1 p.2 fp) βx f:=fun f hf βx pp=>
   oH pp fun p q hq r=>r.keep (fun x o hx e _=>by rw [(oth x (hf x (vF.mpr ⟨q,hq,hx⟩))).2.2.1];exact e) g.gg
  exact wQ (kp f1 (fun x hx=>.inl hx) p1) (.cons hb' (kp f2 (fun x hx=>.inr hx) p2))
 ·rw [kl,qe,jh,jh]
  refine ⟨nd1,⟨hb'.nd,nd2,fun x hx y hy z=>?_⟩,fun x hx y hy z=>?_⟩
  ·subst z;exact (oth x (.inr hy)).2.1 hx
  ·subst z
   rcases qg.mp hy with z | z
   ·exact (oth x (.inl hx)).2.1 z
   ·exact d1 x hx x (qW _ z) rfl
 ·rcases (mem' x).mp hx with z | z | z
  ·exact ⟨(oth x (.inl z)).2.2.2.2.2,(oth x (.inl z)).2.2.2.2.1⟩
  ·refine ⟨?_,(k3 x z).2⟩
   by_cases h3:x∈fp
   ·exact (S.out x ((mem x).mpr (.inr (.inl h3)))).1
   ·have hx:=(k3 x z).1
    rw [bP h3] at hx
    have n':x∉(f1++fp::f2).flatten:=fun w=>by obtain ⟨o,e,_⟩:=k x w;rw [hx] at e;cases e
    have:=R.grow.hh.free hx
    rw [aU n'] at this;exact this
  ·exact ⟨(oth x (.inr z)).2.2.2.2.2,(oth x (.inr z)).2.2.2.2.1⟩
theorem vM (s:aM G H') (k:∀ x o,x∉fp→H x=some o→H' x=some o):Grow G (plus (less H fp) H' fp') G H':=
 ⟨.refl _,.of fun x o e=>by
  by_cases h:x∈fp'
  ·rw [bX h] at e;exact e
  ·rw [aU h] at e
   by_cases h2:x∈fp
   ·rw [dZ h2] at e;cases e
   ·rw [bP h2] at e;exact k x o h2 e,s,fun _ z _=>z,id⟩
end
end L2.L3
namespace L2.L3
open PySem PySem.Spec PySem.Calls PyProof.Rows
structure BCls (K:qB):Prop where
 cl:Cls K (fG K)
 n1:lK K (fG K) "sheets"
 n2:lK K (fG K) "done"
 n3:lK K (fG K) "undone"
theorem RepS.ro {K:qB} {H0 G₀ G H:Hp} {σ:St} {ρ:List Ent} {i:Nat} {oa:Option Addr} {b:BS} (R:RepS K H0 G₀ G H σ ρ) (h:ρ[i]?=some (.ro oa b)):∃ a dx d l1 l2 vs xs ys,σ[i]?=some (some (.ref a))∧H a=some (.ins (fG K) dx (bFs d l1 l2)) ∧
  H d=some (.dK vs)∧H l1=some (.lst xs)∧H l2=some (.lst ys)∧cY K G vs b.sh∧RepAll K G xs b.dn∧RepAll K G ys b.un:=by
 obtain ⟨o,e,a,fp,rfl,_,⟨dx,d,l1,l2,vs,xs,ys,_,_,h1,_,h3,h4,h5,r1,r2,r3⟩,_⟩:=R.at h
 exact ⟨a,dx,d,l1,l2,vs,xs,ys,e,h1,h3,h4,h5,r1,r2,r3⟩
def bD (b:BS):List (PyData×PyData):=b.sh.map fun p=>(lG p.1,p.2)
def inF (i:Nat) (fk:EF):EF:=fun ρ=>match ρ[i]? with
 | some (.ro _ b)=>bnd (fk ρ) fun k=>(match rP k with | some k=>some (.ok (.bool (eI k (bD b)).isSome)) | none=>none)
 | _=>none
def b4w (i:Nat) (fk:EF):TF:=fun ρ=>match ρ[i]? with
 | some (.ro _ b)=>bnd (fk ρ) fun k=>(match rP k with | some k=>some (.ok (!(eI k (bD b)).isSome)) | none=>none)
 | _=>none
def ixF (i:Nat) (fk:EF):EF:=fun ρ=>match ρ[i]? with
 | some (.ro _ b)=>bnd (fk ρ) fun k=>(match rP k with | some k=>lft (eI k (bD b)) | none=>none)
 | _=>none
def b5c (i:Nat) (fk:EF):EF:=fun ρ=>match ρ[i]? with
 | some (.ro _ b)=>bnd (fk ρ) fun k=>lft (b6Y (bD b) k .none)
 | _=>none
def b3E (i:Nat):EF:=fun ρ=>match ρ[i]? with
 | some (.ro _ b)=>lft (a4P [.dict (bD b)])
 | _=>none
def BS.ls (u:Bool) (b:BS):List PyData:=if u then b.un else b.dn
def fNm (u:Bool):Str:=if u then "undone" else "done"
def emF (u:Bool) (i:Nat):TF:=fun ρ=>match ρ[i]? with
 | some (.ro _ b)=>some (.ok (b.ls u).isEmpty)
 | _=>none
def b1w (u:Bool) (i:Nat):EF:=fun ρ=>match ρ[i]? with
 | some (.ro _ b)=>some (.ok (.int ((b.ls u).length:Nat)))
 | _=>none
section
variable {X:Cx} {e kx:Expr} {fa fk:EF} {pos p p2 p3 ap cp:Pos} {x:Str}
theorem b5u (i:Nat) (B:BCls X.K) (hu:X.A.units+64<cLine) (hk:DE X e fk) (hN:X.N[i]?=some x:=by rfl)
  (hv:Vis X.env.scope x:=by first | exact qu rfl | exact qf (qu rfl) | exact qf (qf rfl)) (hd:(x==("__debug__" : Str))=false:=by decide) (hcd:(x==("__classdict__" : Str))=false:=by decide)
  (hb:attributeBase (.Name x p) "sheets" X.env (eval (.Name x p) X.env)=eval (.Name x p) X.env:=by rfl) (hm:behindInMarks .In (.Attribute (.Name x p) "sheets" p2)=false:=by rfl) :
  DE X (.Compare e [.In] [.Attribute (.Name x p) "sheets" p2] pos) (inF i fk):=⟨fun pins s σ H Q I ⟨ρ,r,H0,G₀,G,ef,R,q⟩=>b3T (b3Y (by omega) hk.run (iB (cB hN hv hd hcd) hb)) hm pins s σ H Q I (by
 unfold inF at ef
 split at ef
 ·rename_i oa b hi
  refine bE R ef q.x fun k u G1 H1 g1 R1 ru e1=>?_
  obtain ⟨a,dx,d,l1,l2,vs,xs,ys,ea,h1,h2,h3,h4,r1,r2,r3⟩:=R1.ro hi
  split at e1
  ·rename_i key hk'
   cases (qA e1)
   rw [oO hk'] at ru
   cases oF ru
   refine ⟨.ref a,ea,a,_,dx,_,.ref d,rfl,h1,B.cl,B.n1,rfl,d,mY vs key,rfl,.inl ⟨vs,key,.inl h2,rfl,rfl⟩,?_⟩
   rw [tM r1.keys r1.vals];exact q _ _ _ g1 (.bool _)
  ·cases e1
 ·cases ef)⟩
theorem b1Z (i:Nat) (B:BCls X.K) (hu:X.A.units+64<cLine) (hk:DE X e fk) (hN:X.N[i]?=some x:=by rfl)
  (hv:Vis X.env.scope x:=by first | exact qu rfl | exact qf (qu rfl) | exact qf (qf rfl)) (hd:(x==("__debug__" : Str))=false:=by decide) (hcd:(x==("__classdict__" : Str))=false:=by decide)
  (hb:attributeBase (.Name x p) "sheets" X.env (eval (.Name x p) X.env)=eval (.Name x p) X.env:=by rfl) (hm:behindInMarks .NotIn (.Attribute (.Name x p) "sheets" p2)=false:=by rfl) :
  DT X (.Compare e [.NotIn] [.Attribute (.Name x p) "sheets" p2] pos) (b4w i fk):=⟨fun pins s σ H Q I ⟨ρ,r,H0,G₀,G,ef,R,q⟩=>b3O (a6z (by omega) hk.run (iB (cB hN hv hd hcd) hb)) hm pins s σ H Q I (by
 unfold b4w at ef
 split at ef
 ·rename_i oa b hi
  refine bE R ef q.x fun k u G1 H1 g1 R1 ru e1=>?_
  obtain ⟨a,dx,d,l1,l2,vs,xs,ys,ea,h1,h2,h3,h4,r1,r2,r3⟩:=R1.ro hi
  split at e1
  ·rename_i key hk'
   cases (qA e1)
   rw [oO hk'] at ru
   cases oF ru
   refine ⟨.ref a,ea,a,_,dx,_,.ref d,rfl,h1,B.cl,B.n1,rfl,d,mY vs key,rfl,.inl ⟨vs,key,.inl h2,rfl,rfl⟩,_,rfl,?_⟩
   rw [tM r1.keys r1.vals];exact q _ _ g1
  ·cases e1
 ·cases ef)⟩
theorem b5t (i:Nat) (B:BCls X.K) (hk:DE X kx fk) (hN:X.N[i]?=some x:=by rfl)
  (hv:Vis X.env.scope x:=by first | exact qu rfl | exact qf (qu rfl) | exact qf (qf rfl)) (hd:(x==("__debug__" : Str))=false:=by decide) (hcd:(x==("__classdict__" : Str))=false:=by decide)
  (hb:attributeBase (.Name x p) "sheets" X.env (eval (.Name x p) X.env)=eval (.Name x p) X.env:=by rfl) (hs:a2j kx:=by exact fun _ _=>rfl) :
  DE X (.Subscript (.Attribute (.Name x p) "sheets" p2) kx pos) (ixF i fk):=⟨fun pins s σ H Q I ⟨ρ,r,H0,G₀,G,ef,R,q⟩=>b2O b1F (iB (cB hN hv hd hcd) hb) hk.run hs pins s σ H Q I (by
 unfold ixF at ef
 split at ef
 ·rename_i oa b hi
  obtain ⟨a,dx,d,l1,l2,vs,xs,ys,ea,h1,h2,h3,h4,r1,r2,r3⟩:=R.ro hi
  refine ⟨.ref a,ea,a,_,dx,_,.ref d,rfl,h1,B.cl,B.n1,rfl,bE R ef q.x fun k u G1 H1 g1 R1 ru e1=>?_⟩
  split at e1
  ·rename_i key hk'
   obtain ⟨v,ev,rfl⟩:=aW e1
   rw [oO hk'] at ru
   cases oF ru
   have r1':=r1.mono g1.gg
   obtain ⟨w,ew,rw'⟩:=oI r1'.keys r1'.vals ev
   exact ⟨d,vs,key,w,rfl,rfl,.inl (g1.hh.keep d _ h2 (by nofun)),ew,q w _ _ g1 rw'⟩
  ·cases e1
 ·cases ef)⟩
theorem b2f (i:Nat) (B:BCls X.K) (hu:X.A.units+64<cLine) (hk:DE X e fk) (hN:X.N[i]?=some x:=by rfl)
  (hv:Vis X.env.scope x:=by first | exact qu rfl | exact qf (qu rfl) | exact qf (qf rfl)) (hd:(x==("__debug__" : Str))=false:=by decide) (hcd:(x==("__classdict__" : Str))=false:=by decide)
  (hb:attributeBase (.Name x p) "sheets" X.env (eval (.Name x p) X.env)=eval (.Name x p) X.env:=by rfl) (m:M1 X (.Attribute (.Name x p) "sheets" p2) "get" ap e cp:=by exact ⟨rfl,rfl,rfl,rfl⟩) :
  DE X (.Call (.Attribute (.Attribute (.Name x p) "sheets" p2) "get" ap) [e] [] cp) (b5c i fk):=⟨fun pins s σ H Q I ⟨ρ,r,H0,G₀,G,ef,R,q⟩=>a8t (by omega) (iB (cB hN hv hd hcd) hb) hk.run m pins s σ H Q I (by
 unfold b5c at ef
 split at ef
 ·rename_i oa b hi
  obtain ⟨a,dx,d,l1,l2,vs,xs,ys,ea,h1,h2,h3,h4,r1,r2,r3⟩:=R.ro hi
  refine ⟨.ref a,ea,a,_,dx,_,.ref d,rfl,h1,B.cl,B.n1,rfl,d,rfl,.inl ⟨vs,.inl h2⟩,bE R ef q.x fun k u G1 H1 g1 R1 ru e1=>?_⟩
  obtain ⟨v,ev,rfl⟩:=aW e1
  unfold b6Y at ev
  split at ev
  ·rename_i key hk'
   cases (qA ev)
   rw [oO hk'] at ru
   cases oF ru
   have r1':=r1.mono g1.gg
   exact ⟨_,.inl ⟨vs,key,.inl (g1.hh.keep d _ h2 (by nofun)),rfl,rfl⟩,q _ _ _ g1 (a8Y r1'.keys r1'.vals .none)⟩
  ·cases ev
 ·cases ef)⟩
theorem b2c (i:Nat) (hc:X.calm=true) (B:BCls X.K) (hm:X.mg "sorted" = none) (hN:X.N[i]?=some x:=by rfl)
  (hv:Vis X.env.scope x:=by first | exact qu rfl | exact qf (qu rfl) | exact qf (qf rfl)) (hd:(x==("__debug__" : Str))=false:=by decide) (hcd:(x==("__classdict__" : Str))=false:=by decide)
  (hb:attributeBase (.Name x p) "sheets" X.env (eval (.Name x p) X.env)=eval (.Name x p) X.env:=by rfl) (hg:Gl X "sorted":=by rfl)
  (he:starEach [.Attribute (.Name x p) "sheets" p2] X.env=(false,eval (.Attribute (.Name x p) "sheets" p2) X.env)::starEach [] X.env:=by rfl) (hpl:(backTo pos (starEach [] X.env)).any (·.1)=false:=by rfl) :
  DE X (.Call (.Name "sorted" p3) [.Attribute (.Name x p) "sheets" p2] [] pos) (b3E i):=⟨fun pins s σ H Q I ⟨ρ,r,H0,G₀,G,ef,R,q⟩=>lO (a1X hc) hg hm boot_sorted (cQ (iB (cB hN hv hd hcd) hb) dR he) (by decide) (by decide) he hpl pins s σ H Q I (by
 unfold b3E at ef
 split at ef
 ·rename_i oa b hi
  obtain ⟨a,dx,d,l1,l2,vs,xs,ys,ea,h1,h2,h3,h4,r1,r2,r3⟩:=R.ro hi
  obtain ⟨dd,ed,rfl⟩:=aW ef
  unfold a4P at ed
  dsimp only at ed
  split at ed
  ·rename_i ns en
   split at ed
   ·rename_i hl
    cases (qA ed)
    refine ⟨.ref a,ea,a,_,dx,_,.ref d,rfl,h1,B.cl,B.n1,rfl,d,vs,ns,rfl,.inl h2,a0C (r1.keys.symm.trans (a5U en)),hl,fun l hl=>q _ _ _ (.put R.sub hl) (.list (.of aJ) (mO _))⟩
   ·cases ed
  ·cases ed
 ·cases ef)⟩
theorem rY (u:Bool) (d l1 l2:Addr):(bFs d l1 l2).lookup (fNm u)=some (.ref (if u then l2 else l1)):=by cases u<;>rfl
theorem BCls.nl {K:qB} (B:BCls K) (u:Bool):lK K (fG K) (fNm u):=by cases u;exact B.n2;exact B.n3
theorem a5q {K:qB} {G H:Hp} {b:BS} {l1 l2:Addr} {xs ys:List V} (u:Bool) (h3:H l1=some (.lst xs)) (h4:H l2=some (.lst ys)) (r2:RepAll K G xs b.dn) (r3:RepAll K G ys b.un):∃ zs,H (if u then l2 else l1)=some (.lst zs)∧RepAll K G zs (b.ls u):=by
 cases u
 ·exact ⟨xs,h3,r2⟩
 ·exact ⟨ys,h4,r3⟩
theorem a9K (u:Bool) (i:Nat) (B:BCls X.K) (hN:X.N[i]?=some x:=by rfl)
  (hv:Vis X.env.scope x:=by first | exact qu rfl | exact qf (qu rfl) | exact qf (qf rfl)) (hd:(x==("__debug__" : Str))=false:=by decide) (hcd:(x==("__classdict__" : Str))=false:=by decide)
  (hb:attributeBase (.Name x p) (fNm u) X.env (eval (.Name x p) X.env)=eval (.Name x p) X.env:=by rfl)
  (he:∀ whole,isTrue (.Attribute (.Name x p) (fNm u) p2) X.env whole=(do let v ←whole;standAt (Expr.Attribute (.Name x p) (fNm u) p2).pos;holding [v] (truthy v)):=by intro _;rfl) :
  DT X (.UnaryOp .Not (.Attribute (.Name x p) (fNm u) p2) pos) (emF u i):=⟨fun pins s σ H Q I ⟨ρ,r,H0,G₀,G,ef,R,q⟩=>a8e (a2E (iB (cB hN hv hd hcd) hb) he) pins s σ H Q I (by
 unfold emF at ef
 split at ef
 ·rename_i oa b hi
  cases (qA ef)
  obtain ⟨a,dx,d,l1,l2,vs,xs,ys,ea,h1,h2,h3,h4,r1,r2,r3⟩:=R.ro hi
  obtain ⟨zs,hz,rz⟩:=a5q u h3 h4 r2 r3
  refine ⟨.ref a,ea,a,_,dx,_,_,rfl,h1,B.cl,B.nl u,rY u d l1 l2,!zs.isEmpty,.inl ⟨zs,.of hz,rfl⟩,?_⟩
  show Q (!(!zs.isEmpty)) H
  rw [Bool.not_not,←tH rz]
  exact q G H (.refl R.sub)
 ·cases ef)⟩
theorem a5M (u:Bool) (i:Nat) (B:BCls X.K) (hm:X.mg "len" = none) (hN:X.N[i]?=some x:=by rfl)
  (hv:Vis X.env.scope x:=by first | exact qu rfl | exact qf (qu rfl) | exact qf (qf rfl)) (hd:(x==("__debug__" : Str))=false:=by decide) (hcd:(x==("__classdict__" : Str))=false:=by decide)
  (hb:attributeBase (.Name x p) (fNm u) X.env (eval (.Name x p) X.env)=eval (.Name x p) X.env:=by rfl) (hg:Gl X "len":=by rfl)
  (he:starEach [.Attribute (.Name x p) (fNm u) p2] X.env=(false,eval (.Attribute (.Name x p) (fNm u) p2) X.env)::starEach [] X.env:=by rfl) (hpl:(backTo pos (starEach [] X.env)).any (·.1)=false:=by rfl) :
  DE X (.Call (.Name "len" p3) [.Attribute (.Name x p) (fNm u) p2] [] pos) (b1w u i):=⟨fun pins s σ H Q I ⟨ρ,r,H0,G₀,G,ef,R,q⟩=>lO mU hg hm boot_len (cQ (iB (cB hN hv hd hcd) hb) dR he) (by decide) (by decide) he hpl pins s σ H Q I (by
 unfold b1w at ef
 split at ef
 ·rename_i oa b hi
  cases (qA ef)
  obtain ⟨a,dx,d,l1,l2,vs,xs,ys,ea,h1,h2,h3,h4,r1,r2,r3⟩:=R.ro hi
  obtain ⟨zs,hz,rz⟩:=a5q u h3 h4 r2 r3
  refine ⟨.ref a,ea,a,_,dx,_,_,rfl,h1,B.cl,B.nl u,rY u d l1 l2,_,zs,rfl,.inl (.of hz),?_⟩
  rw [rz.length]
  exact q _ G H (.refl R.sub) (.int _)
 ·cases ef)⟩
end
def BS.setLs (u:Bool) (b:BS) (l:List PyData):BS:=if u then { b with un:=l } else { b with dn:=l }
def xcS (m:Mm PyData) (ρ:List Ent) (β:Sto) (k:PyData→Option (So×Sto)):Option (So×Sto):=match m with
 | some (.ok d)=>k d
 | some (.ex c)=>some (.xc c ρ,β)
 | none=>none
theorem b3j {m:Mm PyData} {ρ:List Ent} {β:Sto} {k:PyData→Option (So×Sto)} {r:So×Sto} (h:xcS m ρ β k=some r):(∃ d,m=some (.ok d)∧k d=some r)∨∃ c,m=some (.ex c)∧r=(.xc c ρ,β):=by
 match m,h with
 | some (.ok d),h=>exact .inl ⟨d,rfl,h⟩
 | some (.ex c),h=>exact .inr ⟨c,rfl,(qA h).symm⟩
 | none,h=>cases h
def a4J (u:Bool) (i:Nat) (fa:EF):OSF:=fun ρ β=>match ρ[i]? with
 | some (.adr a)=>(match dG β a with
  | some b=>xcS (fa (vw β ρ)) ρ β fun d=>if dA (b.ls u).length&&dU ρ then some (.nx ρ,fO β a (b.setLs u (b.ls u++[d]))) else none
  | none=>none)
 | _=>none
def a9X (i:Nat):OSF:=fun ρ β=>match ρ[i]? with
 | some (.adr a)=>(match dG β a with
  | some b=>if dU ρ then some (.nx ρ,fO β a { b with un:=[] }) else none
  | none=>none)
 | _=>none
def a2D (i:Nat) (fk fv:EF):OSF:=fun ρ β=>match ρ[i]? with
 | some (.adr a)=>(match dG β a with
  | some b=>xcS (fv (vw β ρ)) ρ β fun d=>xcS (fk (vw β ρ)) ρ β fun k=>(match rP k with
   | some k=>if dA b.sh.length&&dU ρ then some (.nx ρ,fO β a { b with sh:=a0m b.sh k d }) else none
   | none=>none)
  | none=>none)
 | _=>none
def a2H (i:Nat) (fk:EF):OSF:=fun ρ β=>match ρ[i]? with
 | some (.adr a)=>(match dG β a with
  | some b=>xcS (fk (vw β ρ)) ρ β fun k=>(match rP k with
   | some k=>if (eI k (bD b)).isSome&&dU ρ then some (.nx ρ,fO β a { b with sh:=xT b.sh k }) else none
   | none=>none)
  | none=>none)
 | _=>none
def a0n (u:Bool) (i j:Nat):OSF:=fun ρ β=>match ρ[i]? with
 | some (.adr a)=>(match dG β a with
  | some b=>(match (b.ls u)[(b.ls u).length - 1]? with
   | some d=>if dU ρ then some (.nx (ρ.set j (.val d)),fO β a (b.setLs u (b.ls u).dropLast)) else none
   | none=>none)
  | none=>none)
 | _=>none
section
variable {K:qB} {H0 G₀ G H:Hp} {σ:St} {ρ:List Ent} {β:Sto} {a:Addr} {b:BS}
theorem aR.adr {i:Nat} (R:aR K H0 G₀ G H σ ρ β) (h:ρ[i]?=some (.adr a)):σ[i]?=some (some (.ref a)):=by
 obtain ⟨fps,S,R⟩:=R
 obtain ⟨o,e,z⟩:=R.at h
 rw [e];exact congrArg some z
theorem aR.ob (R:aR K H0 G₀ G H σ ρ β) (hg:dG β a=some b):∃ dx d l1 l2 vs xs ys,H a=some (.ins (fG K) dx (bFs d l1 l2))∧H d=some (.dK vs)∧H l1=some (.lst xs)∧H l2=some (.lst ys)∧cY K G vs b.sh∧RepAll K G xs b.dn∧RepAll K G ys b.un:=by
 obtain ⟨fps,S,R⟩:=R
 obtain ⟨fp,_,dx,d,l1,l2,vs,xs,ys,_,_,h1,_,h3,h4,h5,r1,r2,r3⟩:=a1h S.each hg
 exact ⟨dx,d,l1,l2,vs,xs,ys,h1,h3,h4,h5,r1,r2,r3⟩
theorem aR.ls (u:Bool) (R:aR K H0 G₀ G H σ ρ β) (hg:dG β a=some b):∃ dx d l1 l2 zs,H a=some (.ins (fG K) dx (bFs d l1 l2))∧H (if u then l2 else l1)=some (.lst zs)∧RepAll K G zs (b.ls u):=by
 obtain ⟨dx,d,l1,l2,vs,xs,ys,h1,h3,h4,h5,r1,r2,r3⟩:=R.ob hg
 obtain ⟨zs,hz,rz⟩:=a5q u h4 h5 r2 r3
 exact ⟨dx,d,l1,l2,zs,h1,hz,rz⟩
theorem aR.wrLs (u:Bool) (R:aR K H0 G₀ G H σ ρ β) (hn:dU ρ=true) (hg:dG β a=some b):∃ dx d l1 l2 zs,H a=some (.ins (fG K) dx (bFs d l1 l2))∧H (if u then l2 else l1)=some (.lst zs)∧RepAll K G zs (b.ls u) ∧
  ∀ zs' l,RepAll K G zs' l→aR K H0 G₀ G (upd H (if u then l2 else l1) (.lst zs')) σ ρ (fO β a (b.setLs u l)):=by
 have sub:=R.sub
 obtain ⟨fp,hb,hG,k⟩:=R.chg hn hg
 obtain ⟨dx,d,l1,l2,vs,xs,ys,rfl,n,h1,h2,h3,h4,h5,r1,r2,r3⟩:=hb
 obtain ⟨zs,hz,rz⟩:=a5q u h4 h5 r2 r3
 refine ⟨dx,d,l1,l2,zs,h1,hz,rz,fun zs' l rl=>?_⟩
 have hL:(if u then l2 else l1)∈[a,dx,d,l1,l2]:=by cases u<;>simp
 refine k G _ _ [a,dx,d,l1,l2] ?_ (fun x hx=>⟨dZ hx,hG x hx⟩) (vM (fun x o e=>?_) fun x o nx e=>?_)
 ·have o:∀ x,x≠(if u then l2 else l1)→∀ v,H x=some v→upd H (if u then l2 else l1) (.lst zs') x=some v:=fun x nx v e=>by rw [aG nx];exact e
  cases u with
  | false=>exact ⟨dx,d,l1,l2,vs,zs',ys,rfl,n,o a (bZ h1 h4 (by nofun)) _ h1,o dx (bZ h2 h4 (by nofun)) _ h2,o d (bZ h3 h4 (by nofun)) _ h3,aJ,o l2 (qr n) _ h5,r1,rl,r3⟩
  | true=>exact ⟨dx,d,l1,l2,vs,xs,zs',rfl,n,o a (bZ h1 h5 (by nofun)) _ h1,o dx (bZ h2 h5 (by nofun)) _ h2,o d (bZ h3 h5 (by nofun)) _ h3,o l1 n _ h4,aJ,r1,r2,rl⟩
 ·rw [aG (fun z=>by rw [z,hG _ hL] at e;cases e)];exact sub x o e
 ·rw [aG (fun z=>nx (by rw [z];exact hL))];exact e
theorem aR.wrSh (R:aR K H0 G₀ G H σ ρ β) (hn:dU ρ=true) (hg:dG β a=some b):∃ dx d l1 l2 vs,H a=some (.ins (fG K) dx (bFs d l1 l2))∧H d=some (.dK vs)∧cY K G vs b.sh ∧
  ∀ vs' sh',cY K G vs' sh'→aR K H0 G₀ G (upd H d (.dK vs')) σ ρ (fO β a { b with sh:=sh' }):=by
 have sub:=R.sub
 obtain ⟨fp,hb,hG,k⟩:=R.chg hn hg
 obtain ⟨dx,d,l1,l2,vs,xs,ys,rfl,n,h1,h2,h3,h4,h5,r1,r2,r3⟩:=hb
 refine ⟨dx,d,l1,l2,vs,h1,h3,r1,fun vs' sh' rl=>?_⟩
 have hL:d∈[a,dx,d,l1,l2]:=by simp
 refine k G _ _ [a,dx,d,l1,l2] ?_ (fun x hx=>⟨dZ hx,hG x hx⟩) (vM (fun x o e=>?_) fun x o nx e=>?_)
 ·have o:∀ x,x≠d→∀ v,H x=some v→upd H d (.dK vs') x=some v:=fun x nx v e=>by rw [aG nx];exact e
  exact ⟨dx,d,l1,l2,vs',xs,ys,rfl,n,o a (bZ h1 h3 (by nofun)) _ h1,o dx (bZ h2 h3 (by nofun)) _ h2,aJ,o l1 (bZ h4 h3 (by nofun)) _ h4,o l2 (bZ h5 h3 (by nofun)) _ h5,rl,r2,r3⟩
 ·rw [aG (fun z=>by rw [z,hG _ hL] at e;cases e)];exact sub x o e
 ·rw [aG (fun z=>nx (by rw [z];exact hL))];exact e
theorem aR.wrUn (R:aR K H0 G₀ G H σ ρ β) (hn:dU ρ=true) (hg:dG β a=some b) {l:Addr} (hl:H l=none):∃ dx d l1 l2,H a=some (.ins (fG K) dx (bFs d l1 l2)) ∧
  aR K H0 G₀ G (upd (upd H l (.lst [])) a (.ins (fG K) dx (bFs d l1 l))) σ ρ (fO β a { b with un:=[] }):=by
 have sub:=R.sub
 obtain ⟨fp,hb,hG,k⟩:=R.chg hn hg
 obtain ⟨dx,d,l1,l2,vs,xs,ys,rfl,n,h1,h2,h3,h4,h5,r1,r2,r3⟩:=hb
 refine ⟨dx,d,l1,l2,h1,?_⟩
 have nal:a≠l:=aL h1 hl
 have hL:a∈[a,dx,d,l1,l2]:=by simp
 have o:∀ x,x≠a→∀ v,H x=some v→upd (upd H l (.lst [])) a (.ins (fG K) dx (bFs d l1 l)) x=some v:=fun x nx v e=>by rw [aG nx,aG (aL e hl)];exact e
 refine k G _ _ [a,dx,d,l1,l] ?_ (fun x hx=>?_) (vM (fun x o e=>?_) fun x o nx e=>?_)
 ·exact ⟨dx,d,l1,l,vs,xs,[],rfl,aL h4 hl,aJ,o dx (qr (bZ h1 h2 (by nofun))) _ h2,o d (qr (bZ h1 h3 (by nofun))) _ h3,o l1 (qr (bZ h1 h4 (by nofun))) _ h4,by rw [aG (qr nal),aJ],r1,r2,.nil⟩
 ·by_cases z:x=l
  ·subst z
   refine ⟨?_,sub.free hl⟩
   by_cases w:x∈[a,dx,d,l1,l2]
   ·exact dZ w
   ·rw [bP w];exact hl
  ·have:x∈[a,dx,d,l1,l2]:=by simp only [qM,kA,or_false] at hx ⊢;rcases hx with rfl | rfl | rfl | rfl | rfl<;>simp_all
   exact ⟨dZ this,hG x this⟩
 ·rw [aG (fun z=>by rw [z,hG _ hL] at e;cases e),aG (aL (sub x o e) hl)];exact sub x o e
 ·rw [aG (fun z=>nx (by rw [z];exact hL)),aG (aL e hl)];exact e
end
section
variable {X:Cx} {e kx:Expr} {fa fk fv:EF} {pos p p2 p3 ap cp:Pos} {x:Str}
theorem vE {X:Cx} {fa:EF} {H0 G₀ G H:Hp} {σ:St} {ρ:List Ent} {β β':Sto} {D:Ends} {o:So} {k:PyData→Option (So×Sto)} {T:VK} {fps:List (List Addr)} (S:StoOk X.K H0 G H β fps) (R:RepS X.K (plus H0 H fps.flatten) G₀ G H σ ρ) (e:xcS (fa (vw β ρ)) ρ β k=some (o,β')) (q:lA X H0 G₀ G D β' o)
  (h:∀ x v G1 H1,Grow G H G1 H1→Rep X.K G1 v x→k x=some (o,β')→T v H1):rE X fa σ H T:=by
 rcases b3j e with ⟨x,e1,e2⟩ | ⟨c,e1,e2⟩
 ·exact ⟨_,_,_,G₀,G,e1,RepS.view S R,fun v G1 H1 g1 rv=>h x v G1 H1 g1 rv e2⟩
 ·cases e2
  exact ⟨_,_,_,G₀,G,e1,RepS.view S R,fun pins s' σ H' G' e I' R' g x=>q pins s' σ H' G' e I' (.of S R.grow.gg R'.unview g) g x⟩
theorem a1H {H:Hp} {a C dx dx' d d' l1 l1' l2 l2':Addr} (h:H a=some (.ins C dx (bFs d l1 l2))) (h':H a=some (.ins C dx' (bFs d' l1' l2'))):dx=dx'∧d=d'∧l1=l1'∧l2=l2':=by
 rw [h] at h'
 injection h' with h'
 injection h' with _ e1 e2
 unfold bFs at e2
 injection e2 with e2 e3
 injection e3 with e3 e4
 injection e4 with e4 _
 injection e2 with _ e2
 injection e3 with _ e3
 injection e4 with _ e4
 injection e2 with e2
 injection e3 with e3
 injection e4 with e4
 exact ⟨e1,e2,e3,e4⟩
theorem a1w (u:Bool) (i:Nat) (B:BCls X.K) (h:DE X e fa) (hN:X.N[i]?=some x:=by rfl)
  (hv:Vis X.env.scope x:=by first | exact qu rfl | exact qf (qu rfl) | exact qf (qf rfl)) (hd:(x==("__debug__" : Str))=false:=by decide) (hcd:(x==("__classdict__" : Str))=false:=by decide)
  (hb:attributeBase (.Name x p) (fNm u) X.env (eval (.Name x p) X.env)=eval (.Name x p) X.env:=by rfl)
  (hbase:attributeBase (.Attribute (.Name x p) (fNm u) p2) "append" X.env (eval (.Attribute (.Name x p) (fNm u) p2) X.env)=eval (.Attribute (.Name x p) (fNm u) p2) X.env:=by rfl)
  (hfew:((backTo cp (starEach (e::[]) X.env)).all (fun x=>!x.1)&&(backToKw cp (keywordEach [] X.env)).all (fun x=>x.1.isSome)&&decide ((e::[]).length+([]:List Keyword).length+(if ([]:List Keyword).isEmpty then 0 else 1)<30))=true:=by rfl)
  (hline:(ap.endLine==cp.line)=true:=by rfl) (hst:starEach (e::[]) X.env=(false,eval e X.env)::starEach [] X.env:=by rfl) (hplain:(backTo cp (starEach [] X.env)).any (·.1)=false:=by rfl)
  (hsw:swapsWith (.Call (.Attribute (.Attribute (.Name x p) (fNm u) p2) "append" ap) [e] [] cp) none pos.line X.env=pure false:=by rfl) :
  OS X (.Expr (.Call (.Attribute (.Attribute (.Name x p) (fNm u) p2) "append" ap) [e] [] cp) pos) (a4J u i fa):=⟨fun pins s σ H D I ⟨ρ,β,o,β',H0,G₀,G,ef,R,q⟩=>
 oG (a5j kG PySem.F.slot_list_append PySem.F.type_list_append tL (iB (cB hN hv hd hcd) hb) (cQ h.run dR hst) hbase hfew hline hst hplain) hsw pins s σ H D I (by
  unfold a4J at ef
  split at ef
  ·rename_i a hi
   have ea:=R.adr hi
   split at ef
   ·rename_i b hg
    obtain ⟨dx,d0,l1,l2,zs,h1,hz,rz⟩:=R.ls u hg
    obtain ⟨fps,S,R⟩:=R
    refine ⟨.ref a,ea,a,_,dx,_,_,rfl,h1,B.cl,B.nl u,rY u d0 l1 l2,.inl ⟨rfl,zs,.of hz⟩,vE S R ef q fun d v G1 H1 g1 rv e2=>?_⟩
    split at e2
    ·rename_i hc
     rw [qH] at hc
     cases (qA e2)
     have R1:aR X.K H0 G₀ G1 H1 σ ρ β:=.of S R.grow.gg (R.more g1) g1.gg
     obtain ⟨dx',d0',l1',l2',zs',h1',hz',rz',wr⟩:=R1.wrLs u hc.2 hg
     obtain ⟨rfl,rfl,rfl,rfl⟩:=a1H (g1.hh.keep a _ h1 (by nofun)) h1'
     exact ⟨_,zs',v,rfl,rfl,hz',by rw [rz'.length];exact a7O hc.1,q G1 _ σ g1.gg (wr _ _ (rz'.append (.cons rv .nil)))⟩
    ·cases e2
   ·cases ef
  ·cases ef)⟩
theorem b0H (d l1 l2 l:Addr):iA "undone" (.ref l) (bFs d l1 l2)=bFs d l1 l:=by
 unfold bFs
 simp only [iA]
 rw [if_neg (by decide),if_neg (by decide),if_pos trivial]
theorem b0X (i:Nat) (B:BCls X.K) (hN:X.N[i]?=some x:=by rfl)
  (hv:Vis X.env.scope x:=by first | exact qu rfl | exact qf (qu rfl) | exact qf (qf rfl)) (hd:(x==("__debug__" : Str))=false:=by decide) (hcd:(x==("__classdict__" : Str))=false:=by decide)
  (hs:swapsWith (.List [] p3) (some (.Attribute (.Name x p) "undone" p2)) pos.line X.env=pure false:=by rfl) :
  OS X (.Assign [.Attribute (.Name x p) "undone" p2] (.List [] p3) pos) (a9X i):=⟨fun pins s σ H D I ⟨ρ,β,o,β',H0,G₀,G,ef,R,q⟩=>
 a1s (cB hN hv hd hcd) (pF dR) hs pins s σ H D I (by
  unfold a9X at ef
  split at ef
  ·rename_i a hi
   have ea:=R.adr hi
   split at ef
   ·rename_i b hg
    split at ef
    ·rename_i hc
     cases (qA ef)
     refine ⟨jA _,fun l hl=>?_⟩
     obtain ⟨dx,d0,l1,l2,h1,wr⟩:=R.wrUn hc hg hl
     exact ⟨.ref a,ea,a,_,dx,bFs d0 l1 l2,rfl,by rw [aG (aL h1 hl)];exact h1,B.cl,B.n3,by show 3<1000;decide,q G _ σ (.refl _) (by rw [b0H];exact wr)⟩
    ·cases ef
   ·cases ef
  ·cases ef)⟩
theorem b0W (i:Nat) (B:BCls X.K) (hu:X.A.units+64<cLine) (hvl:DE X e fv) (hk:DE X kx fk) (hN:X.N[i]?=some x:=by rfl)
  (hv:Vis X.env.scope x:=by first | exact qu rfl | exact qf (qu rfl) | exact qf (qf rfl)) (hd:(x==("__debug__" : Str))=false:=by decide) (hcd:(x==("__classdict__" : Str))=false:=by decide)
  (hb:attributeBase (.Name x p) "sheets" X.env (eval (.Name x p) X.env)=eval (.Name x p) X.env:=by rfl)
  (hs:swapsWith e (some (.Subscript (.Attribute (.Name x p) "sheets" p2) kx p3)) pos.line X.env=pure false:=by rfl) :
  OS X (.Assign [.Subscript (.Attribute (.Name x p) "sheets" p2) kx p3] e pos) (a2D i fk fv):=⟨fun pins s σ H D I ⟨ρ,β,o,β',H0,G₀,G,ef,R,q⟩=>
 b0L (by omega) (iB (cB hN hv hd hcd) hb) hk.run hvl.run hs pins s σ H D I (by
  unfold a2D at ef
  split at ef
  ·rename_i a hi
   have ea:=R.adr hi
   split at ef
   ·rename_i b hg
    obtain ⟨fps,S,R⟩:=R
    refine vE S R ef q fun d v G1 H1 g1 rv e1=>?_
    have R1:aR X.K H0 G₀ G1 H1 σ ρ β:=.of S R.grow.gg (R.more g1) g1.gg
    obtain ⟨dx,d0,l1,l2,vs,xs,ys,h1,h3,h4,h5,r1,r2,r3⟩:=R1.ob hg
    obtain ⟨fps1,S1,R1⟩:=R1
    refine ⟨.ref a,ea,a,_,dx,_,.ref d0,rfl,h1,B.cl,B.n1,rfl,vE S1 R1 e1 (q.mono g1.gg) fun k u G2 H2 g2 ru e2=>?_⟩
    split at e2
    ·rename_i key hk'
     split at e2
     ·rename_i hc
      rw [qH] at hc
      cases (qA e2)
      rw [oO hk'] at ru
      cases oF ru
      have R2:aR X.K H0 G₀ G2 H2 σ ρ β:=.of S1 R1.grow.gg (R1.more g2) g2.gg
      obtain ⟨dx',d0',l1',l2',vs',h1',h3',r1',wr⟩:=R2.wrSh hc.2 hg
      obtain ⟨rfl,rfl,rfl,rfl⟩:=a1H (g2.hh.keep a _ h1 (by nofun)) h1'
      exact ⟨d0,_,rfl,.inl ⟨vs',key,h3',rfl,by rw [r1'.len];exact a7O hc.1,rfl⟩,q G2 _ σ (g1.gg.trans g2.gg) (wr _ _ (r1'.put (rv.mono g2.gg)))⟩
     ·cases e2
    ·cases e2
   ·cases ef
  ·cases ef)⟩
theorem a8B (i:Nat) (B:BCls X.K) (hk:DE X kx fk) (hN:X.N[i]?=some x:=by rfl)
  (hv:Vis X.env.scope x:=by first | exact qu rfl | exact qf (qu rfl) | exact qf (qf rfl)) (hd:(x==("__debug__" : Str))=false:=by decide) (hcd:(x==("__classdict__" : Str))=false:=by decide)
  (hb:attributeBase (.Name x p) "sheets" X.env (eval (.Name x p) X.env)=eval (.Name x p) X.env:=by rfl) (m:M1 X (.Attribute (.Name x p) "sheets" p2) "pop" ap kx cp:=by exact ⟨rfl,rfl,rfl,rfl⟩)
  (hsw:swapsWith (.Call (.Attribute (.Attribute (.Name x p) "sheets" p2) "pop" ap) [kx] [] cp) none pos.line X.env=pure false:=by rfl) :
  OS X (.Expr (.Call (.Attribute (.Attribute (.Name x p) "sheets" p2) "pop" ap) [kx] [] cp) pos) (a2H i fk):=⟨fun pins s σ H D I ⟨ρ,β,o,β',H0,G₀,G,ef,R,q⟩=>
 oG (a8r (iB (cB hN hv hd hcd) hb) hk.run m) hsw pins s σ H D I (by
  unfold a2H at ef
  split at ef
  ·rename_i a hi
   have ea:=R.adr hi
   split at ef
   ·rename_i b hg
    obtain ⟨dx,d0,l1,l2,vs,xs,ys,h1,h3,h4,h5,r1,r2,r3⟩:=R.ob hg
    obtain ⟨fps,S,R⟩:=R
    refine ⟨.ref a,ea,a,_,dx,_,.ref d0,rfl,h1,B.cl,B.n1,rfl,d0,rfl,.inl ⟨vs,.inl h3⟩,vE S R ef q fun k u G2 H2 g2 ru e2=>?_⟩
    split at e2
    ·rename_i key hk'
     split at e2
     ·rename_i hc
      rw [qH] at hc
      cases (qA e2)
      rw [oO hk'] at ru
      cases oF ru
      have R2:aR X.K H0 G₀ G2 H2 σ ρ β:=.of S R.grow.gg (R.more g2) g2.gg
      obtain ⟨dx',d0',l1',l2',vs',h1',h3',r1',wr⟩:=R2.wrSh hc.2 hg
      obtain ⟨rfl,rfl,rfl,rfl⟩:=a1H (g2.hh.keep a _ h1 (by nofun)) h1'
      have hs:(mY vs' key).isSome=true:=by rw [tM r1'.keys r1'.vals];exact hc.1
      obtain ⟨v,ev⟩:=Option.isSome_iff_exists.mp hs
      exact ⟨vs',key,v,h3',rfl,ev,q G2 _ σ g2.gg (wr _ _ r1'.drop)⟩
     ·cases e2
    ·cases e2
   ·cases ef
  ·cases ef)⟩
theorem a9t {K:qB} {G:Hp} {xs:List V} {ds:List PyData} {d:PyData} (r:RepAll K G xs ds) (h:ds[ds.length - 1]?=some d):(∃ v,xs[xs.length - 1]?=some v∧Rep K G v d)∧RepAll K G xs.dropLast ds.dropLast:=by
 refine ⟨by rw [r.length];exact r.get h,?_⟩
 rw [List.dropLast_eq_take,List.dropLast_eq_take,r.length]
 exact r.take _
theorem a2K (u:Bool) (i j:Nat) {y:Str} {yp:Pos} (B:BCls X.K) (hNd:X.N.Nodup) (hN:X.N[i]?=some x:=by rfl)
  (hv:Vis X.env.scope x:=by first | exact qu rfl | exact qf (qu rfl) | exact qf (qf rfl)) (hd:(x==("__debug__" : Str))=false:=by decide) (hcd:(x==("__classdict__" : Str))=false:=by decide)
  (hb:attributeBase (.Name x p) (fNm u) X.env (eval (.Name x p) X.env)=eval (.Name x p) X.env:=by rfl)
  (hbase:attributeBase (.Attribute (.Name x p) (fNm u) p2) "pop" X.env (eval (.Attribute (.Name x p) (fNm u) p2) X.env)=eval (.Attribute (.Name x p) (fNm u) p2) X.env:=by rfl) (hline:(ap.endLine==cp.line)=true:=by rfl)
  (hj:X.N[j]?=some y:=by rfl) (hx:Loc X.env.scope y:=by first | exact qu rfl | exact qf rfl)
  (hs:swapsWith (.Call (.Attribute (.Attribute (.Name x p) (fNm u) p2) "pop" ap) [] [] cp) (some (.Name y yp)) pos.line X.env=pure false:=by rfl) (hf:X.fn y=true∨X.env.scope.names.lookup y=some .local:=by first | exact .inl rfl | exact .inr rfl) :
  OS X (.Assign [.Name y yp] (.Call (.Attribute (.Attribute (.Name x p) (fNm u) p2) "pop" ap) [] [] cp) pos) (a0n u i j):=⟨fun pins s σ H D I ⟨ρ,β,o,β',H0,G₀,G,ef,R,q⟩=>
 wO hNd hj hx (b3U kG PySem.F.slot_list_pop PySem.F.type_list_pop b4y (iB (cB hN hv hd hcd) hb) hbase hline) hs hf pins s σ H D I (by
  unfold a0n at ef
  split at ef
  ·rename_i a hi
   have ea:=R.adr hi
   split at ef
   ·rename_i b hg
    split at ef
    ·rename_i d hd'
     split at ef
     ·rename_i hc
      cases (qA ef)
      obtain ⟨dx,d0,l1,l2,zs,h1,hz,rz,wr⟩:=R.wrLs u hc hg
      obtain ⟨⟨v,ev,rv⟩,rl⟩:=a9t rz hd'
      exact ⟨.ref a,ea,a,_,dx,_,_,rfl,h1,B.cl,B.nl u,rY u d0 l1 l2,.inl ⟨rfl,zs,.of hz⟩,_,zs,v,rfl,rfl,hz,ev,q G _ _ (.refl _) ((wr _ _ rl).set rv)⟩
     ·cases ef
    ·cases ef
   ·cases ef
  ·cases ef)⟩
end
end L2.L3
namespace L2.L3
open PySem PySem.Spec PySem.Calls PyProof.Rows
def eY (m:Nat) (es:List Ent):List Ent:=es++qV (m - es.length) .no
theorem a1t {α β:Type} {F:α→β→Prop}:∀ {l:List α} {m:List β} {i:Nat} {b:β},Paired F l m→m[i]?=some b→∃ a,l[i]?=some a∧F a b
 | _,_,_,_,.nil,e=>by simp at e
 | _,_,0,_,.cons r _,e=>by simp at e;subst e;exact ⟨_,rfl,r⟩
 | _,_,i+1,b,.cons _ t,e=>by
  obtain ⟨u,h1,h2⟩:=a1t (i:=i) (b:=b) t (by simpa using e)
  exact ⟨u,by simpa using h1,h2⟩
theorem a5c {α β:Type} {F:α→β→Prop}:∀ {l:List α} {m:List β},Paired F l m→l.length=m.length
 | _,_,.nil=>rfl
 | _,_,.cons _ t=>by simp [a5c t]
theorem a0f {K:qB} {G H:Hp} {N:List Str} {vs:List V} {es:List Ent} (s:aM G H∧lJ K G H) (r:Paired (fun v e=>yG K H G H (some v) e∧xH e=false) vs es):RepS K H G G H (start N vs) (eY N.length es):=by
 have hl:=a5c r
 refine ⟨.refl s.1,by simp [start,eY,hl],fun i o e h1 h2=>?_,Inj.free (fun i e h2=>?_),s.2⟩
 ·unfold eY at h2
  unfold start at h1
  by_cases hi:i<es.length
  ·rw [qc hi] at h2
   rw [qc (by simp;omega),qJ] at h1
   obtain ⟨v,ev,rv⟩:=a1t r h2
   rw [ev] at h1
   cases h1
   exact rv.1
  ·rw [qw (by omega),jL] at h2
   split at h2
   ·cases h2;trivial
   ·cases h2
 ·unfold eY at h2
  by_cases hi:i<es.length
  ·rw [qc hi] at h2
   obtain ⟨v,ev,rv⟩:=a1t r h2
   exact rv.2
  ·rw [qw (by omega),jL] at h2
   split at h2
   ·cases h2;rfl
   ·cases h2
theorem nM {K:qB} {G H:Hp}:∀ {vs:List V} {ds:List PyData},RepAll K G vs ds→Paired (fun v e=>yG K H G H (some v) e∧xH e=false) vs (ds.map .val)
 | _,_,.nil=>.nil
 | _,_,.cons r t=>.cons ⟨⟨_,rfl,r⟩,rfl⟩ (nM t)
def yM (m n:Nat) (f:SF) (b:BS) (ds:List PyData):Mm PyData:=if ds.length=n then (match f (eY m (.ro none b::ds.map .val)) with
 | some (.rt d)=>some (.ok d)
 | some (.nx _)=>some (.ok .none)
 | some (.xc c _)=>some (.ex c)
 | _=>none) else none
def spR (K:qB) (F:BS→List PyData→Mm PyData):Sp:=fun vs H Q E=>∃ G a b fp ws ds r,vs=.ref a::ws∧(aM G H∧lJ K G H)∧BOk K G H a b fp∧RepAll K G ws ds∧F b ds=some r∧b7j K G H Q E r
def gF (a:Addr):Option (So×Sto)→Option (Re PyData×BS)
 | some (.rt d,[p])=>if p.1=a then some (.ok d,p.2) else none
 | some (.nx _,[p])=>if p.1=a then some (.ok .none,p.2) else none
 | some (.xc c _,[p])=>if p.1=a then some (.ex c,p.2) else none
 | _=>none
open Classical in
noncomputable def pD (m n:Nat) (f:OSF) (b:BS) (ds:List PyData):Option (Re PyData×BS):=if ds.length=n then (if h:∃ p,∀ a,gF a (f (eY m (.adr a::ds.map .val)) [(a,b)])=some p then some h.choose else none) else none
theorem cZ {m n:Nat} {f:OSF} {b:BS} {ds:List PyData} {p:Re PyData×BS} (hl:ds.length=n) (h:∀ a,gF a (f (eY m (.adr a::ds.map .val)) [(a,b)])=some p):pD m n f b ds=some p:=by
 have hh:∃ p,∀ a,gF a (f (eY m (.adr a::ds.map .val)) [(a,b)])=some p:=⟨p,h⟩
 unfold pD
 rw [if_pos hl,dif_pos hh]
 have:=(hh.choose_spec 0).symm.trans (h 0)
 rw [qA this]
theorem a4V {m n:Nat} {f:OSF} {b:BS} {ds:List PyData} {p:Re PyData×BS} (h:pD m n f b ds=some p):ds.length=n∧∀ a,gF a (f (eY m (.adr a::ds.map .val)) [(a,b)])=some p:=by
 unfold pD at h
 split at h
 ·rename_i hl
  split at h
  ·rename_i hh
   cases (qA h)
   exact ⟨hl,hh.choose_spec⟩
  ·cases h
 ·cases h
def b7i (K:qB) (G H0:Hp) (a:Addr) (b':BS) (Q:VK) (E:XK):Re PyData→Prop
 | .ok d=>∀ v G' H',aM G G'→iX K H0 G G' H' [(a,b')]→Rep K G' v d→Q v H'
 | .ex c=>∀ C G' H',dW K c=some C→aM G G'→iX K H0 G G' H' [(a,b')]→E (.ref C) none H'
def spO (K:qB) (F:BS→List PyData→Option (Re PyData×BS)):Sp:=fun vs H Q E=>∃ G a b fp ws ds r b',vs=.ref a::ws∧(aM G H∧lJ K G H)∧BOk K G H a b fp∧(∀ x∈fp,G x=none)∧RepAll K G ws ds∧F b ds=some (r,b')∧b7i K G (less H fp) a b' Q E r
theorem a0z {H:Hp} {F:List Addr}:plus (less H F) H F=H:=by
 funext x
 by_cases h:x∈F
 ·rw [bX h]
 ·rw [aU h,bP h]
section
variable {P:Program} {w:World} {K:qB} {mg:Str→Option Value} {base:Heap} {x qual:Str} {k:Nat} {ps N:List Str}
theorem a2Y {X:Cx} {outer:List Env} {s:Shared} {H:Hp} {E:XK} {A:Around} {scope:Scope} {fa:Addr} {cdv:Value} {pins:List (Addr×Obj)} {σ:St} {H':Hp} {s':Shared} {e':Value} {c:Str}
  (I:Inv (fcX P w K mg base N qual scope fa cdv A outer s H E) pins σ H' s') (xx:a5W (fcX P w K mg base N qual scope fa cdv A outer s H E) c e' H' s') (hE:∀ C,dW K c=some C→E (.ref C) none H'):(fcX P w K mg base N qual scope fa cdv A outer s H E).xe e' s':=by
 obtain ⟨a,C,e1,hC,xa⟩:=xx
 subst e1
 refine xB (X:=fcX P w K mg base N qual scope fa cdv A outer s H E) (fr:=fun b=>s.heap.get? b=none) I.ok.frames rfl rfl I (xa.mono fun b hb=>?_) (fun b hb=>?_) fun h' ch un hch hok x'=>?_
 ·rcases hb.1 with z | z
  ·cases z
  ·exact z
 ·cases z:s.heap.get? b with
  | none=>rfl
  | some o=>
   obtain ⟨o',z'⟩:=I.base.there b o z (by intro w;cases w)
   rw [hb] at z';cases z'
 ·exact ⟨a,C,H',rfl,hE C hC,I.os,I.bare,vQ I rfl un hch,hok,x'⟩
theorem a1L {st:Stmt} {f:SF} {fa:Addr} {fd:FuncData} (m n:Nat) (Fu:Fun K x qual st fa fd) (S:FnScope N ps (aC st)) (hm:N.length=m) (hn:ps.length=n+1)
  (body:∀ (cdv:Value) (A:Around) (outer:List Env) (s:Shared) (H:Hp) (E:XK),Room k (A.deeper (envOfC qual (aC st) s.heap.objs.size fa cdv))→DB (fcX P w K mg base N qual (aC st) fa cdv A outer s H E) (bI st) f) :
  FnOk P w K mg base (CX1 P w) (k+1) fa fd ps (spR K (yM m n f)):=by
 obtain ⟨oc,od,kV,doc,pm,an,cdv,ct,osl,rfl,lk,hcd⟩:=Fu.ex
 refine a3e lk hcd S (fun vs H Q E ⟨G,a,b,fp,ws,ds,r,ev,s,hb,rv,hF,_⟩=>?_) fun A outer s H vs Q E hr ⟨G,a,b,fp,ws,ds,r,ev,sm,hb,rv,hF,q⟩=>?_
 ·unfold yM at hF
  split at hF
  ·rename_i hl;rw [ev,qb,rv.length,hl,hn]
  ·cases hF
 ·subst ev
  have R:RepS K H G G H (start N (.ref a::ws)) (eY N.length (.ro none b::ds.map .val)):=a0f sm (.cons ⟨⟨a,fp,rfl,(fun _ z=>nomatch z),hb,fun x hx z=>by obtain ⟨u,z',_⟩:=hb.there x hx;rw [z] at z';cases z'⟩,rfl⟩ (nM rv))
  unfold yM at hF
  split at hF
  ·rw [←hm] at hF
   split at hF
   ·rename_i d e
    cases (qA hF)
    exact ⟨_,(body cdv A outer s H E hr).run,_,_,H,G,G,e,R,fun v G' H' _ g rv=>q v G' H' g rv⟩
   ·rename_i ρ' e
    cases (qA hF)
    exact ⟨_,(body cdv A outer s H E hr).run,_,_,H,G,G,e,R,fun G' H' σ' _ R'=>q .non G' H' R'.grow .none⟩
   ·rename_i c ρ' e
    cases (qA hF)
    exact ⟨_,(body cdv A outer s H E hr).run,_,_,H,G,G,e,R,fun pins s' σ H' G' e' I R _ xx=>a2Y (X:=fcX P w K mg base N qual (aC st) fa cdv A outer s H E) I xx fun C hC=>q C G' H' hC R.grow⟩
   ·cases hF
  ·cases hF
theorem fX {st:Stmt} {f:OSF} {fa:Addr} {fd:FuncData} (m n:Nat) (Fu:Fun K x qual st fa fd) (S:FnScope N ps (aC st)) (hm:N.length=m) (hn:ps.length=n+1)
  (body:∀ (cdv:Value) (A:Around) (outer:List Env) (s:Shared) (H:Hp) (E:XK),Room k (A.deeper (envOfC qual (aC st) s.heap.objs.size fa cdv))→OB (fcX P w K mg base N qual (aC st) fa cdv A outer s H E) (bI st) f) :
  FnOk P w K mg base (CX1 P w) (k+1) fa fd ps (spO K (pD m n f)):=by
 obtain ⟨oc,od,kV,doc,pm,an,cdv,ct,osl,rfl,lk,hcd⟩:=Fu.ex
 refine a3e lk hcd S (fun vs H Q E ⟨G,a,b,fp,ws,ds,r,b',ev,s,hb,hG,rv,hF,_⟩=>?_) fun A outer s H vs Q E hr ⟨G,a,b,fp,ws,ds,r,b',ev,sm,hb,hG,rv,hF,q⟩=>?_
 ·rw [ev,qb,rv.length,(a4V hF).1,hn]
 ·subst ev
  have R0:RepS K H G G H (start N (.ref a::ws)) (eY N.length (.adr a::ds.map .val)):=a0f sm (.cons ⟨rfl,rfl⟩ (nM rv))
  have R:aR K (less H fp) G G H (start N (.ref a::ws)) (eY N.length (.adr a::ds.map .val)) [(a,b)]:=
   ⟨[fp],⟨.cons hb .nil,by rw [qe,zH,jx];exact hb.nd,fun x hx=>by rw [qe,zH,jx] at hx;exact ⟨dZ hx,hG x hx⟩⟩,by rw [qe,zH,jx,a0z];exact R0⟩
  have hF:=(a4V hF).2 a
  rw [←hm] at hF
  unfold gF at hF
  split at hF
  ·rename_i d p e
   split at hF
   ·rename_i hp
    cases (qA hF)
    refine ⟨_,(body cdv A outer s H E hr).run,_,_,_,_,less H fp,G,G,e,R,fun v G' H' s g rv=>q v G' H' s ?_ rv⟩
    rw [←hp];exact g
   ·cases hF
  ·rename_i ρ' p e
   split at hF
   ·rename_i hp
    cases (qA hF)
    refine ⟨_,(body cdv A outer s H E hr).run,_,_,_,_,less H fp,G,G,e,R,fun G' H' σ' s R'=>q .non G' H' s ?_ .none⟩
    rw [←hp];exact R'.grow
   ·cases hF
  ·rename_i c ρ' p e
   split at hF
   ·rename_i hp
    cases (qA hF)
    refine ⟨_,(body cdv A outer s H E hr).run,_,_,_,_,less H fp,G,G,e,R,fun pins s' σ H' G' e' I R g xx=>a2Y (X:=fcX P w K mg base N qual (aC st) fa cdv A outer s H E) I xx fun C hC=>q C G' H' hC g ?_⟩
    rw [←hp];exact R.grow
   ·cases hF
  ·cases hF
end
structure MDef (K:qB) (m:Str) (st:Stmt):Prop where
 ex:∃ f fd,Fun K m ("Binder." ++ m) st f fd∧Meth K (fG K) m f
structure MethX (P:Program) (w:World) (K:qB) (mg:Str→Option Value) (base:Heap) (m:Str) (k:Nat) (ps:List Str) (sp:Sp):Prop where
 ex:∃ f fd,Meth K (fG K) m f∧Binds K fd ps []∧FnOk P w K mg base (CX1 P w) k f fd ps sp
section
variable {X:Cx} {e:Expr} {es:List Expr} {pos p ap:Pos} {x m:Str} {k:Nat} {ps:List Str}
theorem a4U {sp:Sp} {f:Addr} {fd:FuncData} {pins:List (Addr×Obj)} {σ:St} {H:Hp} {s:Shared} {Q:VK} {E:XK} {us:List Value} {vs:List V} (F:FnOk X.prog X.w X.K X.mg X.base (CX1 X.prog X.w) k f fd ps sp) (hr:Room k X.A) (hb:Binds X.K fd ps [])
  (I:Inv X pins σ H s) (r:aX vs us) (h:sp vs H Q E) (hx:∀ a C H' s',E (.ref C) none H'→Inv X pins σ H' s'→ExcAt (mX X) H' a C s'.heap→X.xe (.ref a) s'):wpAny (model X.prog X.w) X.A (call (.ref f) us) (EP X pins σ Q) X.xe s:=by
 have hl:us.length=ps.length:=by rw [←r.length];exact F.len _ _ _ _ h
 refine wpAny_call (codeAny_mono (F.run X.A X.stack s H ⟨us,[]⟩ us vs Q E hr I.env0 (by simpa using hb s us I.kIn (by simpa using hl)) r h) fun res s' hq=>?_)
 cases res with
 | error e2=>
  obtain ⟨a2,C2,H2,rfl,hE,os,bare,un,hok,xa⟩:=hq
  exact hx a2 C2 H2 s' hE (I.call' (ch:=[]) os un hok bare (fun b z=>nomatch z)) (xa.mono fun b hb=>mR I hb)
 | ok fl=>
  cases fl with
  | ret u=>exact I.after hq
  | next=>exact qk hq
  | brk=>exact qk hq
  | cont=>exact qk hq
theorem a2T {pl:Sem Bool} {sp:Sp} {E:XK} {ta:TE} {t:TA} {pins:List (Addr×Obj)} {s:Shared} {σ:St} {H:Hp} {Q:VK} {o:Expr} (B:BCls X.K) (M:MethX X.prog X.w X.K X.mg X.base m k ps sp) (hr:Room k X.A) (he:PE X o ta) (ha:PA X (e::es) t) (I:Inv X pins σ H s)
  (hx:∀ a C H' s',E (.ref C) none H'→Inv X pins σ H' s'→ExcAt (mX X) H' a C s'.heap→X.xe (.ref a) s')
  (h:ta σ H fun x H1=>∃ a dx d l1 l2,x=.ref a∧H1 a=some (.ins (fG X.K) dx (bFs d l1 l2))∧(bFs d l1 l2).lookup m=none∧t σ H1 fun vs H2=>sp (.ref a::vs) H2 Q E)
  (hst:starEach (e::es) X.env=(false,eval e X.env)::starEach es X.env) (hpl:(backTo pos (starEach es X.env)).any (·.1)=false)
  (ht:eval (.Call (.Attribute o m ap) (e::es) [] pos) X.env=(do
   let ov ←eval o X.env
   standAt ap.atName
   let (f,first) ←holding [ov] (getMethod ov m pl)
   callWith pos f first (backTo pos (starEach (e::es) X.env)) (backToKw pos (keywordEach [] X.env)))) :
  wpAny (model X.prog X.w) X.A (eval (.Call (.Attribute o m ap) (e::es) [] pos) X.env) (EP X pins σ Q) X.xe s:=by
 obtain ⟨f,fd,hm,hb,F⟩:=M.ex
 refine PySem.W.methodCall_KW (pl:=pl) (thn (he pins s σ H _ I h) fun u s1 ⟨x,H1,I1,rx,a,dx,d,l1,l2,ex,ea,l,q⟩=>?_) ht
 subst ex
 obtain rfl:u=qi a:=rx
 refine xN I1 ea B.cl hm l ?_
 refine kF (first:=[.ref a]) (h₀:=X.base) I.ok.mod.kin hm.kp (thn (ha pos pins s1 σ H1 _ I1 q) fun us s2 ⟨vs,H2,I2,r,q2⟩=>⟨I2.kIn,?_⟩) hst hpl
 exact a4U (us:=.ref a::us) (vs:=.ref a::vs) F hr hb I2 (.cons rfl r) q2 hx
theorem a0v {pl:Sem Bool} {sp:Sp} {E:XK} {ta:TE} {pins:List (Addr×Obj)} {s:Shared} {σ:St} {H:Hp} {Q:VK} {o:Expr} (B:BCls X.K) (M:MethX X.prog X.w X.K X.mg X.base m k ps sp) (hr:Room k X.A) (he:PE X o ta) (I:Inv X pins σ H s)
  (hx:∀ a C H' s',E (.ref C) none H'→Inv X pins σ H' s'→ExcAt (mX X) H' a C s'.heap→X.xe (.ref a) s')
  (h:ta σ H fun x H1=>∃ a dx d l1 l2,x=.ref a∧H1 a=some (.ins (fG X.K) dx (bFs d l1 l2))∧(bFs d l1 l2).lookup m=none∧sp [.ref a] H1 Q E)
  (ht:eval (.Call (.Attribute o m ap) [] [] pos) X.env=(do
   let ov ←eval o X.env
   standAt ap.atName
   let (f,first) ←holding [ov] (getMethod ov m pl)
   callWith pos f first (backTo pos (starEach [] X.env)) (backToKw pos (keywordEach [] X.env)))) :
  wpAny (model X.prog X.w) X.A (eval (.Call (.Attribute o m ap) [] [] pos) X.env) (EP X pins σ Q) X.xe s:=by
 obtain ⟨f,fd,hm,hb,F⟩:=M.ex
 refine PySem.W.methodCall_KW (pl:=pl) (thn (he pins s σ H _ I h) fun u s1 ⟨x,H1,I1,rx,a,dx,d,l1,l2,ex,ea,l,q⟩=>?_) ht
 subst ex
 obtain rfl:u=qi a:=rx
 refine xN I1 ea B.cl hm l ?_
 exact PySem.W.callWith_K0 (first:=[.ref a]) I1.kIn hm.kp (a4U (us:=[.ref a]) (vs:=[.ref a]) F hr hb I1 (.cons rfl .nil) q hx)
end
end L2.L3
namespace L2.L3
open PySem PySem.Spec PySem.Calls PyProof.Rows
def iE (F:BS→List PyData→Mm PyData) (i:Nat) (fa:AF):EF:=fun ρ=>match ρ[i]? with
 | some (.ro _ b)=>bnd (fa ρ) (F b)
 | _=>none
section
variable {X:Cx} {e:Expr} {es:List Expr} {pos p ap:Pos} {x y m:Str} {k:Nat} {ps:List Str} {FR:BS→List PyData→Mm PyData} {FO:BS→List PyData→Option (Re PyData×BS)} {fa:AF}
theorem RepS.roB {K:qB} {H0 G₀ G H:Hp} {σ:St} {ρ:List Ent} {i:Nat} {oa:Option Addr} {b:BS} (R:RepS K H0 G₀ G H σ ρ) (h:ρ[i]?=some (.ro oa b)):∃ a fp,σ[i]?=some (some (.ref a))∧BOk K G H a b fp:=by
 obtain ⟨o,e,a,fp,rfl,_,r,_⟩:=R.at h
 exact ⟨a,fp,e,r⟩
theorem a7Q {K:qB} {G G1 H H1:Hp} {a:Addr} {b:BS} {fp:List Addr} {vs:List V} {ds:List PyData} {r:Re PyData} {Q:VK} (g:Grow G H G1 H1) (tb:lJ K G1 H1) (hb:BOk K G H a b fp) (rv:RepAll K G1 vs ds) (hF:FR b ds=some r)
  (q:∀ d,r=.ok d→∀ v G' H',Grow G H G' H'→Rep K G' v d→Q v H'):spR K FR (.ref a::vs) H1 Q (fun cv _ H'=>∃ G' C c,cv=.ref C∧r=.ex c∧dW K c=some C∧Grow G H G' H'):=by
 refine ⟨G1,a,b,fp,vs,ds,r,rfl,⟨g.sub,tb⟩,hb.keep (fun x o _ z n=>g.hh.keep x o z n) g.gg,rv,hF,?_⟩
 cases r with
 | ok d=>exact fun v G' H' g' rv=>q d rfl v G' H' (g.trans g') rv
 | ex c=>exact fun C G' H' hC g'=>⟨G',C,c,rfl,rfl,hC,g.trans g'⟩
theorem iJ (i:Nat) {pl:Sem Bool} (B:BCls X.K) (M:MethX X.prog X.w X.K X.mg X.base m k ps (spR X.K FR)) (hr:Room k X.A) (ha:DA X (e::es) fa) (hN:X.N[i]?=some x:=by rfl)
  (hv:Vis X.env.scope x:=by first | exact qu rfl | exact qf (qu rfl) | exact qf (qf rfl)) (hd:(x==("__debug__" : Str))=false:=by decide) (hcd:(x==("__classdict__" : Str))=false:=by decide)
  (hl:∀ d l1 l2,(bFs d l1 l2).lookup m=none:=by intros;rfl)
  (hst:starEach (e::es) X.env=(false,eval e X.env)::starEach es X.env:=by rfl) (hpl:(backTo pos (starEach es X.env)).any (·.1)=false:=by rfl)
  (ht:eval (.Call (.Attribute (.Name x p) m ap) (e::es) [] pos) X.env=(do
   let ov ←eval (.Name x p) X.env
   standAt ap.atName
   let (f,first) ←holding [ov] (getMethod ov m pl)
   callWith pos f first (backTo pos (starEach (e::es) X.env)) (backToKw pos (keywordEach [] X.env))):=by rfl) :
  DE X (.Call (.Attribute (.Name x p) m ap) (e::es) [] pos) (iE FR i fa):=⟨fun pins s σ H Q I ⟨ρ,r,H0,G₀,G,ef,R,q⟩=>by
 unfold iE at ef
 split at ef
 ·rename_i oa b hi
  obtain ⟨a,fp,ea,hb⟩:=R.roB hi
  obtain ⟨dx,d,l1,l2,vs,xs,ys,_,_,h1,_⟩:=id hb
  refine a2T (E:=fun cv _ H'=>∃ G' C c,cv=.ref C∧r=.ex c∧dW X.K c=some C∧Grow G H G' H') B M hr (cB hN hv hd hcd) ha.run I (fun a2 C H' s' ⟨G',C',c,e1,e2,hC,g⟩ I' xa=>?_) ⟨.ref a,ea,a,dx,d,l1,l2,rfl,h1,hl d l1 l2,bA R ef q.x fun ds vs G1 H1 g1 R1 rv e1=>a7Q g1 R1.tab hb rv e1 fun d e2 v G' H' g' rv=>by subst e2;exact q v G' H' g' rv⟩ hst hpl ht
  cases e1;subst e2
  exact q pins s' σ H' G' _ I' (R.more g) g.gg ⟨a2,C,rfl,hC,.inl xa⟩
 ·cases ef⟩
theorem a0L (i:Nat) {pl:Sem Bool} (B:BCls X.K) (M:MethX X.prog X.w X.K X.mg X.base m k ps (spR X.K FR)) (hr:Room k X.A) (hN:X.N[i]?=some x:=by rfl)
  (hv:Vis X.env.scope x:=by first | exact qu rfl | exact qf (qu rfl) | exact qf (qf rfl)) (hd:(x==("__debug__" : Str))=false:=by decide) (hcd:(x==("__classdict__" : Str))=false:=by decide)
  (hl:∀ d l1 l2,(bFs d l1 l2).lookup m=none:=by intros;rfl)
  (ht:eval (.Call (.Attribute (.Name x p) m ap) [] [] pos) X.env=(do
   let ov ←eval (.Name x p) X.env
   standAt ap.atName
   let (f,first) ←holding [ov] (getMethod ov m pl)
   callWith pos f first (backTo pos (starEach [] X.env)) (backToKw pos (keywordEach [] X.env))):=by rfl) :
  DE X (.Call (.Attribute (.Name x p) m ap) [] [] pos) (iE FR i aI):=⟨fun pins s σ H Q I ⟨ρ,r,H0,G₀,G,ef,R,q⟩=>by
 unfold iE at ef
 split at ef
 ·rename_i oa b hi
  obtain ⟨a,fp,ea,hb⟩:=R.roB hi
  obtain ⟨dx,d,l1,l2,vs,xs,ys,_,_,h1,_⟩:=id hb
  refine a0v (E:=fun cv _ H'=>∃ G' C c,cv=.ref C∧r=.ex c∧dW X.K c=some C∧Grow G H G' H') B M hr (cB hN hv hd hcd) I (fun a2 C H' s' ⟨G',C',c,e1,e2,hC,g⟩ I' xa=>?_) ⟨.ref a,ea,a,dx,d,l1,l2,rfl,h1,hl d l1 l2,a7Q (.refl R.sub) R.tab hb .nil ef fun d e2 v G' H' g' rv=>by subst e2;exact q v G' H' g' rv⟩ ht
  cases e1;subst e2
  exact q pins s' σ H' G' _ I' (R.more g) g.gg ⟨a2,C,rfl,hC,.inl xa⟩
 ·cases ef⟩
def bJ (F:BS→List PyData→Option (Re PyData×BS)) (i:Nat) (fa:AF):OEF:=fun ρ β=>match ρ[i]? with
 | some (.adr a)=>(match dG β a with
  | some b=>(match fa (vw β ρ) with
   | some (.ok ds)=>if dU ρ then (F b ds).map fun p=>(p.1,fO β a p.2) else none
   | some (.ex c)=>some (.ex c,β)
   | none=>none)
  | none=>none)
 | _=>none
theorem a4K {K:qB} {H0 G₀ G H:Hp} {σ:St} {ρ:List Ent} {β:Sto} {a:Addr} {b:BS} (R:aR K H0 G₀ G H σ ρ β) (hn:dU ρ=true) (hg:dG β a=some b) :
  ∃ fp,BOk K G H a b fp∧(∀ x∈fp,G x=none)∧∀ G' H' b',iX K (less H fp) G G' H' [(a,b')]→aR K H0 G₀ G' H' σ ρ (fO β a b'):=by
 obtain ⟨fp,hb,hG,k⟩:=R.chg hn hg
 refine ⟨fp,hb,hG,fun G' H' b' ⟨fps',S',g⟩=>?_⟩
 obtain ⟨each,_,out⟩:=S'
 cases each with
 | cons r t=>
  cases t
  rw [qe,zH,jx] at g out
  exact k G' H' b' _ r out g
theorem a7R {K:qB} {H0 G₀ G H:Hp} {σ:St} {ρ:List Ent} {β:Sto} {a:Addr} {b b':BS} {vs:List V} {ds:List PyData} {r:Re PyData} {Q:VK} {Gb:Hp} (sb:aM Gb G) (R:aR K H0 G₀ G H σ ρ β) (hn:dU ρ=true) (hg:dG β a=some b) (rv:RepAll K G vs ds) (hF:FO b ds=some (r,b'))
  (q:∀ d,r=.ok d→∀ v G' H',aM G G'→aR K H0 G₀ G' H' σ ρ (fO β a b')→Rep K G' v d→Q v H') :
  spO K FO (.ref a::vs) H Q (fun cv _ H'=>∃ G' C c,cv=.ref C∧r=.ex c∧dW K c=some C∧aM Gb G'∧aR K H0 G₀ G' H' σ ρ (fO β a b')):=by
 obtain ⟨fp,hb,hG,k⟩:=a4K R hn hg
 refine ⟨G,a,b,fp,vs,ds,r,b',rfl,⟨R.sub,R.tab⟩,hb,hG,rv,hF,?_⟩
 cases r with
 | ok d=>exact fun v G' H' s g rv=>q d rfl v G' H' s (k G' H' b' g) rv
 | ex c=>exact fun C G' H' hC s g=>⟨G',C,c,rfl,rfl,hC,sb.trans s,k G' H' b' g⟩
theorem a4d {H0 G₀ G H:Hp} {σ:St} {ρ:List Ent} {β β':Sto} {i:Nat} {r:Re PyData} {Q:VK} {a:Addr} {b:BS} {T:List V→Hp→Prop} (R:aR X.K H0 G₀ G H σ ρ β) (hg:dG β a=some b)
  (ef:(match fa (vw β ρ) with
   | some (.ok ds)=>if dU ρ then (FO b ds).map fun p=>(p.1,fO β a p.2) else none
   | some (.ex c)=>some (.ex c,β)
   | none=>none)=some (r,β')) (q:yH X H0 G₀ G ρ β' σ Q r)
  (h:∀ vs H1 G1,aM G G1→aR X.K H0 G₀ G1 H1 σ ρ β→spO X.K FO (.ref a::vs) H1 Q (fun cv _ H'=>∃ G' C c,cv=.ref C∧r=.ex c∧dW X.K c=some C∧aM G G'∧aR X.K H0 G₀ G' H' σ ρ β')→T vs H1):rA X fa σ H T:=by
 obtain ⟨fps,S,R⟩:=R
 split at ef
 ·rename_i ds e1
  split at ef
  ·rename_i hn
   obtain ⟨⟨r',b'⟩,e2,z⟩:=qD.mp ef
   cases z
   refine ⟨_,_,_,G₀,G,e1,RepS.view S R,fun vs G1 H1 g1 rv=>?_⟩
   have R1:aR X.K H0 G₀ G1 H1 σ ρ β:=.of S R.grow.gg (R.more g1) g1.gg
   exact h vs H1 G1 g1.gg R1 (a7R g1.gg R1 hn hg rv e2 fun d e v G' H' s R' rv=>by subst e;exact q v G' H' (g1.gg.trans s) R' rv)
  ·cases ef
 ·rename_i c e1
  cases (qA ef)
  exact ⟨_,_,_,G₀,G,e1,RepS.view S R,fun pins s' σ H' G' e I' R' g x=>q pins s' σ H' G' e I' (.of S R.grow.gg R'.unview g) g x⟩
 ·cases ef
theorem bH (i:Nat) {pl:Sem Bool} (B:BCls X.K) (M:MethX X.prog X.w X.K X.mg X.base m k ps (spO X.K FO)) (hr:Room k X.A) (ha:DA X (e::es) fa) (hN:X.N[i]?=some x:=by rfl)
  (hv:Vis X.env.scope x:=by first | exact qu rfl | exact qf (qu rfl) | exact qf (qf rfl)) (hd:(x==("__debug__" : Str))=false:=by decide) (hcd:(x==("__classdict__" : Str))=false:=by decide)
  (hl:∀ d l1 l2,(bFs d l1 l2).lookup m=none:=by intros;rfl)
  (hst:starEach (e::es) X.env=(false,eval e X.env)::starEach es X.env:=by rfl) (hpl:(backTo pos (starEach es X.env)).any (·.1)=false:=by rfl)
  (ht:eval (.Call (.Attribute (.Name x p) m ap) (e::es) [] pos) X.env=(do
   let ov ←eval (.Name x p) X.env
   standAt ap.atName
   let (f,first) ←holding [ov] (getMethod ov m pl)
   callWith pos f first (backTo pos (starEach (e::es) X.env)) (backToKw pos (keywordEach [] X.env))):=by rfl) :
  OE X (.Call (.Attribute (.Name x p) m ap) (e::es) [] pos) (bJ FO i fa):=⟨fun pins s σ H Q I ⟨ρ,β,r,β',H0,G₀,G,ef,R,q⟩=>by
 unfold bJ at ef
 split at ef
 ·rename_i a hi
  split at ef
  ·rename_i b hg
   have ea:=R.adr hi
   obtain ⟨dx,d,l1,l2,_,_,_,h1,_⟩:=R.ob hg
   refine a2T (E:=fun cv _ H'=>∃ G' C c,cv=.ref C∧r=.ex c∧dW X.K c=some C∧aM G G'∧aR X.K H0 G₀ G' H' σ ρ β') B M hr (cB hN hv hd hcd) ha.run I (fun a2 C H' s' ⟨G',C',c,e1,e2,hC,g,R'⟩ I' xa=>?_) ⟨.ref a,ea,a,dx,d,l1,l2,rfl,h1,hl d l1 l2,a4d (i:=i) R hg ef q fun vs H1 G1 _ _ sp=>sp⟩ hst hpl ht
   cases e1;subst e2
   exact q pins s' σ H' G' _ I' R' g ⟨a2,C,rfl,hC,.inl xa⟩
  ·cases ef
 ·cases ef⟩
theorem a2M (i:Nat) {pl:Sem Bool} (B:BCls X.K) (M:MethX X.prog X.w X.K X.mg X.base m k ps (spO X.K FO)) (hr:Room k X.A) (hN:X.N[i]?=some x:=by rfl)
  (hv:Vis X.env.scope x:=by first | exact qu rfl | exact qf (qu rfl) | exact qf (qf rfl)) (hd:(x==("__debug__" : Str))=false:=by decide) (hcd:(x==("__classdict__" : Str))=false:=by decide)
  (hl:∀ d l1 l2,(bFs d l1 l2).lookup m=none:=by intros;rfl)
  (ht:eval (.Call (.Attribute (.Name x p) m ap) [] [] pos) X.env=(do
   let ov ←eval (.Name x p) X.env
   standAt ap.atName
   let (f,first) ←holding [ov] (getMethod ov m pl)
   callWith pos f first (backTo pos (starEach [] X.env)) (backToKw pos (keywordEach [] X.env))):=by rfl) :
  OE X (.Call (.Attribute (.Name x p) m ap) [] [] pos) (bJ FO i aI):=⟨fun pins s σ H Q I ⟨ρ,β,r,β',H0,G₀,G,ef,R,q⟩=>by
 unfold bJ at ef
 split at ef
 ·rename_i a hi
  split at ef
  ·rename_i b hg
   have ea:=R.adr hi
   obtain ⟨dx,d,l1,l2,_,_,_,h1,_⟩:=R.ob hg
   have ef:(if dU ρ then (FO b []).map fun p=>(p.1,fO β a p.2) else none)=some (r,β'):=ef
   split at ef
   ·rename_i hn
    obtain ⟨⟨r',b'⟩,e2,z⟩:=qD.mp ef
    cases z
    refine a0v B M hr (cB hN hv hd hcd) I (fun a2 C H' s' ⟨G',C',c,e1,e2,hC,g,R'⟩ I' xa=>?_) ⟨.ref a,ea,a,dx,d,l1,l2,rfl,h1,hl d l1 l2,a7R (.refl _) R hn hg .nil e2 fun d e v G' H' s R' rv=>by subst e;exact q v G' H' s R' rv⟩ ht
    cases e1;subst e2
    exact q pins s' σ H' G' _ I' R' g ⟨a2,C,rfl,hC,.inl xa⟩
   ·cases ef
  ·cases ef
 ·cases ef⟩
end
end L2.L3
namespace L2.L3
open PySem PySem.Spec PySem.Calls PyProof.Rows
structure RelOk (K:qB) (Rel:Hp→Hp→Prop):Prop where
 sub:∀ {G H},Rel G H→aM G H∧lJ K G H
 step:∀ {G H G' H'},Rel G H→Grow G H G' H'→Rel G' H'
def QvR (K:qB) (Rel:Hp→Hp→Prop) (r:Re PyData):VK:=fun v H'=>∃ G' d,r=.ok d∧Rel G' H'∧Rep K G' v d
def QxR (K:qB) (Rel:Hp→Hp→Prop) (r:Re PyData):XK:=fun cv _ H'=>∃ G' C c,cv=.ref C∧r=.ex c∧dW K c=some C∧Rel G' H'
section
variable {X:Cx} {L:List Str}
theorem a3E {s:Shared} {σ:St} {H:Hp} {Rel:Hp→Hp→Prop} (RO:RelOk X.K Rel) {fl D:Addr} {dn n d0 y:Str} {k:Nat} {r:Re PyData} {d:PyData} {F:Str→Mm PyData} {p1 p2 p3 np p5 p6 p7 p8 hpos pos:Pos} (I:Inv X [] σ H s) (hN:X.N.Nodup) (hst:X.stack=X.env::X.outer) (hf:X.env.frame=some X.env.locals)
  (hD:dW X.K d0=some D) (hXD:XCls X.K D) (hcs:∀ c∈L,∃ C,dW X.K c=some C∧XCls X.K C∧jy X.K (.ref C) (.ref D)=some true)
  (K0:ClsOk X.prog X.w X.K X.mg X.base y k F) (hr:∀ e,RoomN k (X.A.mark e)) (ht:nE L F r=some d)
  (hi:X.N[0]?=some dn) (hj:X.N[1]?=some n) (hσ:σ[0]?=some (some (.ref fl)))
  (hfn:∀ s',Inv X [] σ H s'→PySem.W.FnAt fl s'.heap)
  (run:∀ s',Inv X [] σ H s'→codeAny (model X.prog X.w) X.A (.call (.ref fl) ⟨[],[]⟩) (CR (CX1 X.prog X.w) X.stack X.prog X.w H s' (QvR X.K Rel r) (QxR X.K Rel r)) s')
  (hk0:X.env.scope.names.lookup dn=some .local) (hk:X.env.scope.names.lookup n=some .local) (hg:Gl X d0) (hgy:Gl X y)
  (hdb0:(dn==("__debug__" : Str))=false) (hcd0:(dn==("__classdict__" : Str))=false) (hdb:(d0==("__debug__" : Str))=false) (hnd:(n==("__debug__" : Str))=false) (hncd:(n==("__classdict__" : Str))=false) (hdy:(y==("__debug__" : Str))=false)
  (he:starEach [.Name n p6] X.env=(false,eval (.Name n p6) X.env)::starEach [] X.env) (hpl:(backTo p7 (starEach [] X.env)).any (·.1)=false) :
  wpAny (model X.prog X.w) X.A (exec (.Try [.Return (some (.Call (.Name dn p1) [] [] p2)) p3] [.ExceptHandler (some (.Name d0 np)) (some n) [.Return (some (.Call (.Name y p5) [.Name n p6] [] p7)) p8] hpos] [] [] pos) X.env)
   (SP X [] { nx:=fun _ _=>False,rt:=fun v H'=>∃ G',Rel G' H'∧Rep X.K G' v d }) X.xe s:=by
 refine wpAny_Try_except ?_
 refine wpAny_execs_cons (wpAny_Return_some (wpAny_mono (a7b (X:=X) I hi hσ (.inl hk0) hdb0 hcd0 hfn run) (fun u s2 ⟨v,H',I',rv,q⟩=>?_) fun e s2 ⟨a,C,H',e1,⟨G',C',c,e2,e3,hC,g⟩,I',xa⟩=>?_))
 ·obtain ⟨G',d',rfl,g,rp⟩:=q
  cases ht
  exact ⟨v,σ,H',I',rv,G',g,rp⟩
 ·subst e1;cases e2;subst e3
  unfold nE at ht
  dsimp only at ht
  split at ht
  ·rename_i hc
   split at ht
   ·rename_i dd hF
    cases ht
    obtain ⟨C'',hE',hXC,hsub⟩:=hcs c (by simpa using hc)
    rw [hC] at hE';cases hE'
    have xa1:iZ X (fun b=>mX X b∧∀ p∈([]:List (Addr×Obj)),p.1≠b) H' a C s2.heap:=.inl (xa.mono fun b hb=>⟨hb,fun p hp=>nomatch hp⟩)
    have nw:∀ b,s2.heap.get? b=none→mX X b∧∀ p∈([]:List (Addr×Obj)),p.1≠b:=fun b hb=>⟨mR I' hb,fun p hp=>nomatch hp⟩
    refine wU (X:=X) I'.ok.frames hst hf I' xa1 nw fun h1 ch1 c1 x1=>?_
    have I2:=Inv.chg I' c1
    refine a4q (X:=X) (s:={ s2 with heap:=h1 }) c1.hok x1 fun h2 ch2 c2 x2=>?_
    have I3:Inv X [] σ H' { s2 with heap:=h2 }:=Inv.chg (s:={ s2 with heap:=h1 }) I2 c2
    obtain ⟨_,_,oe,vs,xo,_⟩:=(show ExcAt _ H' a C h2 from .inr x2).ob
    have hm:X.mg d0=some (.ref D):=jl I.mod.kin I.mod.glob (a1O hD)
    refine wpAny_handleBy_cons (codeAny_handlers_test (iT (X:=Cx.suite X a) (a0F I3 a) hg hm (a7v hXC hXD I3.kIn xo hsub ?_) hdb)) (by intro z;cases z)
    refine codeAny_handlers_suite_as ?_
    refine a4q (X:=X) (s:={ s2 with heap:=h2 }) c2.hok x2 fun h3 ch3 c3 x3=>?_
    have I4:Inv X [] σ H' { s2 with heap:=h3 }:=Inv.chg (s:={ s2 with heap:=h2 }) I3 c3
    obtain ⟨fa,na,oe3,vs3,xo3,hv3⟩:=(show ExcAt _ H' a C h3 from .inr x3).ob
    have I5:Inv X [] σ (upd H' a (xcO a C)) { s2 with heap:=h3 }:=Inv.track I4 fa na ⟨oe3,vs3,xo3.at_,hv3⟩ ⟨⟨oe3,xo3⟩,⟨oe3,xo3.at_⟩,fun g1 g2 ⟨o1,y⟩ k=>⟨o1,k _ y.at_,y.cls⟩⟩
    have hjσ:1<σ.length:=by rw [I5.len];exact (qS.mp hj).1
    refine vW (i:=1) (v:=.ref a) I5 hN hj (.inl hk) rfl (fun s4 I6=>?_) (.inr hk)
    have g6:Rel G' (upd H' a (xcO a C)):=RO.step g (Grow.side (RO.sub g).1 na)
    have sm6:aM G' (upd H' a (xcO a C))∧lJ X.K G' (upd H' a (xcO a C)):=RO.sub g6
    have run:=a9W (X:=Cx.suite X a) (p:=p5) (p2:=p6) (pos:=p7) (e:=none) (G:=G') K0 (hr _) (a0F I6 a) hj (by rw [jn hjσ]) (.inl hk) hnd hncd sm6 hC aJ hF hgy hdy he hpl
    refine wpAny_execs_cons (wpAny_Return_some (wpAny_mono run (fun u s5 ⟨v,H5,I7,rv,G5,g5,rp⟩=>?_) fun _ _ z=>qk z))
    have I8:=a3b I7 I.ok
    exact name_goes I8 hN hj hk fun s6 I9=>⟨v,_,H5,I9,rv,G5,RO.step g6 g5,rp⟩
   ·cases ht
  ·cases ht
end
section
variable {P:Program} {w:World} {K:qB} {mg:Str→Option Value} {base:Heap} {x:Str} {k:Nat} {F:Str→Mm PyData} {L:List Str}
structure DeedOkR (P:Program) (w:World) (K:qB) (mg:Str→Option Value) (base:Heap) (k:Nat) (s:Shared) (H:Hp) (Rel:Hp→Hp→Prop) (r:Re PyData) (fl:Addr):Prop where
 fn:∀ (s':Shared) (fs:List Addr),Un fs [] H H s.heap s'.heap→PySem.W.FnAt fl s'.heap
 run:∀ (A:Around) (outer:List Env) (s':Shared) (fs:List Addr),Room k A→Env0 P w K mg base A outer s' H→Un fs [] H H s.heap s'.heap→codeAny (model P w) A (.call (.ref fl) ⟨[],[]⟩) (CR (CX1 P w) outer P w H s' (QvR K Rel r) (QxR K Rel r)) s'
structure ToldOkR (P:Program) (w:World) (K:qB) (mg:Str→Option Value) (base:Heap) (x:Str) (L:List Str) (F:Str→Mm PyData):Prop where
 ex:∃ f,mg x=some (.ref f)∧jC K (.ref f)=true∧∀ (k:Nat) (A:Around) (outer:List Env) (s:Shared) (H:Hp) (Rel:Hp→Hp→Prop) (r:Re PyData) (d:PyData) (fl:Addr),Room (k+2) A→Env0 P w K mg base A outer s H→RelOk K Rel→DeedOkR P w K mg base k s H Rel r fl→nE L F r=some d →
  codeAny (model P w) A (.call (.ref f) ⟨[.ref fl],[]⟩) (CR CX0 outer P w H s (fun v H'=>∃ G',Rel G' H'∧Rep K G' v d) E0) s
theorem a6a {st:Stmt} {dn n y:Str} {p1 p2 p3 np p5 p6 p7 p8 hpos pos:Pos} {Dc:Addr} (D:Def K mg x st) (S:FnScope [dn,n] [dn] (aC st))
  (hD:dW K "SheetError" = some Dc) (hXD:XCls K Dc) (hcs:∀ c∈L,∃ C,dW K c=some C∧XCls K C∧jy K (.ref C) (.ref Dc)=some true) (K0:ClsOk P w K mg base y 1 F)
  (hB:bI st=[.Try [.Return (some (.Call (.Name dn p1) [] [] p2)) p3] [.ExceptHandler (some (.Name "SheetError" np)) (some n) [.Return (some (.Call (.Name y p5) [.Name n p6] [] p7)) p8] hpos] [] [] pos])
  (hb:∀ (kV doc pm:Value) (an:Option Addr) (cdv ct:Value) (us:List Value),us.length=[dn].length→bindArgs (jE x x (dQ st) (bI st) (aC st) .none kV doc pm an cdv ct) ⟨us,[]⟩=pure ([dn].zip us))
  (hk0:(aC st).names.lookup dn=some .local) (hk:(aC st).names.lookup n=some .local)
  (hg:(aC st).names.lookup ("SheetError" : Str)=some .globalImplicit) (hgy:(aC st).names.lookup y=some .globalImplicit)
  (hdb0:(dn==("__debug__" : Str))=false) (hcd0:(dn==("__classdict__" : Str))=false) (hnd:(n==("__debug__" : Str))=false) (hncd:(n==("__classdict__" : Str))=false) (hdy:(y==("__debug__" : Str))=false) :
  ToldOkR P w K mg base x L F:=by
 obtain ⟨fa,fd,Fu,hmg⟩:=D.ex
 refine ⟨fa,hmg,Fu.kp,fun k A outer s H Rel r d fl hr e0 RO Dd ht=>?_⟩
 have bd:=Fu.binds hb
 obtain ⟨oc,od,kV,doc,pm,an,cdv,ct,osl,rfl,lk,hcd⟩:=Fu.ex
 have KX:K.In s.heap:=e0.mod.kin.keeps fun b o e=>(e0.bs b o e).1
 have lim:s.heap.NoLimit:=e0.mod.nolimit.keeps fun b o e=>(e0.bs b o e).1
 have hkind:∀ z∈[dn].zip [qi fl],(aC st).names.lookup z.1=some .local∨((aC st).names.lookup z.1=some .cell∧((cellsFrom (s.heap.objs.size+1) (aC st).names []).lookup z.1).isSome=true):=fun ⟨n,v⟩ hy=>by
  rcases S.par n (kj hy).1 with q | q
  ·exact .inl q
  ·exact .inr ⟨q,kO _ _ _ (.inl q)⟩
 refine codeAny_call_function hr.depth (KX _ _ lk) rfl S.co S.gen rfl (zh KX hcd) (bd s [.ref fl] KX rfl _ _ _ _ ?_)
 refine wpAny_newFunctionEnv_cells S.kind hkind fun env he s1 xx=>?_
 subst he
 refine ⟨lim.keeps xx.toInCall.keep,codeAny_func ?_⟩
 have I:Inv (tZ CX0 P w K mg base [dn,n] x (aC st) fa cdv A outer s H E0) [] (start [dn,n] [.ref fl]) H s1:=tR S hr.hd e0 rfl (.cons rfl .nil) xx
 rw [hB]
 have hr1:Room (k+1) (A.deeper (envOfC x (aC st) s.heap.objs.size fa cdv)):=hr.deeper _
 have main:=a3E (X:=tZ CX0 P w K mg base [dn,n] x (aC st) fa cdv A outer s H E0) (p1:=p1) (p2:=p2) (p3:=p3) (np:=np) (p5:=p5) (p6:=p6) (p7:=p7) (p8:=p8) (hpos:=hpos) (pos:=pos) RO I S.nd rfl rfl hD hXD hcs K0 (fun e=>Room.n (hr1.mono (by omega):Room 1 _) e) ht rfl rfl rfl (fun s' I'=>Dd.fn s' _ I'.base)
  (fun s' I'=>Dd.run _ _ s' _ (hr1.mono (by omega)) I'.env0 I'.base) hk0 hk hg hgy hdb0 hcd0 (by decide) hnd hncd hdy rfl rfl
 refine wpAny_execs_cons (wpAny_mono main (fun f s' q=>?_) fun _ _ z=>z)
 cases f with
 | next=>obtain ⟨_,_,_,z⟩:=q;exact z.elim
 | brk=>obtain ⟨_,_,_,z⟩:=q;exact z.elim
 | cont=>obtain ⟨_,_,_,z⟩:=q;exact z.elim
 | ret u=>
  obtain ⟨v,σ',H',J,rv,q⟩:=q
  exact ⟨v,H',J.os,J.bare,J.base,J.hok,rv,q⟩
end
section
variable {P:Program} {w:World} {K:qB} {mg:Str→Option Value} {base:Heap}
theorem a7a {k:Nat} {f c:Addr} {qual:Str} {params:Arguments} {body:Expr} {scope:Scope} {cl:List (Str×Addr)} {pm ct:Value} {fe:OEF} {A:Around} {outer:List Env} {s:Shared} {H G H0:Hp} {Rel:Hp→Hp→Prop} {β β':Sto} {o:Obj} {N:List Str} {σ:St} {ρ:List Ent} {r:Re PyData}
  (hr:Room (k+1) A) (e0:Env0 P w K mg base A outer s H) (ho:s.heap.get? f=some o) (hod:o.data=.func (PySem.W.kla_fn "<lambda>" qual params body scope cl pm (.ref c) ct)) (hcd:s.heap.CodeRec (.ref c) qual)
  (hk:scope.kind=.function) (hco:scope.isCoroutine=false) (hge:scope.isGenerator=false) (hnc:∀ x∈scope.names,x.2≠.cell)
  (hb:bindArgs (PySem.W.kla_fn "<lambda>" qual params body scope cl pm (.ref c) ct) ⟨[],[]⟩=pure [])
  (hbody:OE (cxL P w K mg base N (a4i qual scope s.heap.objs.size f (.ref c) cl) A outer s H (QxR K Rel r)) body fe)
  (C:Caps cl scope N σ H s.heap) (R:aR K H0 G G H σ ρ β) (hf:fe ρ β=some (r,β')) (hR:∀ G' H',aM G G'→iX K H0 G G' H' β'→Rel G' H') :
  codeAny (model P w) A (.call (.ref f) ⟨[],[]⟩) (CR (CX1 P w) outer P w H s (QvR K Rel r) (QxR K Rel r)) s:=by
 have lim:s.heap.NoLimit:=e0.mod.nolimit.keeps fun b o e=>(e0.bs b o e).1
 refine PySem.W.kla_callFunE hr.depth ho hod hco hge rfl hcd ?_
 rw [hb]
 refine wpAny_pure (wpAny_newFunctionEnv hnc (by simp) (fun h1 hns hsb=>?_) hk)
 have kp:∀ b o,s.heap.get? b=some o→h1.get? b=some o:=fun b o e=>hsb.extBut b o (qU (qG e)) (qC _ e)
 refine ⟨lim.keeps kp,PySem.W.kla_codeExpr ?_⟩
 have I:Inv (cxL P w K mg base N (a4i qual scope s.heap.objs.size f (.ref c) cl) A outer s H (QxR K Rel r)) [] σ H { s with heap:=h1,toks:=s.toks+([]:List (Str×Value)).length }:=b1J hk hnc hr.hd e0 C ⟨_,hns⟩ kp
 refine wpAny_mono (hbody.run [] _ σ H (QvR K Rel r) I ⟨ρ,β,r,β',H0,G,G,hf,R,?_⟩) (fun u' s' hs=>?_) fun e s' hs=>hs
 ·cases r with
  | ok d=>exact fun v G' H' s R' rv=>⟨G',d,rfl,hR G' H' s R'.grow,rv⟩
  | ex c'=>
   intro pins s' σ' H' G' e' I' R' sg ⟨a,C',e1,hE,xa⟩
   subst e1
   refine xB (X:=cxL P w K mg base N (a4i qual scope s.heap.objs.size f (.ref c) cl) A outer s H (QxR K Rel (.ex c'))) (fr:=fun b=>s.heap.get? b=none) I'.ok.frames rfl rfl I' (xa.mono fun b hb=>?_) (fun b hb=>?_) fun h' ch un hch hok x'=>?_
   ·rcases hb.1 with z | z
    ·cases z
    ·exact z
   ·cases z:s.heap.get? b with
    | none=>rfl
    | some o=>
     obtain ⟨o',z'⟩:=I'.base.there b o z (by intro w;cases w)
     rw [hb] at z';cases z'
   ·exact ⟨a,C',H',rfl,⟨G',C',c',rfl,rfl,hE,hR G' H' sg R'.grow⟩,I'.os,I'.bare,vQ I' rfl un hch,hok,x'⟩
 ·obtain ⟨v',H',J,rv,q⟩:=hs
  exact ⟨v',H',J.os,J.bare,J.base,J.hok,rv,q⟩
end
theorem aR.whole {K:qB} {H0 G₀ G H:Hp} {σ:St} {ρ:List Ent} {β:Sto} (R:aR K H0 G₀ G H σ ρ β) (hn:dU ρ=true) (cap:List (Option Nat)):∃ F:List Addr,aR K (less H F) G G H (eK cap σ) (cJ cap ρ) β∧∀ G' H' β',iX K (less H F) G G' H' β'→aR K H0 G₀ G' H' σ ρ β':=by
 obtain ⟨fps,S,R⟩:=R
 refine ⟨fps.flatten,⟨fps,⟨S.each,S.nd,fun x hx=>⟨dZ hx,(S.out x hx).2⟩⟩,by rw [a0z];exact R.cap cap⟩,fun G' H' β' ⟨fps',S',g⟩=>?_⟩
 have R':=RepS.back (fp:=fps.flatten) (fp':=fps'.flatten) R hn S.kind (fun x hx=>by
  rw [bX hx]
  obtain ⟨o,e,_⟩:=S.kind x hx
  rw [e];simp) (fun x hx=>⟨S'.kind x hx,S'.out x hx⟩) g
 refine ⟨fps',⟨S'.each,S'.nd,fun x hx=>⟨?_,(S'.out x hx).2⟩⟩,?_⟩
 ·by_cases h:x∈fps.flatten
  ·exact (S.out x h).1
  ·have hx:=(S'.out x hx).1
   rw [bP h] at hx
   have:=R.grow.hh.free hx
   rw [aU h] at this;exact this
 ·have eq:plus (less (plus H0 H fps.flatten) fps.flatten) H' fps'.flatten=plus H0 H' fps'.flatten:=by
   funext x
   by_cases h1:x∈fps'.flatten
   ·rw [bX h1,bX h1]
   ·rw [aU h1,aU h1]
    by_cases h:x∈fps.flatten
    ·rw [dZ h,(S.out x h).1]
    ·rw [bP h,aU h]
  rw [←eq];exact R'
def eW (L:List Str) (F:Str→Mm PyData) (cap:List (Option Nat)) (fe:OEF):OEF:=fun ρ β=>if dU ρ then (match fe (cJ cap ρ) β with
 | some (r,β')=>(nE L F r).map fun d=>(.ok d,β')
 | none=>none) else none
section
variable {X:Cx}
theorem dP {x q:Str} {L:List Str} {F:Str→Mm PyData} {k:Nat} {c T:Addr} {params:Arguments} {body:Expr} {scope:Scope} {lp p pos:Pos} {N':List Str} {cap:List (Option Nat)} {fe:OEF} (T0:ToldOkR X.prog X.w X.K X.mg X.base x L F) (hx:q∈bL) (ht:jc X.K q=some (c,T)) (hcode:X.env.code=.ref c)
  (hq:X.env.qual ++ "<lambda>" = lamQ q) (C:kX X.K c T=true) (M:BM X.mg X.base) (hr:Room (k+3) X.A) (B:Blk X scope N' cap) (hnc:∀ y∈scope.names,y.2≠.cell)
  (hbody:∀ (f c:Addr) (cl:List (Str×Addr)) (A:Around) (outer:List Env) (s:Shared) (H:Hp) (E:XK),Room k (A.deeper (a4i (lamQ q) scope s.heap.objs.size f (.ref c) cl))→OE (cxL X.prog X.w X.K X.mg X.base N' (a4i (lamQ q) scope s.heap.objs.size f (.ref c) cl) A outer s H E) body fe)
  (hbind:∀ (pm ct:Value) (c:Addr) (cl:List (Str×Addr)),bindArgs (PySem.W.kla_fn "<lambda>" (lamQ q) params body scope cl pm (.ref c) ct) ⟨[],[]⟩=pure []:=by intros;rfl)
  (hco:scope.isCoroutine=false:=by rfl) (hge:scope.isGenerator=false:=by rfl) (hdef:defaultsOf params X.env=([],[]):=by rfl)
  (he:starEach [.Lambda params body scope lp] X.env=(false,eval (.Lambda params body scope lp) X.env)::starEach [] X.env:=by rfl) (hpl:(backTo pos (starEach [] X.env)).any (·.1)=false:=by rfl) (hg:Gl X x:=by rfl) (hdb:(x==("__debug__" : Str))=false:=by decide) :
  OE X (.Call (.Name x p) [.Lambda params body scope lp] [] pos) (eW L F cap fe):=⟨fun pins s σ H Q I ⟨ρ,β,r0,β0,H0,G₀,G,e,R,qq⟩=>by
 unfold eW at e
 split at e
 ·rename_i hn
  split at e
  ·rename_i r β' er
   obtain ⟨d,ed,z⟩:=qD.mp e
   cases z
   obtain ⟨f,hm,kp,run⟩:=T0.ex
   refine wpAny_Call_Name_kw (iT I hg hm ?_ hdb)
   refine kF (h₀:=X.base) I.ok.mod.kin kp ?_ he hpl
   rw [he]
   show wpAny _ _ (spliced ((false,eval (.Lambda params body scope lp) X.env)::backTo pos (starEach [] X.env))) _ _ s
   obtain ⟨fps,S,R0⟩:=id R
   refine kU (a9a hx ht hcode hq C M hdef (gT fun p hp hk=>I.ok.has p.1 (.inl (B.free p hp hk))) I R0 fun fl c' ct pm H2 s2 I2 g2 fo Hf sf hc'=>?_)
   show wpAny _ _ (spliced []) _ _ s2
   refine kB ⟨I2.kIn,?_⟩
   have R2:=R.more g2
   obtain ⟨F,Ri,back⟩:=R2.whole hn cap
   have RL:RelOk X.K (fun G' H'=>aM G G'∧aR X.K H0 G₀ G' H' σ ρ β0):=⟨fun h=>⟨h.2.sub,h.2.tab⟩,fun h g=>⟨h.1.trans g.gg,h.2.more g⟩⟩
   have dd:DeedOkR X.prog X.w X.K X.mg X.base (k+1) s2 H2 (fun G' H'=>aM G G'∧aR X.K H0 G₀ G' H' σ ρ β0) r fl:=by
    refine ⟨fun s' fs un=>?_,fun A outer s' fs hrA e0 un=>?_⟩
    ·obtain ⟨sl,z⟩:=un.any fo Hf (by simp)
     exact ⟨_,_,_,_,z⟩
    ·obtain ⟨sl,z⟩:=un.any fo Hf (by simp)
     exact a7a hrA e0 z rfl (e0.hok c' _ hc').1 B.kind hco hge hnc (hbind pm ct c' _) (hbody _ _ _ _ _ _ _ _ (hrA.deeper _)) ((b2u B I2).more un) Ri er fun G' H' s g=>⟨s,back G' H' β0 g⟩
   refine wpAny_call (codeAny_mono (run (k+1) X.A X.stack s2 H2 _ r d fl hr I2.env0 RL dd ed) fun res s' hq=>?_)
   cases res with
   | error e2=>exact hq.elim
   | ok fl=>
    cases fl with
    | ret u=>
     obtain ⟨v,H',I',rv,G',⟨sg,g'⟩,rp⟩:=I2.after hq
     exact ⟨v,H',I',rv,qq v G' H' sg g' rp⟩
    | next=>exact qk hq
    | brk=>exact qk hq
    | cont=>exact qk hq
  ·cases e
 ·cases e⟩
end
end L2.L3
namespace L2.L3
open PySem PySem.Spec PyProof.Rows
end L2.L3
namespace L2.L3
open PySem PySem.Spec PySem.Calls PyProof.Rows
def oQ:BS:=⟨[],[],[]⟩
def spI (K:qB):Sp:=fun vs H Q _=>∃ x dx,vs=[.ref x]∧H x=some (.ins (fG K) dx [])∧∀ d l1 l2 (H6:Hp),H d=none→H l1=none→H l2=none→l1≠l2→H6 x=some (.ins (fG K) dx (bFs d l1 l2))→H6 d=some (.dK [])→H6 l1=some (.lst [])→H6 l2=some (.lst []) →
 (∀ y o,y≠x→H y=some o→H6 y=some o)→Q .non H6
def bF1 (d:Addr):List (Str×V):=[("sheets", .ref d)]
def bF2 (d l1:Addr):List (Str×V):=[("sheets", .ref d),("done", .ref l1)]
theorem b3N (d:Addr):iA "sheets" (.ref d) []=bF1 d:=rfl
theorem b3M (d l1:Addr):iA "done" (.ref l1) (bF1 d)=bF2 d l1:=by
 unfold bF1 bF2
 simp only [iA]
 rw [if_neg (by decide)]
theorem b3L (d l1 l2:Addr):iA "undone" (.ref l2) (bF2 d l1)=bFs d l1 l2:=by
 unfold bFs bF2
 simp only [iA]
 rw [if_neg (by decide),if_neg (by decide)]
section
variable {P:Program} {w:World} {K:qB} {mg:Str→Option Value} {base:Heap}
theorem a9h {st:Stmt} {fa:Addr} {fd:FuncData} {k:Nat} {a1 a2 a3 a4 b1 b2 b3 b4 c1 c2 c3 c4:Pos} (B:BCls K) (Fu:Fun K "__init__" "Binder.__init__" st fa fd) (S:FnScope ["self"] ["self"] (aC st)) (hv:(aC st).names.lookup ("self" : Str)=some .local)
  (hB:bI st=[.Assign [.Attribute (.Name "self" a1) "sheets" a2] (.Dict [] [] a3) a4,.Assign [.Attribute (.Name "self" b1) "done" b2] (.List [] b3) b4,.Assign [.Attribute (.Name "self" c1) "undone" c2] (.List [] c3) c4]) :
  FnOk P w K mg base CX0 (k+1) fa fd ["self"] (spI K):=by
 refine Fu.ok S (fun vs H Q E ⟨x,dx,e,_⟩=>by rw [e];rfl) (fun cdv A outer s H vs Q E hr ⟨x,dx,e,hx,q⟩=>?_)
 subst e
 rw [hB]
 have vis:Vis (tZ CX0 P w K mg base ["self"] "Binder.__init__" (aC st) fa cdv A outer s H E).nox.env.scope "self" := .inl hv
 refine ⟨_,a2F (a1s (cB (i:=0) rfl vis) a8s rfl) (a2F (a1s (cB (i:=0) rfl vis) (pF dR) rfl) (a1r (a1s (cB (i:=0) rfl vis) (pF dR) rfl))),?_⟩
 intro d hd
 have nxd:x≠d:=aL hx hd
 refine ⟨.ref x,rfl,x,_,dx,[],rfl,by rw [aG nxd];exact hx,B.cl,B.n1,by decide,?_⟩
 rw [b3N]
 refine ⟨jA _,fun l1 h1=>⟨.ref x,rfl,x,_,dx,bF1 d,rfl,?_,B.cl,B.n2,by show 1<1000;decide,?_⟩⟩
 ·rw [aG (aL aJ h1)];exact aJ
 rw [b3M]
 have nx1:x≠l1:=aL aJ h1
 have nd1:d≠l1:=fun z=>by rw [←z,aG (qr nxd),aJ] at h1;cases h1
 refine ⟨jA _,fun l2 h2=>⟨.ref x,rfl,x,_,dx,bF2 d l1,rfl,?_,B.cl,B.n3,by show 2<1000;decide,?_⟩⟩
 ·rw [aG (aL aJ h2)];exact aJ
 rw [b3L]
 have nx2:x≠l2:=aL aJ h2
 have n12:l1≠l2:=fun z=>by rw [←z,aG (qr nx1),aJ] at h2;cases h2
 have nd2:d≠l2:=fun z=>by rw [←z,aG (qr nxd),aG nd1,aG (qr nxd),aJ] at h2;cases h2
 have g1:H l1=none:=by rw [aG (qr nx1),aG (qr nd1)] at h1;exact h1
 have g2:H l2=none:=by rw [aG (qr nx2),aG (qr n12),aG (qr nx2),aG (qr nd2)] at h2;exact h2
 refine q d l1 l2 _ hd g1 g2 n12 aJ ?_ ?_ ?_ fun y o ny ey=>?_
 ·rw [aG (qr nxd),aG nd2,aG (qr nxd),aG nd1,aG (qr nxd),aJ]
 ·rw [aG (qr nx1),aG n12,aG (qr nx1),aJ]
 ·rw [aG (qr nx2),aJ]
 ·rw [aG ny,aG (aL ey g2),aG ny,aG (aL ey g1),aG ny,aG (aL ey hd)];exact ey
end
structure BMk (P:Program) (w:World) (K:qB) (mg:Str→Option Value) (base:Heap) (k:Nat):Prop where
 ex:∃ f fd,mg "Binder" = some (.ref (fG K))∧Mk K (fG K) f∧Binds K fd ["self"] []∧FnOk P w K mg base CX0 k f fd ["self"] (spI K)
section
variable {K:qB} {H0 G₀ G H:Hp} {σ:St} {ρ:List Ent} {β:Sto}
theorem RepS.setA {i:Nat} {a:Addr} (R:RepS K H0 G₀ G H σ ρ):RepS K H0 G₀ G H (σ.set i (some (.ref a))) (ρ.set i (.adr a)):=by
 refine ⟨R.grow,by simp [R.len],fun j o e h1 h2=>?_,R.inj.sub fun j e h1 h2=>?_,R.tab⟩
 ·rcases aP h1 with ⟨rfl,rfl,_⟩ | ⟨n,h1⟩
  ·rcases aP h2 with ⟨_,rfl,_⟩ | ⟨n,_⟩
   ·rfl
   ·exact absurd rfl n
  ·rcases aP h2 with ⟨z,_⟩ | ⟨_,h2⟩
   ·exact absurd z n
   ·exact R.ent j o e h1 h2
 ·rcases aP h1 with ⟨_,rfl,_⟩ | ⟨n,h1⟩
  ·cases h2
  ·exact ⟨h1,qt (qr n)⟩
theorem a6m {x:Addr} (R:aR K H0 G₀ G H σ ρ β) (h:H x=none):dG β x=none:=by
 cases q:dG β x with
 | none=>rfl
 | some b=>
  obtain ⟨_,_,_,_,_,_,_,h1,_⟩:=R.ob q
  rw [h] at h1;cases h1
theorem aR.made {H6:Hp} {x:Addr} {fp:List Addr} (R:aR K H0 G₀ G H σ ρ β) (hn:dU ρ=true) (hb:BOk K G H6 x oQ fp) (fr:∀ y∈fp,H y=none) (kp:∀ y o,H y=some o→H6 y=some o):aR K H0 G₀ G H6 σ ρ ((x,oQ)::β):=by
 obtain ⟨fps,S,R⟩:=R
 have s6:aM G H6:=fun y o e=>kp y o (R.sub y o e)
 have g:Grow G (plus (less H []) H6 fp) G H6:=vM s6 fun y o _ e=>kp y o e
 have R':=RepS.back (fp:=[]) (fp':=fp) R hn (fun y hy=>nomatch hy) (fun y hy=>nomatch hy) (fun y hy=>⟨hb.kind y hy,by rw [bP (by simp)];exact fr y hy,R.sub.free (fr y hy)⟩) g
 have nf:∀ y∈fps.flatten,y∉fp:=fun y hy z=>by obtain ⟨o,e,_⟩:=S.kind y hy;rw [fr y z] at e;cases e
 refine ⟨fp::fps,⟨.cons hb (oH S.each fun p f hf r=>r.keep (fun y o _ e _=>kp y o e) (.refl _)),?_,fun y hy=>?_⟩,?_⟩
 ·rw [qe,jh]
  exact ⟨hb.nd,S.nd,fun y hy z hz e=>by subst e;exact nf y hz hy⟩
 ·rw [qe,qg] at hy
  rcases hy with hy | hy
  ·refine ⟨?_,R.sub.free (fr y hy)⟩
   have n:y∉fps.flatten:=fun z=>nf y z hy
   have:=R.grow.hh.free (fr y hy)
   rw [aU n] at this;exact this
  ·exact S.out y hy
 ·have eq:plus (less (plus H0 H fps.flatten) []) H6 fp=plus H0 H6 (fp::fps).flatten:=by
   funext y
   rw [qe]
   by_cases h1:y∈fp
   ·rw [bX h1,bX (jD _ h1)]
   ·rw [aU h1,bP (by simp)]
    by_cases h2:y∈fps.flatten
    ·rw [bX h2,bX (qW _ h2)]
     obtain ⟨o,e,_⟩:=S.kind y h2
     rw [e,kp y o e]
    ·rw [aU h2,aU (fun z=>(qg.mp z).elim h1 h2)]
  rw [←eq];exact R'
theorem Grow.less {H0' G' H':Hp} (g:Grow G₀ H0 G' H') (h:aM H0' H0):Grow G₀ H0' G' H':=
 ⟨g.gg,⟨fun b o e n=>g.hh.keep b o (h b o e) n,fun b ps e=>g.hh.tbl b ps (h b _ e),fun P q t=>g.hh.tab P q (t.same h)⟩,g.sub,fun a e n=>g.new a e (fun z=>n (h.free z)),g.nt⟩
theorem iX.forget (g:iX K H0 G₀ G H β):iX K H0 G₀ G H []:=by
 obtain ⟨fps,S,g⟩:=g
 refine ⟨[],⟨.nil,.nil,fun x hx=>nomatch hx⟩,g.less fun x o e=>?_⟩
 rw [aU (by simp)] at e
 rw [aU (fun z=>by rw [(S.out x z).1] at e;cases e)];exact e
end
open Classical in
noncomputable def mkO (i:Nat) (js:List Nat) (fA:AF) (g:OSF):OSF:=fun ρ β=>if dU ρ then (if h:∃ d,∀ a,dG β a=none→∃ ds β',fA (vw ((a,oQ)::β) ρ)=some (.ok ds)∧js.length=ds.length∧g (eZ (ρ.set i (.adr a)) js ds) ((a,oQ)::β)=some (.rt d,β') then some (.rt h.choose,[]) else none) else none
theorem a6R (β:Sto):∃ a,dG β a=none:=by
 have:∀ β:Sto,∃ n,∀ a,n≤a→dG β a=none:=fun β=>by
  induction β with
  | nil=>exact ⟨0,fun a _=>rfl⟩
  | cons p β ih=>
   obtain ⟨n,h⟩:=ih
   refine ⟨max n (p.1+1),fun a ha=>?_⟩
   have h1:n≤a:=qj (Nat.le_max_left _ _) ha
   have h2:p.1+1≤a:=qj (Nat.le_max_right _ _) ha
   unfold dG
   rw [if_neg (qU h2),h a h1]
 obtain ⟨n,h⟩:=this β
 exact ⟨n,h n (qO _)⟩
theorem b4B {i:Nat} {js:List Nat} {fA:AF} {g:OSF} {ρ:List Ent} {β:Sto} {d:PyData} (hn:dU ρ=true) (h:∀ a,dG β a=none→∃ ds β',fA (vw ((a,oQ)::β) ρ)=some (.ok ds)∧js.length=ds.length∧g (eZ (ρ.set i (.adr a)) js ds) ((a,oQ)::β)=some (.rt d,β')):mkO i js fA g ρ β=some (.rt d,[]):=by
 have hh:∃ d,∀ a,dG β a=none→∃ ds β',fA (vw ((a,oQ)::β) ρ)=some (.ok ds)∧js.length=ds.length∧g (eZ (ρ.set i (.adr a)) js ds) ((a,oQ)::β)=some (.rt d,β'):=⟨d,h⟩
 unfold mkO
 rw [if_pos hn,dif_pos hh]
 obtain ⟨a,ha⟩:=a6R β
 obtain ⟨ds,β1,e1,_,e2⟩:=h a ha
 obtain ⟨ds',β1',e1',_,e2'⟩:=hh.choose_spec a ha
 rw [e1] at e1';cases e1'
 rw [e2] at e2'
 cases e2'
 rfl
theorem a3N {n:Nat} (h:n≤1000):n+1<sizeLine:=jd (Nat.succ_le_succ h) (by decide)
section
variable {X:Cx} {e b:Expr} {bs ts:List Expr} {rest:List Stmt} {pos p p1 p2 px py pt pt2:Pos} {x y:Str} {k:Nat} {fA:AF} {g:OSF} {js:List Nat}
theorem a6J {H0 G₀ G H:Hp} {σ:St} {ρ:List Ent} {β:Sto} {T:List V→Hp→Prop} (R:aR X.K H0 G₀ G H σ ρ β) (hn:dU ρ=true)
  (h:∀ x H6,H x=none→aR X.K H0 G₀ G H6 σ ρ ((x,oQ)::β)→rA X fA σ H6 fun vs H7=>T (.ref x::vs) H7):a7K (a7J (fG X.K) (spI X.K) [] (fun _ _ _=>False) b0s) (rA X fA) σ H T:=by
 intro x dx hx hdx hne
 refine ⟨x,dx,rfl,aJ,fun d l1 l2 H6 hd h1 h2 n12 e1 e2 e3 e4 kp=>⟨rfl,?_⟩⟩
 have up:∀ y,upd (upd H dx (.own x)) x (.ins (fG X.K) dx []) y=none→H y=none∧y≠x∧y≠dx:=fun y hy=>by
  have nx:y≠x:=fun z=>by rw [z,aJ] at hy;cases hy
  have nd:y≠dx:=fun z=>by rw [aG nx,z,aJ] at hy;cases hy
  rw [aG nx,aG nd] at hy
  exact ⟨hy,nx,nd⟩
 have edx:H6 dx=some (.own x):=kp dx _ hne (by rw [aG hne,aJ])
 have keep:∀ y o,H y=some o→H6 y=some o:=fun y o e=>kp y o (aL e hx) (by rw [aG (aL e hx),aG (aL e hdx)];exact e)
 have hb:BOk X.K G H6 x oQ [x,dx,d,l1,l2]:=⟨dx,d,l1,l2,[],[],[],rfl,n12,e1,edx,e2,e3,e4,⟨rfl,.nil⟩,.nil,.nil⟩
 refine h x H6 hx (R.made hn hb (fun y hy=>?_) keep)
 simp only [qM,kA,or_false] at hy
 rcases hy with rfl | rfl | rfl | rfl | rfl
 ·exact hx
 ·exact hdx
 ·exact (up _ hd).1
 ·exact (up _ h1).1
 ·exact (up _ h2).1
theorem b1s {H0 G₀ G H:Hp} {σ:St} {ρ:List Ent} {β:Sto} {i:Nat} {D:Ends} {o:So} {β':Sto} {T:List V→Hp→Prop} (R:aR X.K H0 G₀ G H σ ρ β) (ef:mkO i js fA g ρ β=some (o,β')) (q:lA X H0 G₀ G D β' o)
  (h:∀ x vs ds G7 H7,aM G G7→aR X.K H0 G₀ G7 H7 σ ρ ((x,oQ)::β)→RepAll X.K G7 vs ds→js.length=ds.length →
   (∀ G8 H8 σ8,aM G7 G8→aR X.K H0 G₀ G8 H8 σ8 (eZ (ρ.set i (.adr x)) js ds) ((x,oQ)::β)→rOS X g D σ8 H8)→T (.ref x::vs) H7):a7K (a7J (fG X.K) (spI X.K) [] (fun _ _ _=>False) b0s) (rA X fA) σ H T:=by
 unfold mkO at ef
 split at ef
 ·rename_i hn
  split at ef
  ·rename_i hh
   cases (qA ef)
   refine a6J R hn fun x H6 hx R6=>?_
   obtain ⟨ds,β1,e1,e2,e3⟩:=hh.choose_spec x (a6m R hx)
   obtain ⟨fps,S,R0⟩:=R6
   refine ⟨_,_,_,G₀,G,e1,RepS.view S R0,fun vs G7 H7 g7 rv=>?_⟩
   have R7:aR X.K H0 G₀ G7 H7 σ ρ ((x,oQ)::β):=.of S R0.grow.gg (R0.more g7) g7.gg
   exact h x vs ds G7 H7 g7.gg R7 rv e2 fun G8 H8 σ8 s8 R8=>⟨_,_,_,β1,H0,G₀,G8,e3,R8,fun v G9 H9 s9 g9 r9=>q v G9 H9 (g7.gg.trans (s8.trans s9)) g9.forget r9⟩
  ·cases ef
 ·cases ef
theorem a6b {st:Stmt} {D:Ends} {pins:List (Addr×Obj)} {s:Shared} {σ:St} {H:Hp} {t:TS} (hp:PS X st t) (hr:OB X rest g) (I:Inv X pins σ H s) (h:t { D with nx:=fun σ' H'=>rOS X g D σ' H' } σ H):wpAny (model X.prog X.w) X.A (execs (st::rest) X.env) (SP X pins D) X.xe s:=by
 refine wpAny_execs_cons (thn (hp pins s σ H _ I h) fun fl s1 z=>?_)
 cases fl with
 | next=>obtain ⟨σ',H',I',z⟩:=z;exact hr.run pins s1 σ' H' D I' z
 | ret v=>exact z
 | brk=>exact z
 | cont=>exact z
theorem b4o (i:Nat) {kt k2:Nat} (hc:X.calm=true) (hN:X.N.Nodup) (M:BMk X.prog X.w X.K X.mg X.base k) (hr:Room (k+1) X.A) (hb:DA X bs fA) (hts:DGs X ts js) (hrest:OB X rest g) (hgB:Gl X "Binder":=by rfl)
  (hi:X.N[i]?=some x:=by rfl) (hx:Loc X.env.scope x:=by first | exact qu rfl | exact qf rfl) (hf:X.fn x=true∨X.env.scope.names.lookup x=some .local:=by first | exact .inl rfl | exact .inr rfl)
  (hs1:starEach (.Call (.Name "Binder" p1) [] [] p2::bs) X.env=(false,eval (.Call (.Name "Binder" p1) [] [] p2) X.env)::starEach bs X.env:=by rfl)
  (ha:(assignEach (.Name x px::ts) X.env).map (·.2)=assign (.Name x px) X.env::(assignEach ts X.env).map (·.2):=by rfl) (hn:(assignEach (.Name x px::ts) X.env).length=js.length+1:=by rfl) (hst:(assignEach (.Name x px::ts) X.env).findIdx? (·.1)=none:=by rfl)
  (hw:swappedStores [.Tuple (.Name x px::ts) kt pt] (.Tuple (.Call (.Name "Binder" p1) [] [] p2::bs) k2 pt2) X.env=pure none:=by rfl)
  (hs:swapsWithSole [.Tuple (.Name x px::ts) kt pt] (.Tuple (.Call (.Name "Binder" p1) [] [] p2::bs) k2 pt2) pos.line X.env=pure false:=by rfl)
  (h1:(assignEach [.Tuple (.Name x px::ts) kt pt] X.env).map (·.2)=[assign (.Tuple (.Name x px::ts) kt pt) X.env]:=by rfl) (hz:js.length≤1000:=by decide) :
  OB X (.Assign [.Tuple (.Name x px::ts) kt pt] (.Tuple (.Call (.Name "Binder" p1) [] [] p2::bs) k2 pt2) pos::rest) (mkO i js fA g):=⟨fun pins s σ H D I ⟨ρ,β,o,β',H0,G₀,G,ef,R,q⟩=>by
 obtain ⟨f,fd,hm,mk,bd,F⟩:=M.ex
 -- the targets' reading speaks of the names' data at that point
 have hgs:∀ ρ' ds,js.length=ds.length→PGs X ts (b3z X.K ρ' ds (eZ ρ' js ds)):=fun ρ' ds hl=>(hts.run ρ' ds hl).run
 have hG:PG X (.Tuple (.Name x px::ts) kt pt) (b7a X.K (js.length+1) fun vs σ H Q=>∃ v r,vs=v::r∧∃ ρ' ds,js.length=ds.length∧b3z X.K ρ' ds (eZ ρ' js ds) r (σ.set i (some v)) H Q):=by
  refine a8n hc (fun pins s σ H vs us Q I r hw=>?_) hn hst
  obtain ⟨v,vr,e1,ρ',ds,hl,h⟩:=hw
  exact a2I (a5d hN hi hx hf) (hgs ρ' ds hl) ha pins s σ H vs us Q I r ⟨v,vr,e1,h⟩
 refine a6b (a8j (a3Y (cQ (a8q mk F hr hgB hm bd .nil b2P) hb.run hs1)) hG hs hw h1) hrest I ?_
 unfold b0u b6c
 refine b1s R ef q fun a vs ds G7 H7 s7 R7 rv hl k=>?_
 refine ⟨by rw [qb,rv.length,←hl];exact qv (a3N hz),fun pp hp=>?_⟩
 obtain ⟨fps,S,R0⟩:=R7.more (Grow.side (o:=.tup (.ref a::vs)) R7.sub hp)
 refine ⟨pp,.ref a::vs,rfl,.of aJ,by rw [qb,rv.length,hl],.ref a,vs,rfl,ρ.set i (.adr a),ds,hl,?_⟩
 exact ⟨_,G₀,G7,R0.setA,rv,fun σ' R'=>k G7 _ σ' (.refl _) (.of S R0.grow.gg R' (.refl _))⟩⟩
end
def a2B (m n:Nat) (f:OSF) (ds:List PyData):Mm PyData:=if ds.length=n then (match f (vX m ds) [] with
 | some (.rt d,_)=>some (.ok d)
 | _=>none) else none
theorem iX.nil {K:qB} {H0 G₀ G H:Hp} {β:Sto} (g:iX K H0 G₀ G H β):Grow G₀ H0 G H:=by
 obtain ⟨fps,S,g⟩:=g
 exact g.less fun x o e=>by rw [aU (fun z=>by rw [(S.out x z).1] at e;cases e)];exact e
theorem aR.start {K:qB} {G H:Hp} {σ:St} {ρ:List Ent} (R:RepS K H G G H σ ρ):aR K H G G H σ ρ []:=by
 refine ⟨[],⟨.nil,.nil,fun x hx=>nomatch hx⟩,?_⟩
 have:plus H H ([]:List (List Addr)).flatten=H:=by
  funext x
  rw [aU (by simp)]
 rw [this];exact R
section
variable {P:Program} {w:World} {K:qB} {mg:Str→Option Value} {base:Heap} {x:Str} {k:Nat} {ps N:List Str}
theorem a9A {st:Stmt} {f:OSF} {fa c T:Addr} {fd:FuncData} (m n:Nat) (Fu:Fun K x x st fa fd) (S:FnScope N ps (aC st)) (hm:N.length=m) (hn:ps.length=n) (kb:K.In base) (nb:base.Ns mainGlobals mg) (hmg:mg x=some (.ref fa)) (ht:jc K x=some (c,T))
  (body:∀ (A:Around) (outer:List Env) (s:Shared) (H:Hp) (E:XK),Room k (A.deeper (envOfC x (aC st) s.heap.objs.size fa (.ref c)))→OB (fcx P w K mg base N x (aC st) fa (.ref c) A outer s H E) (bI st) f) :
  FnOk P w K mg base CX0 (k+1) fa fd ps (spD K fun ds d=>a2B m n f ds=some (.ok d)):=by
 obtain ⟨oc,od,kV,doc,pm,an,cdv,ct,osl,rfl,lk,hcd⟩:=Fu.ex
 have hc:cdv=.ref c:=PySem.W.law_code kb nb ht hmg (kb _ _ lk) rfl
 subst hc
 refine a3e lk hcd S (fun vs H Q E ⟨G,ds,d,s,r,hF,_⟩=>?_) (fun A outer s H vs Q E hr ⟨G,ds,d,sm,r,hF,q⟩=>?_)
 ·have hF:a2B m n f ds=some (.ok d):=hF
  unfold a2B at hF
  split at hF
  ·rename_i hl;rw [r.length,hl,hn]
  ·cases hF
 ·have hF:a2B m n f ds=some (.ok d):=hF
  unfold a2B at hF
  split at hF
  ·rw [←hm,←sN] at hF
   split at hF
   ·rename_i d' β' e
    cases (qA hF)
    refine ⟨_,(body A outer s H E hr).run.nox,hV N ds,[],_,_,H,G,G,e,.start (gY sm r),fun v G' H' _ g rv=>q v G' H' g.nil rv⟩
   ·cases hF
  ·cases hF
end
end L2.L3
namespace L2.L3
open PySem PySem.Spec PySem.Calls PyProof.Rows
def iW:Stmt→Nat→Stmt
 | .ClassDef _ _ _ b _ _ _ _ _ _ _,j=>b.getD j (.Pass ⟨0,0,0,0⟩)
 | s,_=>s
section
variable {P:Program} {w:World} {K:qB} {mg:Str→Option Value} {base:Heap} {x qual m:Str} {k:Nat} {ps N:List Str} {C f:Addr} {st:Stmt} {oc:Value} {od an:Option Addr} {sl:Array (Option Value)} {kV doc pm cdv ct:Value}
theorem a2f (a0:qp K mainGlobals "Binder" = some (some (.ref C))):fG K=C:=by unfold fG;rw [a0]
theorem mdef_mk (a0:qp K mainGlobals "Binder" = some (some (.ref C))) (a:qm K (.ref C) m=some (some (.ref f))) (i:zK K (.ref f)=true)
  (l:K.lookup f=some ⟨oc,od,.func (jE m ("Binder." ++ m) (dQ st) (bI st) (aC st) .none kV doc pm an cdv ct),sl⟩) (c:jz K cdv ("Binder." ++ m)=true) (k:jC K (.ref f)=true):MDef K m st:=
 ⟨f,_,a1K l c k,by rw [a2f a0];exact ⟨a,i,k⟩⟩
theorem bcls_mk (a0:qp K mainGlobals "Binder" = some (some (.ref C))) (c1:kW K C Str.empty=true) (c2:zA K C=true) (c3:zo K C=true) (c4:qm K (.ref C) "__setattr__" = some (some (.builtin "object.__setattr__")))
  (n1:qm K (.ref C) "sheets" = some none) (n2:qm K (.ref C) "done" = some none) (n3:qm K (.ref C) "undone" = some none):BCls K:=by
 have e:=a2f a0
 refine ⟨?_,?_,?_,?_⟩<;>rw [e]
 ·exact ⟨c1,c2,c3,c4⟩
 ·exact n1
 ·exact n2
 ·exact n3
structure BIn (K:qB) (st:Stmt):Prop where
 ex:∃ f fd,qp K mainGlobals "Binder" = some (some (.ref (fG K)))∧Mk K (fG K) f∧Fun K "__init__" "Binder.__init__" st f fd
theorem bin_mk (a0:qp K mainGlobals "Binder" = some (some (.ref C))) (k1:PySem.W.makesIn K C=true) (k2:qm K (.ref C) "__init__" = some (some (.ref f))) (k3:zK K (.ref f)=true) (k4:jC K (.ref C)=true)
  (l:K.lookup f=some ⟨oc,od,.func (jE "__init__" "Binder.__init__" (dQ st) (bI st) (aC st) .none kV doc pm an cdv ct),sl⟩) (c:jz K cdv "Binder.__init__" = true) (k:jC K (.ref f)=true):BIn K st:=by
 have e:=a2f a0
 exact ⟨f,_,by rw [e];exact a0,by rw [e];exact ⟨k1,k2,k3,k4⟩,a1K l c k⟩
theorem b2A {h:Heap} {a1 a2 a3 a4 b1 b2 b3 b4 c1 c2 c3 c4:Pos} (X:K.In h) (G:h.Ns mainGlobals mg) (B:BCls K) (I:BIn K st) (S:FnScope ["self"] ["self"] (aC st)) (hv:(aC st).names.lookup ("self" : Str)=some .local)
  (hB:bI st=[.Assign [.Attribute (.Name "self" a1) "sheets" a2] (.Dict [] [] a3) a4,.Assign [.Attribute (.Name "self" b1) "done" b2] (.List [] b3) b4,.Assign [.Attribute (.Name "self" c1) "undone" c2] (.List [] c3) c4])
  (hb:∀ (kV doc pm:Value) (an:Option Addr) (cdv ct:Value) (us:List Value),us.length=["self"].length→bindArgs (jE "__init__" "Binder.__init__" (dQ st) (bI st) (aC st) .none kV doc pm an cdv ct) ⟨us,[]⟩=pure ((["self"]:List Str).zip us)):BMk P w K mg base 1:=by
 obtain ⟨f,fd,a0,M,Fu⟩:=I.ex
 exact ⟨f,fd,jl X G a0,M,Fu.binds hb,a9h (k:=0) B Fu S hv hB⟩
end
end L2.L3
namespace L2.L3
open PySem
theorem b0k {α:Type} {xs:List α} {p:Int} (h0:0≤p) (h1:p<xs.length) (dflt:α):atI xs p=some (xs.getD p.toNat dflt):=by
 have e:((p.toNat:Nat):Int)=p:=by omega
 have lt:p.toNat<xs.length:=by omega
 have q:=b5O (xs:=xs) p.toNat
 rw [e] at q
 rw [q]
 simp [zO,qN lt]
theorem a9u {α β:Type} (f:α→β) (xs:List α) (i:Nat) (d:α):(xs.map f).getD i (f d)=f (xs.getD i d):=by
 simp only [zO,qJ]
 cases xs[i]?<;>rfl
theorem a5T {α β:Type} (f:α→β) {xs:List α} {p:Int} (h0:0≤p) (h1:p<xs.length) (dflt:α):atI (xs.map f) p=some (f (xs.getD p.toNat dflt)):=by
 rw [b0k h0 (by rw [qQ];exact h1) (f dflt),a9u]
def cellOf (ns:List Int) (k:Int):Int:=
 if k<ns.length then ns.getD k.toNat 0 else if ns=[] then 0 else ns.getD (k % (ns.length:Int)).toNat 0*31+k
def drawnOf (ns:List Int) (k:Int):Int:=(cellOf ns k+6151*(k+1))*40692 % 2147483399
def pickOf (ns:List Int) (k many:Int):Int:=(drawnOf ns k*drawnOf ns k+drawnOf ns k / 31) % 2147483629 % many
abbrev dN (ns:List Int):PyData:=.list (ns.map .int)
theorem a4R {ds:List PyData} {n:Nat} (h1:∀ d∈ds,ki d=true) (h2:∀ d∈ds,zF d≤n) (h3:n<64):qa (.list ds)=true:=by
 refine a6l (n:=n+1) ?_ ?_ h3
 ·rw [ki];exact a1V h1
 ·rw [zF];have:=a3j h2;omega
theorem b0z (ns:List Int):qa (.list (ns.map .int))=true:=a4R (n:=1) (fun d hd=>by obtain ⟨i,_,rfl⟩:=je.mp hd;simp [ki]) (fun d hd=>by obtain ⟨i,_,rfl⟩:=je.mp hd;simp [zF]) (by decide)
theorem a3h {a b:List PyData} (h1:qa (.list a)=true) (h2:qa (.list b)=true):eqD (.list a) (.list b)=some (jq a b):=by
 show (if (qa (.list a)&&qa (.list b))=true then some (jW (.list a) (.list b)) else none)=_
 rw [h1,h2,if_pos (by rfl),a9E]
theorem a7T:qa (.list [])=true:=by decide +kernel
theorem b1S (ds:List PyData):jq ds []=ds.isEmpty:=by cases ds<;>simp [jq]
theorem a9F {ds:List PyData} (h:qa (.list ds)=true):eqD (.list ds) (.list [])=some ds.isEmpty:=by rw [a3h h a7T,b1S]
abbrev a6f:TF:=gS ltD (var 1) (iL xA (aB (var 0) aI))
abbrev a6d:TF:=gS eqD (var 0) (fL aI)
def xS:SF:=(eF (ifS a6f (retS (op2 ixD (var 0) (var 1))) iO) (eF (ifS a6d (retS (cst (.int 0))) iO) (retS (op2 nZ (op2 pX (op2 ixD (var 0) (op2 mZ (var 1) (iL xA (aB (var 0) aI)))) (cst (.int 31))) (var 1)))))
def sF:List PyData→Mm PyData:=mM 2 2 xS
def xR:SF:=(eF (sP 3 (op2 mZ (op2 pX (op2 nZ (bS sF (aB (var 0) (aB (var 1) aI))) (op2 pX (cst (.int 6151)) (op2 nZ (var 1) (cst (.int 1))))) (cst (.int 40692))) (cst (.int 2147483399)))) (retS (op2 mZ (op2 mZ (op2 nZ (op2 pX (var 3) (var 3)) (op2 b1P (var 3) (cst (.int 31)))) (cst (.int 2147483629))) (var 2))))
def dY:List PyData→Mm PyData:=mM 4 3 xR
theorem mL {m n:Nat} {f:SF} {ds:List PyData} {d:PyData} (hl:ds.length=n) (h:f (vX m ds)=some (.rt d)):mM m n f ds=some (.ok d):=by
 unfold mM;rw [if_pos hl,h]
theorem b1E {ns:List Int} {p:Int} (h0:0≤p) (h1:p<ns.length):ixD (.list (ns.map .int)) (.int p)=some (.int (ns.getD p.toNat 0)):=by
 show atI (ns.map PyData.int) p=_
 rw [a5T PyData.int h0 h1 0]
theorem b5i (ns:List Int) (k:Int) (h0:0≤k):sF [dN ns,.int k]=some (.ok (.int (cellOf ns k))):=by
 refine mL rfl ?_
 show xS [.val (dN ns),.val (.int k)]=_
 unfold xS cellOf
 by_cases h1:k<ns.length
 ·rw [a4S (d:=.int (ns.getD k.toNat 0)),if_pos h1]
  simp [h1]
  rw [a5T PyData.int h0 h1 0]
  simp
 ·rw [mE (ρ':=[.val (dN ns),.val (.int k)]) (by simp [h1]),if_neg h1]
  by_cases h2:ns=[]
  ·subst h2
   rw [a4S (d:=.int 0),if_pos rfl]
   have h:eqD (dN []) (.list [])=some true:=a9F a7T
   simp [h]
  ·have he:(ns.map PyData.int).isEmpty=false:=by cases ns with
    | nil=>exact absurd rfl h2
    | cons a r=>rfl
   have h:eqD (dN ns) (.list [])=some false:=by rw [a9F (b0z ns),he]
   rw [mE (ρ':=[.val (dN ns),.val (.int k)]) (by simp [h]),if_neg h2]
   have lp:(0:Int)<(ns.length:Nat):=by cases ns with
    | nil=>exact absurd rfl h2
    | cons a r=>simp<;>omega
   have a1:=kK k (b:=(ns.length:Int)) (by omega)
   have a2:=jo k lp
   have lp':0<ns.length:=by omega
   have ix:ixD (dN ns) (.int (k % (ns.length:Int)))=some (.int (ns.getD (k % (ns.length:Int)).toNat 0)):=b1E a1 a2
   have ml:pX (.int (ns.getD (k % (ns.length:Int)).toNat 0)) (.int 31)=some (.int (ns.getD (k % (ns.length:Int)).toNat 0*31)):=a1B (by decide) (by decide)
   simp only [tF,b6D,b2F,a7D,lV,b0i,bY,a4L,b6N,a8Z,b4A,qQ,if_pos lp,ix,a5N,ml,b5R,b0h]
theorem a9O (ns:List Int) (k:Int):0≤drawnOf ns k∧drawnOf ns k<2147483399:=⟨kK _ (by decide),jo _ (by decide)⟩
theorem a1P (ns:List Int) (k many:Int) (h0:0≤k) (hm:0<many):dY [dN ns,.int k,.int many]=some (.ok (.int (pickOf ns k many))):=by
 refine mL rfl ?_
 show xR [.val (dN ns),.val (.int k),.val (.int many),.no]=_
 have db:=a9O ns k
 unfold xR
 rw [mE (ρ':=[.val (dN ns),.val (.int k),.val (.int many),.val (.int (drawnOf ns k))])]
 ·have hsq:pX (.int (drawnOf ns k)) (.int (drawnOf ns k))=some (.int (drawnOf ns k*drawnOf ns k)):=a1B (by omega) (by omega)
  simp [hsq,hm,pickOf]
 ·have h2:pX (.int 6151) (.int (k+1))=some (.int (6151*(k+1))):=b1q (by decide) (by decide)
  have h3:pX (.int (cellOf ns k+6151*(k+1))) (.int 40692)=some (.int ((cellOf ns k+6151*(k+1))*40692)):=a1B (by decide) (by decide)
  simp [b5i ns k h0,h2,h3,drawnOf]
end L2.L3
namespace L2.L3
open PySem
abbrev uR:EF:=gL (.nm 0) [none] (yJ (var 0)) ttT (op2 ixD (var 0) (cst (.int 0)))
def pJ:SF:=(retS uR)
def cO:List PyData→Mm PyData:=mM 1 1 pJ
abbrev a3L:TF:=orT (eV (eT (op1 (isD "str") (var 0)))) (eV (b5H leD leD (cst (.int 1)) (iL xA (aB (var 0) aI)) (cst (.int 4))))
abbrev a4l:EF:=gL (.nm 0) [none] (b6K (var 0)) ttT (b5I leD leD (cst (.str "a")) (var 0) (cst (.str "z")))
def a6Y:SF:=(eF (ifS a3L (retS (cst (.bool false))) iO) (retS (iL allB (aB a4l aI))))
def aY:List PyData→Mm PyData:=mM 1 1 a6Y
def a4s:SF:=(retS (a7q (op1 (isD "int") (var 0)) (b4s (op1 (isD "bool") (var 0)))))
def eN:List PyData→Mm PyData:=mM 1 1 a4s
def nT:SF:=(retS (a7q (bS eN (aB (var 0) aI)) (a7q (bS eN (aB (var 1) aI)) (a9Z leD ltD leD (cst (.int 0)) (var 0) (var 1) (cst (.int 480))))))
def eS:List PyData→Mm PyData:=mM 2 2 nT
abbrev yI:TF:=orT (eV (eT (op1 (isD "tuple") (var 0)))) (gS neD (iL xA (aB (var 0) aI)) (cst (.int 3)))
def mS:SF:=(eF (ifS yI (retS (cst (.bool false))) iO) (retS (a7q (bS aY (aB (op2 ixD (var 0) (cst (.int 0))) aI)) (bS eS (aB (op2 ixD (var 0) (cst (.int 1))) (aB (op2 ixD (var 0) (cst (.int 2))) aI))))))
def gX:List PyData→Mm PyData:=mM 1 1 mS
abbrev a2q:TF:=orT (eV (eT (op1 (isD "tuple") (var 0)))) (gS gtD (iL xA (aB (var 0) aI)) (cst (.int 16)))
abbrev nR:EF:=gL (.nm 0) [none] (yJ (var 0)) ttT (bS gX (aB (var 0) aI))
abbrev uG:TF:=eV (eT (iL allB (aB nR aI)))
def nS:SF:=(retS (b5G eqD (var 0) (op1 a0g (var 0))))
def iY:List PyData→Mm PyData:=mM 1 1 nS
def pK:SF:=(eF (ifS a2q (retS (cst (.bool false))) iO) (eF (ifS uG (retS (cst (.bool false))) iO) (retS (bS iY (aB (bS cO (aB (var 0) aI)) aI)))))
def bV:List PyData→Mm PyData:=mM 1 1 pK
@[simp] theorem b9d (neg:Bool) (k:PyData) (fa:EF) (ρ:List Ent):isE neg k fa ρ=bnd (fa ρ) fun x=>lft ((isB k x).map fun t=>.bool (neg != t)):=rfl
@[simp] theorem b9c (neg:Bool) (k:PyData) (fa:EF) (ρ:List Ent):isT neg k fa ρ=bnd (fa ρ) fun x=>lft ((isB k x).map fun t=>neg != t):=rfl
@[simp] theorem b8r:isB (.bool true) (.bool true)=some true:=rfl
@[simp] theorem b8s:isB (.bool false) (.bool false)=some true:=rfl
@[simp] theorem b8n (ds:List PyData):isD "tuple" (.tuple ds)=some (.bool true):=rfl
@[simp] theorem b8p (i:Int):isD "int" (.int i)=some (.bool true):=rfl
@[simp] theorem b8q (i:Int):isD "bool" (.int i)=some (.bool false):=rfl
@[simp] theorem b8o (i:Str):isD "str" (.str i)=some (.bool true):=rfl
@[simp] theorem b7o (g1 g2 g3:PyData→PyData→Option Bool) (fa fb fc fd:EF) (ρ:List Ent):a9Z g1 g2 g3 fa fb fc fd ρ=bnd (fa ρ) fun x=>bnd (fb ρ) fun y=>bnd (lft (g1 x y)) fun t=>if t then bnd (fc ρ) fun z=>bnd (lft (g2 y z)) fun u=>if u then bnd (fd ρ) fun w=>lft ((g3 z w).map .bool) else some (.ok (.bool false)) else some (.ok (.bool false)):=rfl
theorem all_bools (bs:List Bool):allB [.list (bs.map .bool)]=some (.bool (bs.all id)):=by
 show (iP nX (bs.map .bool)).map _=_
 rw [yD (g:=.bool) (fun _=>rfl) bs];rfl
theorem b1U {b e:Int} (h:0≤b∧b<e∧e≤480):eS [.int b,.int e]=some (.ok (.bool true)):=by
 have w:∀ i:Int,eN [.int i]=some (.ok (.bool true)):=fun i=>by kernel_rfl
 refine mL rfl ?_
 show nT [.val (.int b),.val (.int e)]=_
 simp [nT,w,h.1,h.2.1,h.2.2]
structure MtOk (m:Mt):Prop where
 name:aY [.str m.1]=some (.ok (.bool true))
 ok:zE m.1=true
 times:0≤m.2.1∧m.2.1<m.2.2∧m.2.2≤480
theorem a6Z {m:Mt} (h:MtOk m):gX [dM m]=some (.ok (.bool true)):=by
 refine mL rfl ?_
 show mS [.val (dM m)]=_
 unfold mS
 rw [mE (ρ':=[.val (dM m)]) (by simp)]
 simp [h.name,b1U h.times]
theorem b1V (s:List Mt) (hz:s.length≤100000):cO [dS s]=some (.ok (.list ((s.map (·.1)).map .str))):=by
 refine mL rfl ?_
 show pJ [.val (dS s)]=_
 have k1:uR [.val (dS s)]=some (.ok (.list (s.map fun m=>.str m.1))):=a0O dM (fun m=>[.val (dM m)]) (fun m=>.str m.1) s (by simp) hz (fun m _=>by simp [cJ]) (fun m _=>by simp)
 unfold pJ
 rw [tF,k1,jT]
 rfl
theorem a7r (ns:List Str) (h:ns≠[]):iP intD (ns.map .str)=none:=by
 cases ns with
 | nil=>exact absurd rfl h
 | cons a r=>rfl
theorem a6i (ns:List Str) (h:ns.length<64):a0g (.list (ns.map .str))=some (.list ((gH (fU ns)).map .str)):=by
 by_cases e:ns=[]
 ·subst e;simp [a0g,iP,xW,fU,sortI,gH]
 ·simp only [a0g,a7r ns e,a6g,if_pos h]
theorem a3l:∀ (ns acc:List Str),(∀ x∈ns,x∉acc)→ns.Nodup→ns.foldl (fun a n=>if n∈a then a else a++[n]) acc=acc++ns
 | [],acc,_,_=>by simp
 | n::ns,acc,h,hn=>by
  have h':=jv.mp hn
  rw [List.foldl_cons,if_neg (h n (by simp)),a3l ns (acc++[n]) (fun x hx=>?_) h'.2,zw]
  ·rfl
  ·simp only [qg,qh,not_or]
   exact ⟨h x (by simp [hx]),fun z=>h'.1 (z▸hx)⟩
theorem a4x {ns:List Str} (h:ns.Nodup):fU ns=ns:=by unfold fU;rw [a3l ns [] (by simp) h];rfl
theorem oN:∀ (ns acc:List Str),acc.Nodup→(ns.foldl (fun a n=>if n∈a then a else a++[n]) acc).Nodup∧∀ x∈ns.foldl (fun a n=>if n∈a then a else a++[n]) acc,x∈acc∨x∈ns
 | [],acc,h=>⟨h,fun x hx=>.inl hx⟩
 | n::ns,acc,h=>by
  rw [List.foldl_cons]
  split
  ·obtain ⟨a,b⟩:=oN ns acc h
   exact ⟨a,fun x hx=>(b x hx).imp id fun z=>qE _ z⟩
  ·rename_i hn
   obtain ⟨a,b⟩:=oN ns (acc++[n]) (by
    rw [jh]
    exact ⟨h,by simp,fun x hx y hy=>by rw [qh] at hy;subst hy;exact fun z=>hn (z▸hx)⟩)
   refine ⟨a,fun x hx=>?_⟩
   rcases b x hx with z | z
   ·rcases qg.mp z with z | z
    ·exact .inl z
    ·exact .inr (by rw [qh] at z;rw [z];simp)
   ·exact .inr (qE _ z)
theorem a3k (ns:List Str):(fU ns).Nodup:=(oN ns [] .nil).1
theorem a7c {ns:List Str} {x:Str} (h:x∈fU ns):x∈ns:=((oN ns [] .nil).2 x h).elim (fun z=>by cases z) id
theorem a4Q {ns:List Str} (h:∀ x∈ns,zE x=true):qa (.list (ns.map .str))=true:=a4R (n:=1) (fun d hd=>by obtain ⟨i,hi,rfl⟩:=je.mp hd;simpa [ki] using h i hi) (fun d hd=>by obtain ⟨i,_,rfl⟩:=je.mp hd;simp [zF]) (by decide)
theorem b1T {a b:List Str} (h1:∀ x∈a,zE x=true) (h2:∀ x∈b,zE x=true):eqD (.list (a.map .str)) (.list (b.map .str))=some (decide (a=b)):=by rw [a3h (a4Q h1) (a4Q h2),uT]
theorem pL (s:List Mt) (hz:s.length≤16) (h:∀ m∈s,MtOk m):bV [dS s]=some (.ok (.bool (decide (s.map (·.1)=gH (fU (s.map (·.1))))))):=by
 refine mL rfl ?_
 show pK [.val (dS s)]=_
 have hz':¬(16:Int)<(s.length:Nat):=by omega
 have k1:nR [.val (dS s)]=some (.ok (.list ((s.map fun _=>true).map .bool))):=by
  rw [show (s.map fun _=>true).map vC=s.map fun _=>vC true by simp [Function.comp_def]]
  exact a0O dM (fun m=>[.val (dM m)]) (fun _=>.bool true) s (by simp) (by omega) (fun m _=>by simp [cJ]) (fun m hm=>by simp [a6Z (h m hm)])
 have ha:(s.map fun _=>true).all id=true:=by simp
 have t2:uG [.val (dS s)]=some (.ok false):=by
  show eV (eT (iL allB (aB nR aI))) _=_
  rw [b4r,b3t,b0i,bY,k1]
  simp only [lV,a4L,a8Z,all_bools,ha,b3u,Bool.not_true]
 have ok1:∀ x∈s.map (·.1),zE x=true:=fun x hx=>by obtain ⟨m,hm,rfl⟩:=je.mp hx;exact (h m hm).ok
 unfold pK
 rw [mE (ρ':=[.val (dS s)]) (by simp [hz']),mE (ρ':=[.val (dS s)]) (by rw [rF,t2];simp)]
 have hss:=a6i (s.map (·.1)) (by rw [qQ];omega)
 have he:=b1T (a:=s.map (·.1)) (b:=gH (fU (s.map (·.1)))) ok1 (fun x hx=>ok1 x (a7c ((fP _).mem_iff.mp hx)))
 have er:iY [.list ((s.map (·.1)).map .str)]=some (.ok (.bool (decide (s.map (·.1)=gH (fU (s.map (·.1))))))):=by
  refine mL rfl ?_
  show nS [.val (.list ((s.map (·.1)).map .str))]=_
  unfold nS
  rw [tF,b5F]
  simp only [b2F,a7D,lV,b6E,hss,a8Z,he,Option.map_some,b0h]
 rw [tF,a2b,bY,a2b,bY]
 simp only [a7D,lV,a4L,b1V s (by omega),er,b0h]
theorem uU (s:List Mt) (hz:s.length≤16) (h:∀ m∈s,MtOk m) (hn:(s.map (·.1)).Nodup) (hp:(s.map (·.1)).Pairwise (fun a b=>cH a b=true)):bV [dS s]=some (.ok (.bool true)):=by
 rw [pL s hz h,a4x hn,decide_eq_true (pB (fP _).symm hp (mD _))]
theorem yV (s:List Mt) (hz:s.length≤16) (h:∀ m∈s,MtOk m) (hn:¬(s.map (·.1)).Nodup):bV [dS s]=some (.ok (.bool false)):=by
 rw [pL s hz h,decide_eq_false fun e=>hn (by rw [e];exact (fP _).nodup_iff.mpr (a3k _))]
theorem yW (s:List Mt) (hz:s.length≤16) (h:∀ m∈s,MtOk m) (hn:¬(s.map (·.1)).Pairwise (fun a b=>cH a b=true)):bV [dS s]=some (.ok (.bool false)):=by
 rw [pL s hz h,decide_eq_false fun e=>hn (by rw [e];exact mD _)]
end L2.L3
namespace L2.L3
open PySem
@[simp] theorem b9o (a b c d e:α) (r:List α):atI (a::b::c::d::e::r) 4=some e:=by
 unfold atI ixN
 rw [if_pos (by decide),if_pos (by simp<;>omega)];rfl
@[simp] theorem b9n (a b c d e f:α) (r:List α):atI (a::b::c::d::e::f::r) 5=some f:=by
 unfold atI ixN
 rw [if_pos (by decide),if_pos (by simp<;>omega)];rfl
theorem eM {F:List PyData→Mm PyData} {aa:AF} {ρ:List Ent} {ds:List PyData} {d:PyData} (ha:aa ρ=some (.ok ds)) (h:F ds=some (.ok d)):bS F aa ρ=some (.ok d):=by
 rw [a2b,ha,lV,h]
theorem a2S {fa fb:EF} {ρ:List Ent} {x y:PyData} {r:Bool} (ha:fa ρ=some (.ok x)) (hb:fb ρ=some (.ok y)) (h:neD x y=some r):gS neD fa fb ρ=some (.ok r):=by
 rw [b5E,ha,lV,hb,lV,h];rfl
theorem a7H {f:TF} {ρ:List Ent} {b:Bool} (h:f (frzAll ρ)=some (.ok b)):thT f ρ=some (.ok b):=by unfold thT;rw [h]
end L2.L3
namespace L2.L3
open PySem
end L2.L3
namespace L2.L3
open PySem
end L2.L3
namespace L2.L3
open PySem
def b5a (m:Int) (x:Mt):Bool:=decide (x.2.1≤m)&&decide (m<x.2.2)
def b1m (s:List Mt) (m:Int):List Str:=(s.filter (b5a m)).map (·.1)
def b4E (s:List Mt) (m:Int):Int:=((b1m s m).length:Nat)
section
variable {s:List Mt} {lo hi:Int} {r:List Int}
end
end L2.L3
namespace L2.L3
open PySem
def gr:List Mt→Option Int→List Mt
 | [],_=>[]
 | m::r,none=>m::gr r (some m.2.2)
 | m::r,some e=>if e≤m.2.1 then m::gr r (some m.2.2) else gr r (some e)
end L2.L3
namespace L2.L3
open PySem PySem.Spec PyProof.Rows
def b6S (kf:Mt→PyData) (x:Mt):List Mt→List Mt
 | []=>[x]
 | y::l=>if ltT (kf y) (kf x) then y::b6S kf x l else x::y::l
def b7P (kf:Mt→PyData) (s:List Mt):List Mt:=s.foldr (b6S kf) []
section
variable {kf:Mt→PyData}
end
end L2.L3
namespace L2.L3
open PySem PySem.Spec PyProof.Rows
end L2.L3
namespace L2.L3
open PySem
section
variable {nm:Str} {b z v:Int} {n:Nat} {o:List Int}
end
section
variable {nm nm':Str} {b z v b' z' v':Int} {n n':Nat} {o o':List Int}
end
abbrev ov (x y:Mt):Prop:=max x.2.1 y.2.1<min x.2.2 y.2.2
end L2.L3
namespace L2.L3
open PySem PySem.Spec PyProof.Rows
abbrev kL (m:Mt):PyData:=.tuple [.int m.2.1,.int (-m.2.2),.str m.1]
def b8j (s:List Mt):List Mt:=b7P kL s
abbrev Ly:=Mt×Nat
def taken (P:List Ly) (m:Mt):List Int:=(P.filter fun p=>decide (ov m p.1)).map fun p=>(p.2:Int)
def b3d:List Ly→Str→Nat
 | [],_=>0
 | p::P,x=>if p.1.1=x then p.2 else b3d P x
end L2.L3
namespace L2.L3
open PySem PySem.Spec PyProof.Rows
section
variable {L:List Mt} {P:List Ly}
end
def b4z (L:List Mt):Int:=if L=[] then 0 else b6J (L.map fun x=>b4E L x.2.1)
end L2.L3
namespace L2.L3
open PySem
def a9o:List Mt→List Mt→Int→List (List Mt)
 | [],cur,_=>[cur]
 | m::l,cur,reach=>if m.2.1<reach then a9o l (cur++[m]) (max reach m.2.2) else cur::a9o l [m] m.2.2
def b6X:List Mt→List (List Mt)
 | []=>[]
 | m::l=>a9o l [m] m.2.2
end L2.L3
namespace L2.L3
open PySem PySem.Spec PyProof.Rows
section
variable {K:qB} {H0 G₀ G H:Hp} {σ:St} {ρ:List Ent}
end
end L2.L3
namespace L2.L3
open PySem PySem.Spec PyProof.Rows
section
variable {X:Cx} {rest:List Stmt} {f:SF} {fa:EF} {e:Expr} {es:List Expr} {pos:Pos}
end
end L2.L3
namespace L2.L3
open PySem PySem.Spec PyProof.Rows
end L2.L3
namespace L2.ZT
open PySem PyProof.Rows
section
variable {prog:Program} {w:World} {A:Around} {E:Value→Shared→Prop} {s:Shared}
variable {z TI TO c d t u:Addr} {i j:Nat} {xs ys:Array Value} {a b:Value}
end
section
variable {prog:Program} {w:World} {A:Around} {E:Value→Shared→Prop} {s:Shared}
end
end L2.ZT
namespace L2.L3
open PySem PySem.Spec PyProof.Rows
section
variable {X:Cx} {a b:Expr} {elts:List Expr} {k0:Nat} {p0 pos p:Pos} {fa fb:EF}
end
def prt (s:List Mt) (m:Mt):List Mt:=s.filter fun o=>!decide (o.1=m.1)&&decide (ov m o)
def gof (s:List Mt) (m:Mt):List Mt:=((b6X (b8j s)).find? fun A=>decide (m∈A)).getD []
def grp (s:List Mt) (m:Mt):List Mt:=s.filter fun a=>decide (a∈gof s m)
def wid (s:List Mt) (m:Mt):Int:=b4z (grp s m)
section
variable {s:List Mt}
variable (hp:∀ m∈s,m.2.1<m.2.2)
include hp
omit hp
abbrev cl (P:List Ly) (m:Mt):Int:=(b3d P m.1:Nat)
variable {P:List Ly}
def lst (s:List Mt) (P:List Ly) (m:Mt):Int:=b6I ((wid s m::(prt s m).map (cl P)).filter fun c=>decide (cl P m<c))
end
end L2.L3
namespace L2.L3
open PySem
def dn (m:Mt):Nat:=((m.2.2 - 1) / 48+1 - m.2.1 / 48).toNat
variable {m:Mt}
end L2.L3
namespace L2.L3
open PySem PySem.Spec PyProof.Rows
abbrev vS:TF:=gS eqD (op2 ixD (var 2) (cst (.int 0))) (var 1)
abbrev yB:SF:=ifS vS (retS (var 2)) iO
def yT:SF:=(eF (b4q (b5d (.nm 2) (yJ (var 0)) yB)) (fQ "NoMeeting"))
def lL:List PyData→Mm PyData:=uX 3 2 yT
abbrev mC:TF:=eV (eT (bS eS (aB (var 0) (aB (var 1) aI))))
def nA:SF:=(ifS mC (fQ "NoTime") iO)
def cA:List PyData→Mm PyData:=uX 2 2 nA
abbrev a6e:TF:=eV (eT (bS eN (aB (var 1) aI)))
def a9C:SF:=(eF (ifS a6e (fQ "NoTime") iO) (retS (op2 nZ (var 0) (var 1))))
def sC:List PyData→Mm PyData:=uX 2 2 a9C
abbrev oP:EF:=gL (.nm 0) [none,some 2] (yJ (var 0)) (gS neD (op2 ixD (var 0) (cst (.int 0))) (op2 ixD (var 1) (cst (.int 0)))) (var 0)
def pI:SF:=(eF (sP 2 (lU lL (aB (var 0) (aB (var 1) aI)))) (retS (iL uW (aB oP aI))))
def cN:List PyData→Mm PyData:=uX 3 2 pI
abbrev sM:TF:=gS inX (var 1) (bS cO (aB (var 0) aI))
abbrev sL:TF:=gS geD (iL xA (aB (var 0) aI)) (cst (.int 16))
def vH:SF:=(eF (ifS sM (fQ "Taken") iO) (eF (a5y (lU cA (aB (var 2) (aB (var 3) aI)))) (eF (ifS sL (fQ "TooMany") iO) (retS (iL uW (aB (iL b0v (aB (op2 nZ (var 0) (cR (aB (cR (aB (var 1) (aB (var 2) (aB (var 3) aI)))) aI))) aI)) aI))))))
def cE:List PyData→Mm PyData:=uX 4 4 vH
theorem b0C {f g:SF} {ρ ρ':List Ent} {c:Str} (h:f ρ=some (.xc c ρ')):eF f g ρ=some (.xc c ρ'):=by unfold eF;rw [h]
theorem b2v (F:List PyData→Mm PyData) (fa:AF) (ρ:List Ent):lU F fa ρ=bnd (fa ρ) F:=rfl
theorem rV {F:List PyData→Mm PyData} {fa:AF} {ρ:List Ent} {ds:List PyData} {r:Re PyData} (ha:fa ρ=some (.ok ds)) (h:F ds=some r):lU F fa ρ=some r:=by rw [b2v,ha,lV,h]
def repl (x:Str) (b e:Int) (m:Mt):Mt:=if m.1=x then (m.1,b,e) else m
end L2.L3
namespace HT
open PySem PySem.Spec PyProof.Rows
section
variable {prog:Program} {w:World} {A:Around} {E:Value→Shared→Prop} {s:Shared}
end
end HT
namespace L2
open PySem PySem.Spec PyProof.Rows
end L2
namespace L2.L3
open PySem PySem.Spec PyProof.Rows
section
variable {X:Cx} {a:Expr} {lo hi:Option Expr} {fa:EF} {fl fh:OF} {pos p2:Pos}
end
noncomputable abbrev a2p:OTF:=upT (isT false (.none) (var 2))
noncomputable def a1N:OSF:=(ifO a2p (a2H 0 (var 1)) (a2D 0 (var 1) (var 2)))
noncomputable def gW:BS→List PyData→Option (Re PyData×BS):=pD 3 2 a1N
noncomputable def lH:OSF:=(bF (a4J false 0 (cR (aB (var 1) (aB (var 2) (aB (b5c 0 (var 2)) (aB (var 3) aI)))))) (bF (a9X 0) (bF (lQ (bJ gW 0 (aB (var 2) (aB (var 3) aI)))) (upS (retS (var 3))))))
noncomputable def aQ:BS→List PyData→Option (Re PyData×BS):=pD 4 3 lH
noncomputable abbrev vT:TF:=orT (eV (eT (bS aY (aB (var 1) aI)))) (eV (eT (bS bV (aB (var 2) aI))))
noncomputable def rJ:OSF:=(bF (upS (ifS vT (fQ "NoSheet") iO)) (bF (upS (sP 3 (inF 0 (var 1)))) (bF (lQ (bJ aQ 0 (aB (cst (.str "lay")) (aB (var 1) (aB (var 2) aI))))) (upS (retS (var 3))))))
noncomputable def gA:BS→List PyData→Option (Re PyData×BS):=pD 4 2 rJ
def yU:SF:=(eF (a5y (lU cA (aB (var 1) (aB (var 2) aI)))) (retS (cR (aB (var 0) (aB (var 1) (aB (var 2) aI))))))
def lM:List PyData→Mm PyData:=uX 3 3 yU
abbrev a3a:EF:=a9V (.tp [0,1,2]) [none,none,none,some 1] (yJ (var 0)) ttT (lU lM (aB (var 0) (aB (lU sC (aB (var 1) (aB (var 3) aI))) (aB (lU sC (aB (var 2) (aB (var 3) aI))) aI))))
def a4r:SF:=(retS (iL uW (aB a3a aI)))
def iN:List PyData→Mm PyData:=uX 2 2 a4r
abbrev lB:TF:=orT (eV (eT (bS aY (aB (var 1) aI)))) (b4w 0 (var 1))
def fE:SF:=(eF (ifS lB (fQ "NoSheet") iO) (retS (ixF 0 (var 1))))
def aF:BS→List PyData→Mm PyData:=yM 2 1 fE
noncomputable def a6U:OSF:=(tG (bJ aQ 0 (aB (cst (.str "shift")) (aB (var 1) (aB (lU iN (aB (iE aF 0 (aB (var 1) aI)) (aB (var 2) aI))) aI)))))
noncomputable def eR:BS→List PyData→Option (Re PyData×BS):=pD 3 2 a6U
noncomputable abbrev a0c:TF:=emF false 0
noncomputable def xQ:OSF:=(bF (upS (ifS a0c (fQ "NoBack") iO)) (bF (a0n false 0 1) (bF (a4J true 0 (var 1)) (bF (lQ (bJ gW 0 (aB (op2 ixD (var 1) (cst (.int 1))) (aB (op2 ixD (var 1) (cst (.int 2))) aI)))) (upS (retS (op2 ixD (var 1) (cst (.int 0)))))))))
noncomputable def oB:BS→List PyData→Option (Re PyData×BS):=pD 2 0 xQ
abbrev a3K:TF:=thT (orT (gS neD (dfE b5y (var 1) (cst (.bool true))) (cst (.int 1))) (eV (eT (b4W bK 0))))
def a6X:SF:=(eF (a8O 1 (aB (yQ bK 0 "NoBack") (aB (yQ bK 0 "NoMeeting") (aB (yQ bK 0 "NoSheet") aI)))) (eF (b1R 1 (fL (aB (yQ bK 0 "NoText") aI))) (a9y 1 (eF (a1A 1 (var 1) (fL (aB (yQ bK 0 "NoTime") (aB (yQ bK 0 "NoZone") (aB (yQ bK 0 "Taken") aI))))) (a9y 1 (eF (a1A 1 (var 1) (fL (aB (yQ bK 0 "TooMany") aI))) (eF (ifS a3K (retS (cst (.str "wrong"))) iO) (eF (sP 2 (fL (aB (cst (.str "no back")) (aB (cst (.str "no meeting")) (aB (cst (.str "no sheet")) (aB (cst (.str "no text")) (aB (cst (.str "no time")) (aB (cst (.str "no zone")) (aB (cst (.str "taken")) (aB (cst (.str "too many")) aI)))))))))) (a9y 1 (retS (op2 ixD (var 2) (dfE b4Z (var 1) (cst (.bool true))))))))))))))
def aS:Str→Mm PyData:=b3I 3 a6X
def tV:SF:=(retS (b3E 0))
def lY:BS→List PyData→Mm PyData:=yM 1 0 tV
def a6W:SF:=(retS (cR (aB (b1w false 0) (aB (b1w true 0) aI))))
def lZ:BS→List PyData→Mm PyData:=yM 1 0 a6W
noncomputable abbrev vU:TF:=emF true 0
noncomputable def tW:OSF:=(bF (upS (ifS vU (fQ "NoBack") iO)) (bF (a0n true 0 1) (bF (a4J false 0 (var 1)) (bF (lQ (bJ gW 0 (aB (op2 ixD (var 1) (cst (.int 1))) (aB (op2 ixD (var 1) (cst (.int 3))) aI)))) (upS (retS (op2 ixD (var 1) (cst (.int 0)))))))))
noncomputable def mB:BS→List PyData→Option (Re PyData×BS):=pD 2 0 tW
noncomputable def a9B:OSF:=(tG (bJ aQ 0 (aB (cst (.str "drop")) (aB (var 1) (aB (lU cN (aB (iE aF 0 (aB (var 1) aI)) (aB (var 2) aI))) aI)))))
noncomputable def eL:BS→List PyData→Option (Re PyData×BS):=pD 3 2 a9B
noncomputable def b1Q:OSF:=(tG (bJ aQ 0 (aB (cst (.str "add")) (aB (var 1) (aB (lU cE (aB (iE aF 0 (aB (var 1) aI)) (aB (var 2) (aB (var 3) (aB (var 4) aI))))) aI)))))
noncomputable def fJ:BS→List PyData→Option (Re PyData×BS):=pD 5 4 b1Q
noncomputable def xP:OSF:=(bF (upS (sP 2 (iE aF 0 (aB (var 1) aI)))) (bF (lQ (bJ aQ 0 (aB (cst (.str "take")) (aB (var 1) (aB (cst .none) aI))))) (upS (retS (var 2)))))
noncomputable def sB:BS→List PyData→Option (Re PyData×BS):=pD 3 1 xP
abbrev xG:EF:=gL (.nm 0) [none,some 1] (yJ (bS cO (aB (var 0) aI))) (gS a8M (var 0) (bS cO (aB (var 1) aI))) (var 0)
def yS:SF:=(retS xG)
def fZ:List PyData→Mm PyData:=mM 2 2 yS
abbrev uZ:EF:=gL (.nm 0) [none,some 1] (yJ (var 0)) (b5P (gS a8M (var 0) (var 1)) (gS inX (op2 ixD (var 0) (cst (.int 0))) (bS cO (aB (var 1) aI)))) (op2 ixD (var 0) (cst (.int 0)))
def xO:SF:=(eF (sP 2 uZ) (retS (cR (aB (bS fZ (aB (var 0) (aB (var 1) aI))) (aB (bS fZ (aB (var 1) (aB (var 0) aI))) (aB (var 2) aI))))))
def iM:List PyData→Mm PyData:=mM 3 2 xO
abbrev a3J:TF:=eT (op2 ixD (bS iM (aB (var 0) (aB (var 1) aI))) (cst (.int 2)))
abbrev a4j:EF:=gL (.nm 0) [none,some 0] (yJ (var 1)) (gS a8M (var 0) (var 1)) (var 0)
abbrev a3I:TF:=gS gtD (iL xA (aB (var 2) aI)) (cst (.int 16))
def a6T:SF:=(eF (ifS a3J (fQ "Taken") iO) (eF (sP 2 (op2 nZ (var 0) (iL uW (aB a4j aI)))) (eF (ifS a3I (fQ "TooMany") iO) (retS (iL uW (aB (iL b0v (aB (var 2) aI)) aI))))))
def lX:List PyData→Mm PyData:=uX 3 2 a6T
noncomputable def a6V:OSF:=(tG (bJ aQ 0 (aB (cst (.str "merge")) (aB (var 1) (aB (lU lX (aB (iE aF 0 (aB (var 1) aI)) (aB (iE aF 0 (aB (var 2) aI)) aI))) aI)))))
noncomputable def eB:BS→List PyData→Option (Re PyData×BS):=pD 3 2 a6V
section
variable {ρ ρ' ρv:List Ent} {β β':Sto} {a:Addr} {b b':BS} {f g:OSF} {c:Str} {d:PyData} {i:Nat}
theorem sH:eE ((a,b)::β) (.adr a)=.ro (some a) b:=by
 unfold eE dG
 dsimp only
 rw [if_pos rfl]
theorem vwS (h:vw [(a,b)] ρ=ρ):vw [(a,b)] (.adr a::ρ)=.ro (some a) b::ρ:=by
 show eE _ _::vw _ ρ=_
 rw [sH,h]
theorem aV:dG ((a,b)::β) a=some b:=by unfold dG;exact if_pos rfl
theorem bG:fO ((a,b)::β) a b'=(a,b')::β:=by unfold fO;exact if_pos rfl
theorem aO (h:f ρ β=some (.nx ρ',β')):bF f g ρ β=g ρ' β':=by unfold bF;rw [h]
theorem a4T (h:f ρ β=some (.xc c ρ',β')):bF f g ρ β=some (.xc c ρ',β'):=by unfold bF;rw [h]
theorem fN {f:SF} {o:So} (hv:vw β ρ=ρv) (h:f ρv=some o):upS f ρ β=some (a7E o,β):=by unfold upS;rw [hv,h];rfl
theorem a1b {f:EF} {r:Re PyData} (hv:vw β ρ=ρv) (h:f ρv=some r):upE f ρ β=some (r,β):=by unfold upE;rw [hv,h];rfl
theorem vP {f:TF} {r:Re Bool} (hv:vw β ρ=ρv) (h:f ρv=some r):upT f ρ β=some (r,β):=by unfold upT;rw [hv,h];rfl
theorem b6U {ft:OTF} (h:ft ρ β=some (.ok true,β')):ifO ft f g ρ β=f ρ β':=by unfold ifO;rw [h];rfl
theorem a9j {ft:OTF} (h:ft ρ β=some (.ok false,β')):ifO ft f g ρ β=g ρ β':=by unfold ifO;rw [h];rfl
theorem gC {fa:OEF} (h:fa ρ β=some (.ok d,β')):lQ fa ρ β=some (.nx ρ,β'):=by unfold lQ;rw [h];rfl
theorem a4Y {fa:OEF} (h:fa ρ β=some (.ok d,β')):tG fa ρ β=some (.rt d,β'):=by unfold tG;rw [h];rfl
theorem a4X {fa:OEF} (h:fa ρ β=some (.ex c,β')):tG fa ρ β=some (.xc c ρ,β'):=by unfold tG;rw [h];rfl
theorem dB {F:BS→List PyData→Option (Re PyData×BS)} {fa:AF} {ds:List PyData} {r:Re PyData} (hi:ρ[i]?=some (.adr a)) (hg:dG β a=some b) (ha:fa (vw β ρ)=some (.ok ds)) (hF:F b ds=some (r,b')) (hn:dU ρ=true:=by rfl):bJ F i fa ρ β=some (r,fO β a b'):=by
 unfold bJ
 rw [hi]
 dsimp only
 rw [hg]
 dsimp only
 rw [ha]
 dsimp only
 rw [if_pos hn,hF];rfl
theorem a2U {F:BS→List PyData→Option (Re PyData×BS)} {fa:AF} (hi:ρ[i]?=some (.adr a)) (hg:dG β a=some b) (ha:fa (vw β ρ)=some (.ex c)):bJ F i fa ρ β=some (.ex c,β):=by
 unfold bJ
 rw [hi]
 dsimp only
 rw [hg]
 dsimp only
 rw [ha]
theorem a7G {L:List Str} {F:Str→Mm PyData} {cap:List (Option Nat)} {fe:OEF} {r:Re PyData} (h:fe (cJ cap ρ) β=some (r,β')) (ht:nE L F r=some d) (hn:dU ρ=true:=by rfl):eW L F cap fe ρ β=some (.ok d,β'):=by
 unfold eW
 rw [if_pos hn,h]
 dsimp only
 rw [ht];rfl
theorem a3o {gg:PyData→PyData→Option Bool} {fa fb:OEF} {x y:PyData} {t:Bool} {β1 β2:Sto} (h1:fa ρ β=some (.ok x,β1)) (h2:fb ρ β1=some (.ok y,β2)) (h:gg x y=some t):a3p gg fa fb ρ β=some (.ok t,β2):=by
 unfold a3p
 rw [h1]
 show rW (fb ρ β1) _=_
 rw [h2]
 show (lft (gg x y)).map _=_
 rw [h];rfl
theorem a5O {gg:PyData→PyData→Option Bool} {fa fb:OEF} {x y:PyData} {t:Bool} {β1 β2:Sto} (h1:fa ρ β=some (.ok x,β1)) (h2:fb ρ β1=some (.ok y,β2)) (h:gg x y=some t):a3q gg fa fb ρ β=some (.ok (.bool t),β2):=by
 unfold a3q
 rw [h1]
 show rW (fb ρ β1) _=_
 rw [h2]
 show (lft ((gg x y).map vC)).map _=_
 rw [h];rfl
theorem a3Z {fa fb:OTF} (h:fa ρ β=some (.ok false,β')):a2L fa fb ρ β=fb ρ β':=by unfold a2L;rw [h];rfl
theorem b5Q {fa fb:OEF} (h:fa ρ β=some (.ok (.bool true),β')):b0l fa fb ρ β=fb ρ β':=by unfold b0l;rw [h];rfl
theorem a2h {u:Bool} {fa:EF} (hi:ρ[i]?=some (.adr a)) (hg:dG β a=some b) (ha:fa (vw β ρ)=some (.ok d)) (hz:dA (b.ls u).length=true) (hn:dU ρ=true:=by rfl):a4J u i fa ρ β=some (.nx ρ,fO β a (b.setLs u (b.ls u++[d]))):=by
 unfold a4J
 rw [hi]
 dsimp only
 rw [hg]
 dsimp only
 rw [ha]
 show (if _ then _ else _)=_
 rw [if_pos (by rw [hz,hn];rfl)]
theorem b2s (hi:ρ[i]?=some (.adr a)) (hg:dG β a=some b) (hn:dU ρ=true:=by rfl):a9X i ρ β=some (.nx ρ,fO β a { b with un:=[] }):=by
 unfold a9X
 rw [hi]
 dsimp only
 rw [hg]
 dsimp only
 rw [if_pos hn]
theorem b0I {fk fv:EF} {k:PyData} {key:Key} (hi:ρ[i]?=some (.adr a)) (hg:dG β a=some b) (hv:fv (vw β ρ)=some (.ok d)) (hk:fk (vw β ρ)=some (.ok k)) (hd:rP k=some key) (hz:dA b.sh.length=true) (hn:dU ρ=true:=by rfl):a2D i fk fv ρ β=some (.nx ρ,fO β a { b with sh:=a0m b.sh key d }):=by
 unfold a2D
 rw [hi]
 dsimp only
 rw [hg]
 dsimp only
 rw [hv]
 show xcS (fk (vw β ρ)) ρ β _=_
 rw [hk]
 show (match rP k with | some k=>_ | none=>_)=_
 rw [hd]
 dsimp only
 rw [if_pos (by rw [hz,hn];rfl)]
theorem a8k {fk:EF} {k:PyData} {key:Key} (hi:ρ[i]?=some (.adr a)) (hg:dG β a=some b) (hk:fk (vw β ρ)=some (.ok k)) (hd:rP k=some key) (hz:(eI key (bD b)).isSome=true) (hn:dU ρ=true:=by rfl):a2H i fk ρ β=some (.nx ρ,fO β a { b with sh:=xT b.sh key }):=by
 unfold a2H
 rw [hi]
 dsimp only
 rw [hg]
 dsimp only
 rw [hk]
 show (match rP k with | some k=>_ | none=>_)=_
 rw [hd]
 dsimp only
 rw [if_pos (by rw [hz,hn];rfl)]
theorem a2G {u:Bool} {j:Nat} (hi:ρ[i]?=some (.adr a)) (hg:dG β a=some b) (hd:(b.ls u)[(b.ls u).length - 1]?=some d) (hn:dU ρ=true:=by rfl):a0n u i j ρ β=some (.nx (ρ.set j (.val d)),fO β a (b.setLs u (b.ls u).dropLast)):=by
 unfold a0n
 rw [hi]
 dsimp only
 rw [hg]
 dsimp only
 rw [hd]
 dsimp only
 rw [if_pos hn]
theorem a1o {m n:Nat} {f:SF} {ds:List PyData} (hl:ds.length=n) (h:f (eY m (.ro none b::ds.map .val))=some (.rt d)):yM m n f b ds=some (.ok d):=by
 unfold yM;rw [if_pos hl,h]
theorem b0D {m n:Nat} {f:SF} {ds:List PyData} (hl:ds.length=n) (h:f (eY m (.ro none b::ds.map .val))=some (.xc c ρ)):yM m n f b ds=some (.ex c):=by
 unfold yM;rw [if_pos hl,h]
end
def bSh (b:BS) (x:Str):Option PyData:=eI (.inr x) (bD b)
def a2C (sh:List (Key×PyData)) (x:Str) (s:PyData):List (Key×PyData):=match s with
 | .none=>xT sh (.inr x)
 | s=>a0m sh (.inr x) s
def behind (b:BS) (w:Str) (x:Str) (s:PyData):BS:=⟨a2C b.sh x s,b.dn++[.tuple [.str w,.str x,(bSh b x).getD .none,s]],[]⟩
def pN (b:BS) (x:Str) (s:PyData):Bool:=dA b.sh.length&&(match s with | .none=>(bSh b x).isSome | _=>true)
theorem a9H {b:BS} {x:Str} {s:PyData} (h:pN b x s=true):gW b [.str x,s]=some (.ok .none,{ b with sh:=a2C b.sh x s }):=by
 unfold pN at h
 rw [qH] at h
 refine cZ rfl fun a=>?_
 show gF a (a1N [.adr a,.val (.str x),.val s] [(a,b)])=_
 have hv:vw [(a,b)] [.adr a,.val (.str x),.val s]=[.ro (some a) b,.val (.str x),.val s]:=vwS rfl
 unfold a1N
 by_cases hs:s=.none
 ·subst hs
  rw [b6U (vP hv (r:=.ok true) rfl),a8k (key:=.inr x) rfl aV (by rw [hv];rfl) rfl h.2,bG]
  show (if a=a then _ else _)=_
  rw [if_pos rfl];rfl
 ·have e:a2C b.sh x s=a0m b.sh (.inr x) s:=by cases s<;>first | rfl | exact absurd rfl hs
  have t:a2p [.adr a,.val (.str x),.val s] [(a,b)]=some (.ok false,[(a,b)]):=vP hv (by cases s<;>first | rfl | exact absurd rfl hs)
  rw [a9j t,b0I (key:=.inr x) (d:=s) rfl aV (by rw [hv];rfl) (by rw [hv];rfl) rfl h.1,bG,e]
  show (if a=a then _ else _)=_
  rw [if_pos rfl]
theorem wR {a:Addr} {b:BS} {d:PyData}:gF a (some (.rt d,[(a,b)]))=some (.ok d,b):=if_pos rfl
theorem a1v {a:Addr} {b:BS} {c:Str} {ρ:List Ent}:gF a (some (.xc c ρ,[(a,b)]))=some (.ex c,b):=if_pos rfl
theorem a5D {b:BS} {w x:Str} {s:PyData} (h:pN b x s=true) (hz:dA b.dn.length=true):aQ b [.str w,.str x,s]=some (.ok s,behind b w x s):=by
 refine cZ rfl fun a=>?_
 show gF a (lH [.adr a,.val (.str w),.val (.str x),.val s] [(a,b)])=_
 have hv:∀ b:BS,vw [(a,b)] [.adr a,.val (.str w),.val (.str x),.val s]=[.ro (some a) b,.val (.str w),.val (.str x),.val s]:=fun b=>vwS rfl
 unfold lH
 rw [aO (a2h (u:=false) (d:=.tuple [.str w,.str x,(bSh b x).getD .none,s]) rfl aV (by rw [hv];rfl) hz),bG]
 rw [aO (b2s rfl aV),bG]
 show gF a (bF (lQ (bJ gW 0 (aB (var 2) (aB (var 3) aI)))) (upS (retS (var 3))) [.adr a,.val (.str w),.val (.str x),.val s] [(a,⟨b.sh,b.dn++[.tuple [.str w,.str x,(bSh b x).getD .none,s]],[]⟩)])=_
 have hp:=a9H (b:=⟨b.sh,b.dn++[.tuple [.str w,.str x,(bSh b x).getD .none,s]],[]⟩) (x:=x) (s:=s) h
 rw [aO (gC (dB (a:=a) (ds:=[.str x,s]) rfl aV (by rw [hv];rfl) hp)),bG]
 rw [fN (hv _) (o:=.rt s) rfl]
 exact wR
theorem fT {b:BS} {x:Str} {s:PyData} (hn:aY [.str x]=some (.ok (.bool true))) (h:bSh b x=some s):aF b [.str x]=some (.ok s):=by
 refine a1o rfl ?_
 show fE [.ro none b,.val (.str x)]=_
 unfold fE
 have h':eI (.inr x) (bD b)=some s:=h
 have t:lB [.ro none b,.val (.str x)]=some (.ok false):=by
  show orT _ _ _=_
  unfold orT
  rw [show eV (eT (bS aY (aB (var 1) aI))) [.ro none b,.val (.str x)]=some (.ok false) by
   unfold eV eT;rw [eM (ds:=[.str x]) rfl hn];rfl]
  show (some (Re.ok (!(eI (.inr x) (bD b)).isSome)):Mm Bool)=_
  rw [h'];rfl
 rw [mE (ρ':=[.ro none b,.val (.str x)]) (by rw [rF,t];rfl),tF]
 show bns (lft (eI (.inr x) (bD b))) _ _=_
 rw [h'];rfl
theorem gB {b:BS} {n:PyData} (h:aY [n]=some (.ok (.bool false))∨∃ x,n=.str x∧aY [.str x]=some (.ok (.bool true))∧bSh b x=none):aF b [n]=some (.ex "NoSheet"):=by
 refine b0D (ρ:=[.ro none b,.val n]) rfl ?_
 show fE [.ro none b,.val n]=_
 unfold fE
 have t:lB [.ro none b,.val n]=some (.ok true):=by
  show orT _ _ _=_
  unfold orT
  rcases h with h | ⟨x,rfl,h1,h2⟩
  ·rw [show eV (eT (bS aY (aB (var 1) aI))) [.ro none b,.val n]=some (.ok true) by
    unfold eV eT;rw [eM (ds:=[n]) rfl h];rfl]
   rfl
  ·rw [show eV (eT (bS aY (aB (var 1) aI))) [.ro none b,.val (.str x)]=some (.ok false) by
    unfold eV eT;rw [eM (ds:=[.str x]) rfl h1];rfl]
   have h2:eI (.inr x) (bD b)=none:=h2
   show (some (Re.ok (!(eI (.inr x) (bD b)).isSome)):Mm Bool)=_
   rw [h2];rfl
 exact b0C (by rw [rF,t];rfl)
def did (b:BS) (w x:Str) (r:Re PyData):Re PyData×BS:=match r with
 | .ok v=>(.ok v,behind b w x v)
 | .ex c=>(.ex c,b)
def a0P (b:BS) (x:Str) (r:Re PyData):Bool:=dA b.dn.length&&(match r with | .ok v=>pN b x v | .ex _=>true)
theorem rN {a:Addr} {b:BS} {w x:Str} {es:List Ent} {fe:EF} {r:Re PyData} (hv:vw [(a,b)] es=es) (hn:dU es=true) (hf:fe (.ro (some a) b::.val (.str x)::es)=some r) (hc:a0P b x r=true) :
  gF a (tG (bJ aQ 0 (aB (cst (.str w)) (aB (var 1) (aB fe aI)))) (.adr a::.val (.str x)::es) [(a,b)])=some (did b w x r):=by
 unfold a0P at hc
 rw [qH] at hc
 have hv2:vw [(a,b)] (.adr a::.val (.str x)::es)=.ro (some a) b::.val (.str x)::es:=vwS (by show Ent.val (.str x)::vw _ es=_;rw [hv])
 cases r with
 | ok v=>
  rw [a4Y (dB (a:=a) (ds:=[.str w,.str x,v]) rfl aV (by rw [hv2,bY,a5N,lV,bY];show bnd (bnd (aB fe aI _) _) _=_;rw [bY,hf];rfl) (a5D hc.2 hc.1) (show dU (.adr a::.val (.str x)::es)=true from hn)),bG]
  exact wR
 | ex c=>
  rw [a4X (a2U (a:=a) (c:=c) rfl aV (by rw [hv2,bY,a5N,lV,bY];show bnd (bnd (aB fe aI _) _) _=_;rw [bY,hf];rfl))]
  exact a1v
theorem rM {a:Addr} {b:BS} {w c:Str} {n:PyData} {es:List Ent} {fe:EF} (hv:vw [(a,b)] es=es) (hf:fe (.ro (some a) b::.val n::es)=some (.ex c)) :
  gF a (tG (bJ aQ 0 (aB (cst (.str w)) (aB (var 1) (aB fe aI)))) (.adr a::.val n::es) [(a,b)])=some (.ex c,b):=by
 have hv2:vw [(a,b)] (.adr a::.val n::es)=.ro (some a) b::.val n::es:=vwS (by show Ent.val n::vw _ es=_;rw [hv])
 rw [a4X (a2U (a:=a) (c:=c) rfl aV (by rw [hv2,bY,a5N,lV,bY];show bnd (bnd (aB fe aI _) _) _=_;rw [bY,hf];rfl))]
 exact a1v
section
variable {b:BS} {x y:Str} {n l t u s o:PyData} {r:Re PyData} {c:Str}
theorem a5E (hs:aF b [.str x]=some (.ok s)) (hF:cE [s,l,t,u]=some r) (hc:a0P b x r=true):fJ b [.str x,l,t,u]=some (did b "add" x r):=
 cZ rfl fun a=>rN (es:=[.val l,.val t,.val u]) rfl rfl (rV (ds:=[s,l,t,u]) (by rw [bY];show bnd (aF b [.str x]) _=_;rw [hs];rfl) hF) hc
theorem b4t (hs:aF b [n]=some (.ex c)):fJ b [n,l,t,u]=some (.ex c,b):=
 cZ rfl fun a=>rM (es:=[.val l,.val t,.val u]) rfl (by show bnd (bnd (aF b [n]) _) _=_;rw [hs];rfl)
theorem a9I (hs:aF b [.str x]=some (.ok s)) (hF:cN [s,l]=some r) (hc:a0P b x r=true):eL b [.str x,l]=some (did b "drop" x r):=
 cZ rfl fun a=>rN (es:=[.val l]) rfl rfl (rV (ds:=[s,l]) (by rw [bY];show bnd (aF b [.str x]) _=_;rw [hs];rfl) hF) hc
theorem b1j (hs:aF b [n]=some (.ex c)):eL b [n,l]=some (.ex c,b):=
 cZ rfl fun a=>rM (es:=[.val l]) rfl (by show bnd (bnd (aF b [n]) _) _=_;rw [hs];rfl)
theorem a5B (hs:aF b [.str x]=some (.ok s)) (hF:iN [s,l]=some r) (hc:a0P b x r=true):eR b [.str x,l]=some (did b "shift" x r):=
 cZ rfl fun a=>rN (es:=[.val l]) rfl rfl (rV (ds:=[s,l]) (by rw [bY];show bnd (aF b [.str x]) _=_;rw [hs];rfl) hF) hc
theorem a8K (hs:aF b [n]=some (.ex c)):eR b [n,l]=some (.ex c,b):=
 cZ rfl fun a=>rM (es:=[.val l]) rfl (by show bnd (bnd (aF b [n]) _) _=_;rw [hs];rfl)
theorem a5C (hs:aF b [.str x]=some (.ok s)) (ho:aF b [l]=some (.ok o)) (hF:lX [s,o]=some r) (hc:a0P b x r=true):eB b [.str x,l]=some (did b "merge" x r):=
 cZ rfl fun a=>rN (es:=[.val l]) rfl rfl (rV (ds:=[s,o]) (by
  rw [bY];show bnd (aF b [.str x]) _=_;rw [hs,lV]
  rw [bY];show bnd (bnd (aF b [l]) _) _=_;rw [ho];rfl) hF) hc
theorem a2Q (hs:aF b [n]=some (.ex c)):eB b [n,l]=some (.ex c,b):=
 cZ rfl fun a=>rM (es:=[.val l]) rfl (by show bnd (bnd (aF b [n]) _) _=_;rw [hs];rfl)
theorem a0r (hs:aF b [n]=some (.ok s)) (ho:aF b [l]=some (.ex c)):eB b [n,l]=some (.ex c,b):=
 cZ rfl fun a=>rM (es:=[.val l]) rfl (by
  show bnd (bnd (aF b [n]) _) _=_;rw [hs,lV]
  show bnd (bnd (bnd (aF b [l]) _) _) _=_;rw [ho];rfl)
theorem b3b (hn:aY [.str x]=some (.ok (.bool true))) (hs:bV [s]=some (.ok (.bool true))) (hc:pN b x s=true) (hz:dA b.dn.length=true):gA b [.str x,s]=some (.ok (.bool (bSh b x).isSome),behind b "lay" x s):=by
 refine cZ rfl fun a=>?_
 show gF a (rJ [.adr a,.val (.str x),.val s,.no] [(a,b)])=_
 unfold rJ
 have hv:vw [(a,b)] [.adr a,.val (.str x),.val s,.no]=[.ro (some a) b,.val (.str x),.val s,.no]:=vwS rfl
 have t:vT [.ro (some a) b,.val (.str x),.val s,.no]=some (.ok false):=by
  show orT _ _ _=_
  unfold orT
  rw [show eV (eT (bS aY (aB (var 1) aI))) [.ro (some a) b,.val (.str x),.val s,.no]=some (.ok false) by
   unfold eV eT;rw [eM (ds:=[.str x]) rfl hn];rfl]
  show eV (eT (bS bV (aB (var 2) aI))) _=_
  unfold eV eT;rw [eM (ds:=[s]) rfl hs];rfl
 rw [aO (fN hv (o:=.nx [.ro (some a) b,.val (.str x),.val s,.no]) (by rw [rF,t];rfl))]
 show gF a (bF _ _ [.adr a,.val (.str x),.val s,.no] _)=_
 rw [aO (fN hv (o:=.nx [.ro (some a) b,.val (.str x),.val s,.val (.bool (bSh b x).isSome)]) rfl)]
 show gF a (bF _ _ [.adr a,.val (.str x),.val s,.val (.bool (bSh b x).isSome)] _)=_
 have hv2:∀ b':BS,vw [(a,b')] [.adr a,.val (.str x),.val s,.val (.bool (bSh b x).isSome)]=[.ro (some a) b',.val (.str x),.val s,.val (.bool (bSh b x).isSome)]:=fun b'=>vwS rfl
 rw [aO (gC (dB (a:=a) (ds:=[.str "lay", .str x,s]) rfl aV (by rw [hv2];rfl) (a5D hc hz))),bG,fN (hv2 _) (o:=.rt (.bool (bSh b x).isSome)) rfl]
 exact wR
theorem a8L (h:aY [n]=some (.ok (.bool false))∨aY [n]=some (.ok (.bool true))∧bV [s]=some (.ok (.bool false))):gA b [n,s]=some (.ex "NoSheet", b):=by
 refine cZ rfl fun a=>?_
 show gF a (rJ [.adr a,.val n,.val s,.no] [(a,b)])=_
 unfold rJ
 have hv:vw [(a,b)] [.adr a,.val n,.val s,.no]=[.ro (some a) b,.val n,.val s,.no]:=vwS rfl
 have t:vT [.ro (some a) b,.val n,.val s,.no]=some (.ok true):=by
  show orT _ _ _=_
  unfold orT
  rcases h with h | ⟨h1,h2⟩
  ·rw [show eV (eT (bS aY (aB (var 1) aI))) [.ro (some a) b,.val n,.val s,.no]=some (.ok true) by
    unfold eV eT;rw [eM (ds:=[n]) rfl h];rfl]
   rfl
  ·rw [show eV (eT (bS aY (aB (var 1) aI))) [.ro (some a) b,.val n,.val s,.no]=some (.ok false) by
    unfold eV eT;rw [eM (ds:=[n]) rfl h1];rfl]
   show eV (eT (bS bV (aB (var 2) aI))) _=_
   unfold eV eT;rw [eM (ds:=[s]) rfl h2];rfl
 rw [a4T (fN hv (o:=.xc "NoSheet" [.ro (some a) b,.val n,.val s,.no]) (by rw [rF,t];rfl))]
 exact a1v
theorem b1i (hs:aF b [n]=some (.ex c)):sB b [n]=some (.ex c,b):=by
 refine cZ rfl fun a=>?_
 show gF a (xP [.adr a,.val n,.no] [(a,b)])=_
 unfold xP
 have hv:vw [(a,b)] [.adr a,.val n,.no]=[.ro (some a) b,.val n,.no]:=vwS rfl
 rw [a4T (fN hv (o:=.xc c [.ro (some a) b,.val n,.no]) (by rw [a1i];show bns (aF b [n]) _ _=_;rw [hs];rfl))]
 exact a1v
theorem a4v {ns:List Str} (h:b0n (bD b)=some ns) (hl:ns.length<64):lY b []=some (.ok (.list ((gH ns).map .str))):=by
 refine a1o rfl ?_
 show tV [.ro none b]=_
 unfold tV
 rw [tF]
 show bns (lft (a4P [.dict (bD b)])) _ _=_
 unfold a4P
 dsimp only
 rw [h]
 dsimp only
 rw [if_pos hl];rfl
theorem b1W:lZ b []=some (.ok (.tuple [.int (b.dn.length:Nat),.int (b.un.length:Nat)])):=a1o rfl rfl
theorem a5r {α:Type} (l:List α) (z:α):(l++[z])[(l++[z]).length - 1]?=some z:=by simp
theorem b5j {sh:List (Key×PyData)} {dn un:List PyData} {w:Str} {old new:PyData} (hc:pN ⟨sh,dn,un⟩ x old=true) (hz:dA un.length=true) :
  oB ⟨sh,dn++[.tuple [.str w,.str x,old,new]],un⟩ []=some (.ok (.str w),⟨a2C sh x old,dn,un++[.tuple [.str w,.str x,old,new]]⟩):=by
 refine cZ rfl fun a=>?_
 show gF a (xQ [.adr a,.no] [(a,⟨sh,dn++[.tuple [.str w,.str x,old,new]],un⟩)])=_
 unfold xQ
 have hv:∀ (b':BS) (e:Ent),eE [(a,b')] e=e→vw [(a,b')] [.adr a,e]=[.ro (some a) b',e]:=fun b' e h=>vwS (by show [eE _ e]=_;rw [h])
 have t:a0c [.ro (some a) ⟨sh,dn++[.tuple [.str w,.str x,old,new]],un⟩,.no]=some (.ok false):=by
  show (some (Re.ok (dn++[PyData.tuple [.str w,.str x,old,new]]).isEmpty):Mm Bool)=_
  simp
 rw [aO (fN (hv _ _ rfl) (o:=.nx [.ro (some a) ⟨sh,dn++[.tuple [.str w,.str x,old,new]],un⟩,.no]) (by rw [rF,t];rfl))]
 show gF a (bF _ _ [.adr a,.no] _)=_
 rw [aO (a2G (u:=false) (j:=1) (a:=a) (b:=⟨sh,dn++[.tuple [.str w,.str x,old,new]],un⟩) rfl aV (a5r dn _)),bG]
 show gF a (bF _ _ [.adr a,.val (.tuple [.str w,.str x,old,new])] [(a,⟨sh,(dn++[PyData.tuple [.str w,.str x,old,new]]).dropLast,un⟩)])=_
 rw [List.dropLast_concat]
 rw [aO (a2h (u:=true) (a:=a) (b:=⟨sh,dn,un⟩) (d:=.tuple [.str w,.str x,old,new]) rfl aV (by rw [hv _ _ rfl];rfl) hz),bG]
 show gF a (bF _ _ [.adr a,.val (.tuple [.str w,.str x,old,new])] [(a,⟨sh,dn,un++[.tuple [.str w,.str x,old,new]]⟩)])=_
 have hp:=a9H (b:=⟨sh,dn,un++[.tuple [.str w,.str x,old,new]]⟩) (x:=x) (s:=old) hc
 rw [aO (gC (dB (a:=a) (ds:=[.str x,old]) rfl aV (by rw [hv _ _ rfl];rfl) hp)),bG]
 rw [fN (hv _ _ rfl) (o:=.rt (.str w)) rfl]
 exact wR
theorem b1X {sh:List (Key×PyData)} {dn un:List PyData} {w:Str} {old new:PyData} (hc:pN ⟨sh,dn,un⟩ x new=true) (hz:dA dn.length=true) :
  mB ⟨sh,dn,un++[.tuple [.str w,.str x,old,new]]⟩ []=some (.ok (.str w),⟨a2C sh x new,dn++[.tuple [.str w,.str x,old,new]],un⟩):=by
 refine cZ rfl fun a=>?_
 show gF a (tW [.adr a,.no] [(a,⟨sh,dn,un++[.tuple [.str w,.str x,old,new]]⟩)])=_
 unfold tW
 have hv:∀ (b':BS) (e:Ent),eE [(a,b')] e=e→vw [(a,b')] [.adr a,e]=[.ro (some a) b',e]:=fun b' e h=>vwS (by show [eE _ e]=_;rw [h])
 have t:vU [.ro (some a) ⟨sh,dn,un++[.tuple [.str w,.str x,old,new]]⟩,.no]=some (.ok false):=by
  show (some (Re.ok (un++[PyData.tuple [.str w,.str x,old,new]]).isEmpty):Mm Bool)=_
  simp
 rw [aO (fN (hv _ _ rfl) (o:=.nx [.ro (some a) ⟨sh,dn,un++[.tuple [.str w,.str x,old,new]]⟩,.no]) (by rw [rF,t];rfl))]
 show gF a (bF _ _ [.adr a,.no] _)=_
 rw [aO (a2G (u:=true) (j:=1) (a:=a) (b:=⟨sh,dn,un++[.tuple [.str w,.str x,old,new]]⟩) rfl aV (a5r un _)),bG]
 show gF a (bF _ _ [.adr a,.val (.tuple [.str w,.str x,old,new])] [(a,⟨sh,dn,(un++[PyData.tuple [.str w,.str x,old,new]]).dropLast⟩)])=_
 rw [List.dropLast_concat]
 rw [aO (a2h (u:=false) (a:=a) (b:=⟨sh,dn,un⟩) (d:=.tuple [.str w,.str x,old,new]) rfl aV (by rw [hv _ _ rfl];rfl) hz),bG]
 show gF a (bF _ _ [.adr a,.val (.tuple [.str w,.str x,old,new])] [(a,⟨sh,dn++[.tuple [.str w,.str x,old,new]],un⟩)])=_
 have hp:=a9H (b:=⟨sh,dn++[.tuple [.str w,.str x,old,new]],un⟩) (x:=x) (s:=new) hc
 rw [aO (gC (dB (a:=a) (ds:=[.str x,new]) rfl aV (by rw [hv _ _ rfl];rfl) hp)),bG]
 rw [fN (hv _ _ rfl) (o:=.rt (.str w)) rfl]
 exact wR
end
end L2.L3
namespace L2.L3
open PySem PySem.Spec PyProof.Rows PySem.SeqAt Builtin
open AutoSeq1 (wpAny_loadPart')
theorem tJ:fillsNumberSlot (.type "tuple") "mul" = pure false:=
 PySem.fillsNumberSlot_seq (id := "tuple.__mul__") (r:=some (.builtin "tuple.__rmul__")) F.slot_tuple_mul.lookup (by decide +kernel) F.slot_tuple_rmul.lookup (by decide +kernel)
theorem a1p:seqRepeat? (.type "tuple")=pure (some (.builtin "tuple.__mul__")):=by
 unfold seqRepeat?
 rw [PySem.seqSlot_of (T := "tuple") (name := "__mul__") (id := "tuple.__mul__") F.slot_tuple_mul.lookup (by decide +kernel),PySem.seqSlot_of (T := "tuple") (name := "__rmul__") (id := "tuple.__rmul__") F.slot_tuple_rmul.lookup (by decide +kernel)]
 rfl
theorem xJ (a:Int) (t:Tok) (l:Addr) (items:Array Value) (n:Nat) (dd:Option Addr) (sl:Array (Option Value)) :
  Meets (Builtin.«int.__rmul__» ⟨[.int a t,.ref l],[]⟩) (fun _ R s=>s.heap.get? l=some { cls:=.type "tuple", dict:=dd,data:=.seq items n,slots:=sl }∧R (.ok (.ret Value.notImplemented)) s):=
 .of_wp fun prog w A R s h=>by obtain ⟨hp,g,d,tk,os⟩:=s;obtain ⟨hl,h⟩:=h;wp_walk;exact ⟨_,rfl,h⟩
theorem a3D (l:Addr) (items:Array Value) (n:Nat) (dd:Option Addr) (sl:Array (Option Value)) (x:Int) (u:Tok) (hc0:¬(decide (x < -(2 ^ 63)) || decide (x≥2 ^ 63))=true) (hc1:¬(items.isEmpty || x==1)=true) (hc2:¬(decide (x≤0) || items.isEmpty)=true)
  (hc3:¬(items.size:Int)*x > (2 ^ 63 - 1) / 8) (hc4:¬Builtin.Tuple.tupleTooMany ((items.size:Int)*x)=true) (hc5:¬(zR (fun x1 x2=>x1++x2) #[] (qV x.toNat items)).size > sizeLine) :
  Meets (Builtin.«tuple.__mul__» ⟨[.ref l,.int x u],[]⟩) (fun _ R s=>s.heap.get? l=some { cls:=.type "tuple", dict:=dd,data:=.seq items n,slots:=sl }∧R (.ok (.ret (qi s.heap.objs.size))) { s with heap:=s.heap.push { cls:=kN "tuple", data:=Data.seq (zR (fun x1 x2=>x1++x2) #[] (qV x.toNat items)) },toks:=s.toks }):=
 .of_wp fun prog w A R s h=>by
  obtain ⟨hp,g,d,tk,os⟩:=s;obtain ⟨hl,h⟩:=h
  have f1:=AutoSeq1.idx_int
  wp_walk using wpAny_loadPart' hl
  refine wpAny_ite_false (decide_eq_false hc0) ?_
  wp_walk using wpAny_loadPart' hl
  refine wpAny_ite_false (decide_eq_false hc3) ?_
  wp_walk using wpAny_loadPart' hl
  exact ⟨_,rfl,h⟩
def b6n:V→V→Hp→VK→Prop:=fun x y H Q=>∃ l k xs,x=.ref l∧y=.int k∧H l=some (.tup xs)∧xs≠[]∧2≤k∧k≤1000∧xs.length*k.toNat≤1000∧∀ p,H p=none→Q (.ref p) (upd H p (.tup (qV k.toNat xs).flatten))
theorem b0Y {X:Cx}:OpR X (binaryOp .Mult) b6n:=by
 intro pins s σ H x y v u Q I rx ry h
 obtain ⟨l,k,xs,rfl,rfl,hH,hne,h2,h3,hz,q⟩:=h
 cases rx
 obtain ⟨t,rfl⟩:=ry
 obtain ⟨z,its,r,⟨cls,dd,data,sl⟩,e,hc,n,hd⟩:=(show cG X.prog X.w H s.heap l (.tup xs) from I.hok l _ hH)
 simp only at hc hd
 subst hc hd
 have hl:=r.length
 have hit:its≠[]:=fun z=>hne (by rw [z] at hl;exact kJ.mp hl)
 have f0:zR (fun x1 x2=>x1++x2) #[] (qV k.toNat its.toArray)=(qV k.toNat its).flatten.toArray:=by
  have:=foldl_rep its k.toNat []
  rw [kH] at this
  exact this
 have lenf:(qV k.toNat its).flatten.length=k.toNat*its.length:=len_rep _ _
 have hm:(its.length:Int)*k≤1000:=by
  have:((its.length*k.toNat:Nat):Int)≤1000:=by rw [←hl];omega
  have e:((its.length*k.toNat:Nat):Int)=(its.length:Int)*k:=by
   rw [Int.natCast_mul,Int.toNat_of_nonneg (by omega)]
  omega
 refine wpAny_binaryOp_repeat_ref (T := "tuple") (U := "int") (by decide) ⟨_,e,rfl⟩ (fun s'=>typeIs_int s' k t) tJ F.fills_int_mul zl a1p F.slot_int_index.lookup
  (call_meets zl (typeIs_int s k t) F.entry_int_rmul (F.args_int_rmul_2 _ _) (xJ k t l its.toArray n dd sl)
   ⟨e,rfl,⟨_,e,rfl⟩,call_meets F.slot_tuple_mul ⟨_,e,rfl⟩ F.entry_tuple_mul (F.args_tuple_mul_2 _ _) (a3D l its.toArray n dd sl k t ?_ ?_ ?_ ?_ ?_ ?_) ⟨e,?_⟩⟩)
 ·simp only [kM,decide_eq_true_eq,not_or]
  constructor<;>omega
 ·simp only [kM,beq_iff_eq,not_or]
  exact ⟨by simpa using hit,by omega⟩
 ·simp only [kM,decide_eq_true_eq,not_or]
  exact ⟨by omega,by simpa using hit⟩
 ·rw [qI]
  have:(1000:Int)≤(2 ^ 63 - 1) / 8:=by decide
  omega
 ·unfold Builtin.Tuple.tupleTooMany
  rw [qI,decide_eq_true_eq]
  have:(1000:Int)≤(sizeLine:Int):=by decide
  omega
 ·rw [f0,qI,lenf]
  have:(1000:Nat)≤sizeLine:=by decide
  have:k.toNat*its.length≤1000:=by rw [Nat.mul_comm,←hl];exact hz
  omega
 ·rw [f0]
  have hf:H s.heap.objs.size=none:=I.hok.fresh (qO _)
  refine ⟨.ref s.heap.objs.size,_,I.laid (t':=s.toks) (fun b u e=>qC _ e) (qO _) ?_,rfl,q _ hf⟩
  refine ⟨?_,_,r.rep k.toNat,⟨_,qK _ rfl,rfl,_,rfl⟩⟩
  rw [len_rep,Nat.mul_comm]
  exact qj hz (by decide)
def b2K (ds:List PyData) (y:PyData):Option PyData:=match y with
 | .int k=>if !ds.isEmpty&&decide (2≤k)&&decide (k≤1000)&&decide (ds.length*k.toNat≤1000) then some (.tuple (qV k.toNat ds).flatten) else none
 | _=>none
def b2J (fa:AF) (fb:EF):EF:=fun ρ=>bnd (fa ρ) fun ds=>if dA ds.length then bnd (fb ρ) fun y=>lft (b2K ds y) else none
section
variable {X:Cx} {b:Expr} {es:List Expr} {pos p:Pos} {x1:Nat} {fb:EF}
theorem b2d {f:AF} (ha:DA X es f) (hb:DE X b fb):DE X (.BinOp (.Tuple es x1 p) .Mult b pos) (b2J f fb):=⟨fun pins s σ H Q I ⟨ρ,r,H0,G₀,G,e,R,q⟩=>a5f b0Y (a3Y ha.run) hb.run pins s σ H Q I (bA R e q.x fun ds vs G1 H1 g1 R1 rv e1=>by
 split at e1
 ·rename_i hz
  refine ⟨by rw [rv.length];exact fM hz,fun l hl=>?_⟩
  have g1':=g1.trans (.put (o:=.tup vs) g1.sub hl)
  exact bE (R.more g1') e1 (q.more g1').x fun y u G2 H2 g2 R2 ru e2=>by
   obtain ⟨d,ed,rfl⟩:=aW e2
   unfold b2K at ed
   split at ed
   ·split at ed
    ·rename_i hk
     simp only [qH,decide_eq_true_eq] at hk
     cases (qA ed)
     cases ru
     have hne:vs≠[]:=fun z=>by
      have:=rv.length
      rw [z] at this
      have:ds=[]:=kJ.mp this.symm
      rw [this] at hk;exact absurd hk.1.1.1 (by decide)
     refine ⟨l,_,vs,rfl,rfl,g2.hh.keep l _ aJ (by nofun),hne,hk.1.1.2,hk.1.2,by rw [rv.length];exact hk.2,fun l2 hl2=>q _ _ _ ((g1'.trans g2).trans (.put g2.sub hl2)) (.tuple (.of aJ) (wN (rv.mono (((cF (g1.sub.free hl)).trans g2.gg).trans (cF (g2.sub.free hl2)))) _))⟩
    ·cases ed
   ·cases ed
 ·cases e1)⟩
end
end L2.L3
namespace L2.L3
open PySem PySem.Spec PyProof.Rows
abbrev a4k:EF:=gL (.nm 0) [none] (a7Y (cst (.int 16))) ttT (cR (aB (op2 ixD (cst (.str "abcdefghijklmnop")) (var 0)) (aB (var 0) (aB (op2 nZ (var 0) (cst (.int 2))) aI))))
noncomputable abbrev b4O:OEF:=bJ gA 0 (aB (cst (.str "a")) (aB (var 1) aI))
noncomputable abbrev b4N:OEF:=bJ gA 0 (aB (var 1) (aB (cR aI) aI))
noncomputable abbrev b4M:OEF:=bJ sB 0 (aB (op2 ixD (fL (aB (var 3) (aB (var 1) aI))) (op2 mZ (var 2) (cst (.int 2)))) aI)
noncomputable abbrev b4L:OEF:=bJ fJ 1 (aB (op2 ixD (fL (aB (var 5) (aB (var 3) aI))) (op2 mZ (var 4) (cst (.int 2)))) (aB (cst (.str "a")) (aB (var 0) (aB (var 2) aI))))
noncomputable abbrev b4K:OEF:=bJ eL 0 (aB (op2 ixD (fL (aB (var 1) (aB (var 3) aI))) (op2 mZ (var 2) (cst (.int 2)))) (aB (cst (.str "zz")) aI))
noncomputable abbrev b4J:OEF:=bJ eR 0 (aB (op2 ixD (fL (aB (var 3) (aB (var 1) aI))) (op2 mZ (var 2) (cst (.int 2)))) (aB (cst (.int 999)) aI))
noncomputable abbrev b4I:OEF:=bJ eB 0 (aB (op2 ixD (fL (aB (cst (.str "a")) (aB (var 3) (aB (cst (.str "a")) (aB (var 1) aI))))) (var 2)) (aB (op2 ixD (fL (aB (var 3) (aB (cst (.str "b")) (aB (var 1) (aB (cst (.str "b")) aI))))) (var 2)) aI))
abbrev a7N:TF:=thT (gS neD (var 10) (b6l (aB (cst (.str "no sheet")) aI) (cst (.int 7))))
noncomputable abbrev b4H:OEF:=bJ fJ 1 (aB (cst (.str "a")) (aB (cst (.str "b")) (aB (var 0) (aB (var 2) aI))))
noncomputable abbrev b4G:OEF:=bJ fJ 1 (aB (cst (.str "a")) (aB (cst (.str "zz")) (aB (var 0) (aB (var 2) aI))))
noncomputable abbrev b1B:OEF:=bJ fJ 0 (aB (cst (.str "a")) (aB (cst (.str "zz")) (aB (cst (.int 1)) (aB (cst (.int 2)) aI))))
noncomputable abbrev b1A:OEF:=bJ eL 0 (aB (cst (.str "b")) (aB (op2 ixD (fL (aB (cst (.str "b")) (aB (cst (.str "zz")) (aB (cst (.str "c")) (aB (cst (.str "y")) aI))))) (var 1)) aI))
noncomputable abbrev b1z:OEF:=bJ eR 0 (aB (cst (.str "b")) (aB (op2 ixD (fL (aB (op1 a8Q (cst (.int 1))) (aB (cst (.int 475)) (aB (cst (.int 999)) (aB (op1 a8Q (cst (.int 6))) aI))))) (var 1)) aI))
noncomputable abbrev b1y:OEF:=bJ eB 0 (aB (cst (.str "a")) (aB (cst (.str "b")) aI))
abbrev a7M:TF:=thT (gS neD (var 10) (fL (aB (cst (.str "taken")) (aB (cst (.str "no time")) (aB (cst (.str "too many")) (aB (cst (.str "no meeting")) (aB (cst (.str "no time")) (aB (cst (.str "too many")) aI))))))))
noncomputable abbrev a4I:OSF:=a9z 1 (bF (upS (sP 5 (op2 ixD (var 1) (op2 mZ (op2 nZ (bS dY (aB (var 0) (aB (cst (.int 0)) (aB (cst (.int 9)) aI)))) (op2 pX (cst (.int 2)) (var 4))) (cst (.int 9)))))) (bF (upS (sP 6 (op2 ixD (fL (aB (cst .none) (aB (cst (.str "")) (aB (cst (.str "A")) (aB (cst (.str "abcde")) (aB (cst (.int 5)) (aB (fL (aB (cst (.str "a")) aI)) (aB (cst (.str "a b")) (aB (cst (.str "a1")) aI))))))))) (op2 mZ (op2 nZ (bS dY (aB (var 0) (aB (cst (.int 1)) (aB (cst (.int 8)) aI)))) (op2 pX (cst (.int 3)) (var 4))) (cst (.int 8)))))) (bF (upS (sP 7 (op2 ixD (fL (aB (cst (.str "c")) (aB (cst (.str "ab")) (aB (cst (.str "x")) (aB (cst (.str "none")) aI))))) (op2 mZ (op2 nZ (bS dY (aB (var 0) (aB (cst (.int 2)) (aB (cst (.int 4)) aI)))) (var 4)) (cst (.int 4)))))) (bF (upS (b3q (.tp [8,9]) (op2 ixD (fL (aB (cR (aB (cst (.int 5)) (aB (cst (.int 5)) aI))) (aB (cR (aB (op1 a8Q (cst (.int 1))) (aB (cst (.int 3)) aI))) (aB (cR (aB (cst (.int 470)) (aB (cst (.int 481)) aI))) (aB (cR (aB (cst .none) (aB (cst (.int 3)) aI))) (aB (cR (aB (cst (.int 1)) (aB (cst (.str "2")) aI))) (aB (cR (aB (cst (.bool true)) (aB (cst (.int 4)) aI))) aI))))))) (op2 mZ (op2 nZ (bS dY (aB (var 0) (aB (cst (.int 3)) (aB (cst (.int 6)) aI)))) (var 4)) (cst (.int 6)))))) (bF (a8P 10 (yE (eW bK aS [some 2,some 5] b4O) a5V)) (bF (pP 10 (eW bK aS [some 2,some 6] b4N)) (bF (pP 10 (eW bK aS [some 2,some 7,some 4,some 6] b4M)) (bF (pP 10 (eW bK aS [some 8,some 2,some 9,some 7,some 4,some 6] b4L)) (bF (pP 10 (eW bK aS [some 2,some 7,some 4,some 6] b4K)) (bF (pP 10 (eW bK aS [some 2,some 7,some 4,some 6] b4J)) (bF (pP 10 (eW bK aS [some 2,some 7,some 4,some 6] b4I)) (bF (upS (ifS a7N (retS (cst (.bool false))) iO)) (bF (a8P 10 (yE (eW bK aS [some 8,some 2,some 9] b4H) a5V)) (bF (pP 10 (eW bK aS [some 8,some 2,some 9] b4G)) (bF (pP 10 (eW bK aS [some 2] b1B)) (bF (pP 10 (eW bK aS [some 2,some 4] b1A)) (bF (pP 10 (eW bK aS [some 2,some 4] b1z)) (bF (pP 10 (eW bK aS [some 2] b1y)) (upS (ifS a7M (retS (cst (.bool false))) iO))))))))))))))))))))
noncomputable abbrev a3H:OTF:=a2L (upT (gS neD (iE lY 2 aI) (fL (aB (cst (.str "a")) (aB (cst (.str "b")) aI))))) (a2L (upT (gS neD (iE lZ 2 aI) (cR (aB (cst (.int 2)) (aB (cst (.int 1)) aI))))) (a3p neD (bJ mB 2 aI) (upE (cst (.str "shift")))))
noncomputable abbrev b1x:OEF:=bJ eB 0 (aB (cst (.str "a")) (aB (cst (.str "b")) aI))
noncomputable abbrev a3G:OTF:=a2L (upT (gS neD (iE aF 2 (aB (cst (.str "b")) aI)) (cR (aB (cR (aB (cst (.str "a")) (aB (cst (.int 1)) (aB (cst (.int 3)) aI)))) (aB (cR (aB (cst (.str "z")) (aB (cst (.int 6)) (aB (cst (.int 7)) aI)))) aI))))) (a3p neD (eW bK aS [some 2] b1x) (upE (cst (.str "taken"))))
noncomputable def a3f:OSF:=(bF (upS (a8O 1 (aB (cst .none) (aB (fL aI) (aB (cR (aB (cR (aB (cst (.str "a")) (aB (cst (.int 0)) (aB (cst (.int 0)) aI)))) aI)) (aB (cR (aB (cR (aB (cst (.str "a")) (aB (cst (.int 0)) (aB (cst (.int 481)) aI)))) aI)) (aB (cR (aB (cR (aB (cst (.str "b")) (aB (cst (.int 0)) (aB (cst (.int 1)) aI)))) (aB (cR (aB (cst (.str "a")) (aB (cst (.int 0)) (aB (cst (.int 1)) aI)))) aI))) (aB (b2J (aB (cR (aB (cst (.str "a")) (aB (cst (.int 0)) (aB (cst (.int 1)) aI)))) aI) (cst (.int 2))) aI)))))))) (bF (upS (b1R 1 (fL (aB (cR (aB (cR (aB (cst (.str "A")) (aB (cst (.int 0)) (aB (cst (.int 1)) aI)))) aI)) (aB (cst (.int 5)) (aB (cR (aB (cst (.str "a")) (aB (cst (.int 0)) (aB (cst (.int 1)) aI)))) aI)))))) (mkO 2 [3] (aB (iL uW (aB a4k aI)) aI) (bF (lQ (bJ gA 2 (aB (cst (.str "a")) (aB (var 3) aI)))) (bF (lQ (bJ gA 2 (aB (cst (.str "b")) (aB (cR (aB (cR (aB (cst (.str "a")) (aB (cst (.int 0)) (aB (cst (.int 2)) aI)))) (aB (cR (aB (cst (.str "z")) (aB (cst (.int 5)) (aB (cst (.int 6)) aI)))) aI))) aI)))) (bF (lQ (bJ eR 2 (aB (cst (.str "b")) (aB (cst (.int 1)) aI)))) (bF (lQ (bJ oB 2 aI)) (bF (a6S (.nm 4) (a7Y (cst (.int 4))) a4I) (bF (ifO a3H (upS (retS (cst (.bool false)))) a8N) (bF (ifO a3G (upS (retS (cst (.bool false)))) a8N) (tG (b0l (a3q eqD (bJ eL 2 (aB (cst (.str "b")) (aB (cst (.str "a")) aI))) (upE (cR (aB (cR (aB (cst (.str "z")) (aB (cst (.int 6)) (aB (cst (.int 7)) aI)))) aI)))) (a3q eqD (bJ fJ 2 (aB (cst (.str "b")) (aB (cst (.str "y")) (aB (cst (.int 0)) (aB (cst (.int 480)) aI))))) (upE (cR (aB (cR (aB (cst (.str "y")) (aB (cst (.int 0)) (aB (cst (.int 480)) aI)))) (aB (cR (aB (cst (.str "z")) (aB (cst (.int 6)) (aB (cst (.int 7)) aI)))) aI)))))))))))))))))
noncomputable def F_law:List PyData→Mm PyData:=a2B 11 1 a3f
end L2.L3
namespace L2.L3
open PySem PySem.Spec PyProof.Rows
def b2V:List Mt:=[("a", 0,2),("b", 1,3),("c", 2,4),("d", 3,5),("e", 4,6),("f", 5,7),("g", 6,8),("h", 7,9),("i", 8,10),("j", 9,11),("k", 10,12),("l", 11,13),("m", 12,14),("n", 13,15),("o", 14,16),("p", 15,17)]
def sbM:List Mt:=[("a", 0,2),("z", 5,6)]
def b7U:List Mt:=[("a", 1,3),("z", 6,7)]
def full:PyData:=dS b2V
def sb:PyData:=dS sbM
def sb1:PyData:=dS b7U
def stA:PyData:=.tuple [.str "lay", .str "a", .none,full]
def stB:PyData:=.tuple [.str "lay", .str "b", .none,sb]
def stS:PyData:=.tuple [.str "shift", .str "b", sb,sb1]
def B1:BS:=⟨[(.inr "a", full)],[stA],[]⟩
def B2:BS:=⟨[(.inr "a", full),(.inr "b", sb)],[stA,stB],[]⟩
def B3:BS:=⟨[(.inr "a", full),(.inr "b", sb1)],[stA,stB]++[stS],[]⟩
def B4:BS:=⟨[(.inr "a", full),(.inr "b", sb)],[stA,stB],[stS]⟩
theorem cU:∀ x∈(["a", "b", "c", "d", "e", "f", "g", "h", "i", "j", "k", "l", "m", "n", "o", "p", "z", "ab", "x", "none"]:List Str),aY [.str x]=some (.ok (.bool true)):=by
 intro x hx
 simp only [qM,kA,or_false] at hx
 rcases hx with rfl | rfl | rfl | rfl | rfl | rfl | rfl | rfl | rfl | rfl | rfl | rfl | rfl | rfl | rfl | rfl | rfl | rfl | rfl | rfl<;>kernel_rfl
theorem a1C {s:List Mt} (h:(s.all fun m=>decide (m.1∈(["a", "b", "c", "d", "e", "f", "g", "h", "i", "j", "k", "l", "m", "n", "o", "p", "z", "ab", "x", "none"]:List Str))&&zE m.1&&decide (0≤m.2.1∧m.2.1<m.2.2∧m.2.2≤480))=true):∀ m∈s,MtOk m:=fun m hm=>by
 have:=jN.mp h m hm
 rw [qH,qH,decide_eq_true_eq,decide_eq_true_eq] at this
 exact ⟨cU _ this.1.1,this.1.2,this.2⟩
theorem a9w:bV [full]=some (.ok (.bool true)):=uU b2V (by decide) (a1C (by decide +kernel)) (by decide +kernel) (by decide +kernel)
theorem b3G:bV [sb]=some (.ok (.bool true)):=uU sbM (by decide) (a1C (by decide +kernel)) (by decide +kernel) (by decide +kernel)
theorem b6P:gA oQ [.str "a", full]=some (.ok (.bool false),B1):=(b3b (cU _ (by decide +kernel)) a9w rfl rfl).trans (by kernel_rfl)
theorem b6O:gA B1 [.str "b", sb]=some (.ok (.bool false),B2):=(b3b (cU _ (by decide +kernel)) b3G rfl rfl).trans (by kernel_rfl)
theorem b6G:aF B2 [.str "b"]=some (.ok sb):=fT (cU _ (by decide +kernel)) (by kernel_rfl)
theorem b0y:eR B2 [.str "b", .int 1]=some (.ok sb1,B3):=(a5B b6G (r:=.ok sb1) (by kernel_rfl) rfl).trans (by kernel_rfl)
theorem b5N:oB B3 []=some (.ok (.str "shift"),B4):=(b5j (x := "b") (w := "shift") (old:=sb) (new:=sb1) (sh:=[(.inr "a", full),(.inr "b", sb1)]) (dn:=[stA,stB]) (un:=[]) rfl rfl).trans (by kernel_rfl)
def odd:List PyData:=[.none,.list [],.tuple [.tuple [.str "a", .int 0,.int 0]],.tuple [.tuple [.str "a", .int 0,.int 481]],.tuple [.tuple [.str "b", .int 0,.int 1],.tuple [.str "a", .int 0,.int 1]],.tuple [.tuple [.str "a", .int 0,.int 1],.tuple [.str "a", .int 0,.int 1]],.tuple [.tuple [.str "A", .int 0,.int 1]],.int 5,.tuple [.str "a", .int 0,.int 1]]
theorem b4n {i:Int} (h0:0≤i) (h9:i<9):∃ d,atI odd i=some d∧bV [d]=some (.ok (.bool false)):=by
 have:i=0∨i=1∨i=2∨i=3∨i=4∨i=5∨i=6∨i=7∨i=8:=by omega
 rcases this with rfl | rfl | rfl | rfl | rfl | rfl | rfl | rfl | rfl
 ·exact ⟨_,rfl,by kernel_rfl⟩
 ·exact ⟨_,rfl,by kernel_rfl⟩
 ·exact ⟨_,rfl,by kernel_rfl⟩
 ·exact ⟨_,rfl,by kernel_rfl⟩
 ·exact ⟨_,rfl,yW [("b", 0,1),("a", 0,1)] (by decide) (a1C (by decide +kernel)) (by decide +kernel)⟩
 ·exact ⟨_,rfl,yV [("a", 0,1),("a", 0,1)] (by decide) (a1C (by decide +kernel)) (by decide +kernel)⟩
 ·exact ⟨_,rfl,by kernel_rfl⟩
 ·exact ⟨_,rfl,by kernel_rfl⟩
 ·exact ⟨_,rfl,by kernel_rfl⟩
def nms:List PyData:=[.none,.str "", .str "A", .str "abcde", .int 5,.list [.str "a"],.str "a b", .str "a1"]
theorem b4u {i:Int} (h0:0≤i) (h9:i<8):∃ d,atI nms i=some d∧aY [d]=some (.ok (.bool false)):=by
 have:i=0∨i=1∨i=2∨i=3∨i=4∨i=5∨i=6∨i=7:=by omega
 rcases this with rfl | rfl | rfl | rfl | rfl | rfl | rfl | rfl<;>exact ⟨_,rfl,by kernel_rfl⟩
def gns:List PyData:=[.str "c", .str "ab", .str "x", .str "none"]
theorem b5b {i:Int} (h0:0≤i) (h9:i<4):∃ d,atI gns i=some d∧aF B4 [d]=some (.ex "NoSheet"):=by
 have:i=0∨i=1∨i=2∨i=3:=by omega
 rcases this with rfl | rfl | rfl | rfl
 ·exact ⟨_,rfl,gB (.inr ⟨"c", rfl,cU _ (by decide +kernel),by kernel_rfl⟩)⟩
 ·exact ⟨_,rfl,gB (.inr ⟨"ab", rfl,cU _ (by decide +kernel),by kernel_rfl⟩)⟩
 ·exact ⟨_,rfl,gB (.inr ⟨"x", rfl,cU _ (by decide +kernel),by kernel_rfl⟩)⟩
 ·exact ⟨_,rfl,gB (.inr ⟨"none", rfl,cU _ (by decide +kernel),by kernel_rfl⟩)⟩
def tms:List PyData:=[.tuple [.int 5,.int 5],.tuple [.int (-1),.int 3],.tuple [.int 470,.int 481],.tuple [.none,.int 3],.tuple [.int 1,.str "2"],.tuple [.bool true,.int 4]]
theorem b3v {i:Int} (h0:0≤i) (h9:i<6):∃ t u,atI tms i=some (.tuple [t,u])∧cE [full,.str "b", t,u]=some (.ex "Taken")∧cE [full,.str "zz", t,u]=some (.ex "NoTime"):=by
 have:i=0∨i=1∨i=2∨i=3∨i=4∨i=5:=by omega
 rcases this with rfl | rfl | rfl | rfl | rfl | rfl<;>exact ⟨_,_,rfl,by kernel_rfl,by kernel_rfl⟩
theorem a6B:aF B4 [.str "a"]=some (.ok full):=fT (cU _ (by decide +kernel)) (by kernel_rfl)
theorem b4k:aF B4 [.str "b"]=some (.ok sb):=fT (cU _ (by decide +kernel)) (by kernel_rfl)
theorem tb1:cE [full,.str "zz", .int 1,.int 2]=some (.ex "TooMany"):=by kernel_rfl
def dls:List PyData:=[.str "b", .str "zz", .str "c", .str "y"]
theorem b5q {i:Int} (h0:0≤i) (h9:i<4):∃ d,atI dls i=some d∧cN [sb,d]=some (.ex "NoMeeting"):=by
 have:i=0∨i=1∨i=2∨i=3:=by omega
 rcases this with rfl | rfl | rfl | rfl<;>exact ⟨_,rfl,by kernel_rfl⟩
def bys:List PyData:=[.int (-1),.int 475,.int 999,.int (-6)]
theorem b5J {i:Int} (h0:0≤i) (h9:i<4):∃ d,atI bys i=some d∧iN [sb,d]=some (.ex "NoTime"):=by
 have:i=0∨i=1∨i=2∨i=3:=by omega
 rcases this with rfl | rfl | rfl | rfl<;>exact ⟨_,rfl,by kernel_rfl⟩
theorem mg:lX [full,sb]=some (.ex "TooMany"):=by kernel_rfl
theorem iK:nE bK aS (.ex "NoSheet")=some (.str "no sheet"):=by kernel_rfl
theorem a3r:nE bK aS (.ex "Taken")=some (.str "taken"):=by kernel_rfl
theorem a5P:nE bK aS (.ex "NoTime")=some (.str "no time"):=by kernel_rfl
theorem a5R:nE bK aS (.ex "TooMany")=some (.str "too many"):=by kernel_rfl
theorem b2t:nE bK aS (.ex "NoMeeting")=some (.str "no meeting"):=by kernel_rfl
end L2.L3
namespace L2.L3
open PySem PySem.Spec PyProof.Rows
section
variable {ρ ρ':List Ent} {β β':Sto} {a:Addr} {b b':BS} {d:PyData} {i:Nat}
theorem a2R {fa:OEF} (h:fa ρ β=some (.ok d,β')):a8P i (yE fa a5V) ρ β=some (.nx (ρ.set i (.lst [d])),β'):=by
 unfold a8P yE
 rw [h];rfl
theorem fH {fa:OEF} {ds:List PyData} (hi:ρ[i]?=some (.lst ds)) (h:fa ρ β=some (.ok d,β')) (hz:dA ds.length=true):pP i fa ρ β=some (.nx (ρ.set i (.lst (ds++[d]))),β'):=by
 unfold pP
 rw [hi]
 dsimp only
 rw [h]
 show (if _ then _ else _)=_
 rw [if_pos hz]
theorem dL {F:BS→List PyData→Option (Re PyData×BS)} {fa:AF} {ds:List PyData} {cap:List (Option Nat)} {j:Nat} {c w:Str} (ρc ρv:List Ent) (hv:vw [(a,b)] ρc=ρv) (ha:fa ρv=some (.ok ds)) (hF:F b ds=some (.ex c,b)) (ht:nE bK aS (.ex c)=some (.str w))
  (hn:dU ρ=true:=by rfl) (hc:cJ cap ρ=ρc:=by rfl) (hj:ρc[j]?=some (.adr a):=by rfl) (hn2:dU ρc=true:=by rfl):eW bK aS cap (bJ F j fa) ρ [(a,b)]=some (.ok (.str w),[(a,b)]):=
 a7G (by rw [hc];exact (dB hj aV (by rw [hv];exact ha) hF hn2).trans (by rw [bG])) ht hn
theorem b3o {d:PyData} (h:vw [(a,b)] ρ=ρ):vw [(a,b)] (.val d::.adr a::ρ)=.val d::.ro (some a) b::ρ:=by
 show Ent.val d::vw _ (.adr a::ρ)=_
 rw [vwS h]
end
theorem b2X (p k:Int):0≤(p+k) % 9∧(p+k) % 9<9:=⟨kK _ (by decide),jo _ (by decide)⟩
theorem b2Y (p k:Int):0≤(p+k) % 8∧(p+k) % 8<8:=⟨kK _ (by decide),jo _ (by decide)⟩
theorem b3a (p k:Int):0≤(p+k) % 4∧(p+k) % 4<4:=⟨kK _ (by decide),jo _ (by decide)⟩
theorem b2Z (p k:Int):0≤(p+k) % 6∧(p+k) % 6<6:=⟨kK _ (by decide),jo _ (by decide)⟩
def Pl (e:Ent):Prop:=(∀ β,eE β e=e)∧dU [e]=true∧a2m e=e
theorem a0o:Pl .no:=⟨fun _=>rfl,rfl,rfl⟩
theorem a3V (d:PyData):Pl (.val d):=⟨fun _=>rfl,rfl,rfl⟩
theorem nK (d:List PyData):Pl (.lst d):=⟨fun _=>rfl,rfl,rfl⟩
abbrev fK (ns:List Int) (a:Addr) (k:Int) (e5 e6 e7 e8 e9 e10:Ent):List Ent:=[.val (dN ns),.val (.list odd),.adr a,.val full,.val (.int k),e5,e6,e7,e8,e9,e10]
abbrev a2r (ns:List Int) (a:Addr) (b:BS) (k:Int) (e5 e6 e7 e8 e9 e10:Ent):List Ent:=[.val (dN ns),.val (.list odd),.ro (some a) b,.val full,.val (.int k),e5,e6,e7,e8,e9,e10]
section
variable {ns:List Int} {a:Addr} {b:BS} {k:Int} {e5 e6 e7 e8 e9 e10:Ent}
theorem b5Z (h5:Pl e5) (h6:Pl e6) (h7:Pl e7) (h8:Pl e8) (h9:Pl e9) (h10:Pl e10):vw [(a,b)] (fK ns a k e5 e6 e7 e8 e9 e10)=a2r ns a b k e5 e6 e7 e8 e9 e10:=by
 show [Ent.val (dN ns),.val (.list odd),eE _ (.adr a),.val full,.val (.int k),eE _ e5,eE _ e6,eE _ e7,eE _ e8,eE _ e9,eE _ e10]=_
 rw [sH,h5.1,h6.1,h7.1,h8.1,h9.1,h10.1]
theorem b7q (h5:Pl e5) (h6:Pl e6) (h7:Pl e7) (h8:Pl e8) (h9:Pl e9) (h10:Pl e10):uv (a2r ns a b k e5 e6 e7 e8 e9 e10)=fK ns a k e5 e6 e7 e8 e9 e10:=by
 show [Ent.val (dN ns),.val (.list odd),.adr a,.val full,.val (.int k),a2m e5,a2m e6,a2m e7,a2m e8,a2m e9,a2m e10]=_
 rw [h5.2.2,h6.2.2,h7.2.2,h8.2.2,h9.2.2,h10.2.2]
theorem a5Y {f:SF} {g5 g6 g7 g8 g9 g10:Ent} (h5:Pl e5) (h6:Pl e6) (h7:Pl e7) (h8:Pl e8) (h9:Pl e9) (h10:Pl e10) (k5:Pl g5) (k6:Pl g6) (k7:Pl g7) (k8:Pl g8) (k9:Pl g9) (k10:Pl g10)
  (h:f (a2r ns a b k e5 e6 e7 e8 e9 e10)=some (.nx (a2r ns a b k g5 g6 g7 g8 g9 g10))):upS f (fK ns a k e5 e6 e7 e8 e9 e10) [(a,b)]=some (.nx (fK ns a k g5 g6 g7 g8 g9 g10),[(a,b)]):=by
 rw [fN (b5Z h5 h6 h7 h8 h9 h10) h]
 show some (So.nx (uv (a2r ns a b k g5 g6 g7 g8 g9 g10)),_)=_
 rw [b7q k5 k6 k7 k8 k9 k10]
end
theorem vJ {ns:List Int} {a:Addr} {k:Int} (hk:k=0∨k=1∨k=2∨k=3) {e1 e5 e6 e7 e8 e9 e10:Ent} (h1:e1=.lst odd∨e1=.val (.list odd)) (h5:Pl e5) (h6:Pl e6) (h7:Pl e7) (h8:Pl e8) (h9:Pl e9) (h10:Pl e10) :
  ∃ d5 d6 d7 d8 d9 ds,a4I [.val (dN ns),e1,.adr a,.val full,.val (.int k),e5,e6,e7,e8,e9,e10] [(a,B4)]=some (.nx (fK ns a k (.val d5) (.val d6) (.val d7) (.val d8) (.val d9) (.lst ds)),[(a,B4)]):=by
 have q0:=a1P ns 0 9 (by decide) (by decide)
 have q1:=a1P ns 1 8 (by decide) (by decide)
 have q2:=a1P ns 2 4 (by decide) (by decide)
 have q3:=a1P ns 3 6 (by decide) (by decide)
 generalize pickOf ns 0 9=p0 at q0
 generalize pickOf ns 1 8=p1 at q1
 generalize pickOf ns 2 4=p2 at q2
 generalize pickOf ns 3 6=p3 at q3
 obtain ⟨d5,i5,s5⟩:=b4n (b2X p0 (2*k)).1 (b2X p0 (2*k)).2
 obtain ⟨d6,i6,s6⟩:=b4u (b2Y p1 (3*k)).1 (b2Y p1 (3*k)).2
 obtain ⟨d7,i7,s7⟩:=b5b (b3a p2 k).1 (b3a p2 k).2
 obtain ⟨d8,d9,i8,s8,s9⟩:=b3v (b2Z p3 k).1 (b2Z p3 k).2
 have s6':aF B4 [d6]=some (.ex "NoSheet"):=gB (.inl s6)
 have v:=a3V
 refine ⟨d5,d6,d7,d8,d9,[.str "taken", .str "no time", .str "too many", .str "no meeting", .str "no time", .str "too many"],?_⟩
 have hfr:∀ g:OSF,a9z 1 g [.val (dN ns),e1,.adr a,.val full,.val (.int k),e5,e6,e7,e8,e9,e10] [(a,B4)]=g (fK ns a k e5 e6 e7 e8 e9 e10) [(a,B4)]:=fun g=>by rcases h1 with rfl | rfl<;>rfl
 show a9z 1 _ _ _=_
 rw [hfr]
 rw [aO (a5Y h5 h6 h7 h8 h9 h10 (v d5) h6 h7 h8 h9 h10 (by
  rw [a1i]
  show bns (bnd (bnd (bnd (bS dY (aB (var 0) (aB (cst (.int 0)) (aB (cst (.int 9)) aI))) _) _) _) _) _ _=_
  rw [eM (ds:=[dN ns,.int 0,.int 9]) rfl q0]
  show bns (lft (atI odd ((p0+2*k) % 9))) _ _=_
  rw [i5];rfl))]
 rw [aO (a5Y (v d5) h6 h7 h8 h9 h10 (v d5) (v d6) h7 h8 h9 h10 (by
  rw [a1i]
  show bns (bnd (bnd (bnd (bS dY (aB (var 0) (aB (cst (.int 1)) (aB (cst (.int 8)) aI))) _) _) _) _) _ _=_
  rw [eM (ds:=[dN ns,.int 1,.int 8]) rfl q1]
  show bns (lft (atI nms ((p1+3*k) % 8))) _ _=_
  rw [i6];rfl))]
 rw [aO (a5Y (v d5) (v d6) h7 h8 h9 h10 (v d5) (v d6) (v d7) h8 h9 h10 (by
  rw [a1i]
  show bns (bnd (bnd (bnd (bS dY (aB (var 0) (aB (cst (.int 2)) (aB (cst (.int 4)) aI))) _) _) _) _) _ _=_
  rw [eM (ds:=[dN ns,.int 2,.int 4]) rfl q2]
  show bns (lft (atI gns ((p2+k) % 4))) _ _=_
  rw [i7];rfl))]
 rw [aO (a5Y (v d5) (v d6) (v d7) h8 h9 h10 (v d5) (v d6) (v d7) (v d8) (v d9) h10 (by
  show bns (bnd (bnd (bnd (bS dY (aB (var 0) (aB (cst (.int 3)) (aB (cst (.int 6)) aI))) _) _) _) _) _ _=_
  rw [eM (ds:=[dN ns,.int 3,.int 6]) rfl q3]
  show bns (lft (atI tms ((p3+k) % 6))) _ _=_
  rw [i8];rfl))]
 have hn10:∀ e,Pl e→dU (fK ns a k (.val d5) (.val d6) (.val d7) (.val d8) (.val d9) e)=true:=fun e h=>by
  exact h.2.1
 have x3:∃ z,op2 ixD (fL (aB (var 3) (aB (var 1) aI))) (op2 mZ (var 2) (cst (.int 2))) [.ro (some a) B4,.val d7,.val (.int k),.val d6]=some (.ok z)∧aF B4 [z]=some (.ex "NoSheet"):=by
  rcases hk with rfl | rfl | rfl | rfl
  ·exact ⟨_,rfl,s6'⟩
  ·exact ⟨_,rfl,s7⟩
  ·exact ⟨_,rfl,s6'⟩
  ·exact ⟨_,rfl,s7⟩
 have x5:∃ z,op2 ixD (fL (aB (var 1) (aB (var 3) aI))) (op2 mZ (var 2) (cst (.int 2))) [.ro (some a) B4,.val d7,.val (.int k),.val d6]=some (.ok z)∧aF B4 [z]=some (.ex "NoSheet"):=by
  rcases hk with rfl | rfl | rfl | rfl
  ·exact ⟨_,rfl,s7⟩
  ·exact ⟨_,rfl,s6'⟩
  ·exact ⟨_,rfl,s7⟩
  ·exact ⟨_,rfl,s6'⟩
 have x4:∃ z,op2 ixD (fL (aB (var 5) (aB (var 3) aI))) (op2 mZ (var 4) (cst (.int 2))) [.val d8,.ro (some a) B4,.val d9,.val d7,.val (.int k),.val d6]=some (.ok z)∧aF B4 [z]=some (.ex "NoSheet"):=by
  rcases hk with rfl | rfl | rfl | rfl
  ·exact ⟨_,rfl,s6'⟩
  ·exact ⟨_,rfl,s7⟩
  ·exact ⟨_,rfl,s6'⟩
  ·exact ⟨_,rfl,s7⟩
 have x7:∃ y z,aB (op2 ixD (fL (aB (cst (.str "a")) (aB (var 3) (aB (cst (.str "a")) (aB (var 1) aI))))) (var 2)) (aB (op2 ixD (fL (aB (var 3) (aB (cst (.str "b")) (aB (var 1) (aB (cst (.str "b")) aI))))) (var 2)) aI) [.ro (some a) B4,.val d7,.val (.int k),.val d6]=some (.ok [y,z])∧eB B4 [y,z]=some (.ex "NoSheet", B4):=by
  rcases hk with rfl | rfl | rfl | rfl
  ·exact ⟨_,_,rfl,a0r a6B s6'⟩
  ·exact ⟨_,_,rfl,a2Q s6'⟩
  ·exact ⟨_,_,rfl,a0r a6B s7⟩
  ·exact ⟨_,_,rfl,a2Q s7⟩
 have kk:0≤k∧k<4:=by omega
 obtain ⟨z3,x3,y3⟩:=x3
 obtain ⟨z4,x4,y4⟩:=x4
 obtain ⟨z5,x5,y5⟩:=x5
 obtain ⟨y7,z7,x7,m7⟩:=x7
 obtain ⟨dl,il,sl⟩:=b5q kk.1 kk.2
 obtain ⟨db,ib,sb'⟩:=b5J kk.1 kk.2
 rw [aO (a2R (dL (b:=B4) (a:=a) (ds:=[.str "a", d5]) [.adr a,.val d5] _ (vwS rfl) rfl (a8L (.inr ⟨cU _ (by decide +kernel),s5⟩)) iK (hn10 _ h10)))]
 show bF _ _ (fK ns a k (.val d5) (.val d6) (.val d7) (.val d8) (.val d9) (.lst [.str "no sheet"])) _=_
 rw [aO (fH (ds:=[.str "no sheet"]) rfl (dL (b:=B4) (a:=a) (ds:=[d6,.tuple []]) [.adr a,.val d6] _ (vwS rfl) rfl (a8L (.inl s6)) iK) rfl)]
 show bF _ _ (fK ns a k (.val d5) (.val d6) (.val d7) (.val d8) (.val d9) (.lst [.str "no sheet", .str "no sheet"])) _=_
 rw [aO (fH (ds:=[.str "no sheet", .str "no sheet"]) rfl (dL (b:=B4) (a:=a) (ds:=[z3]) [.adr a,.val d7,.val (.int k),.val d6] _ (vwS rfl) (by rw [bY,x3];rfl) (b1i y3) iK) rfl)]
 show bF _ _ (fK ns a k (.val d5) (.val d6) (.val d7) (.val d8) (.val d9) (.lst [.str "no sheet", .str "no sheet", .str "no sheet"])) _=_
 rw [aO (fH (ds:=[.str "no sheet", .str "no sheet", .str "no sheet"]) rfl (dL (b:=B4) (a:=a) (ds:=[z4,.str "a", d8,d9]) [.val d8,.adr a,.val d9,.val d7,.val (.int k),.val d6] _ (b3o rfl) (by rw [bY,x4];rfl) (b4t y4) iK) rfl)]
 show bF _ _ (fK ns a k (.val d5) (.val d6) (.val d7) (.val d8) (.val d9) (.lst [.str "no sheet", .str "no sheet", .str "no sheet", .str "no sheet"])) _=_
 rw [aO (fH (ds:=[.str "no sheet", .str "no sheet", .str "no sheet", .str "no sheet"]) rfl (dL (b:=B4) (a:=a) (ds:=[z5,.str "zz"]) [.adr a,.val d7,.val (.int k),.val d6] _ (vwS rfl) (by rw [bY,x5];rfl) (b1j y5) iK) rfl)]
 show bF _ _ (fK ns a k (.val d5) (.val d6) (.val d7) (.val d8) (.val d9) (.lst [.str "no sheet", .str "no sheet", .str "no sheet", .str "no sheet", .str "no sheet"])) _=_
 rw [aO (fH (ds:=[.str "no sheet", .str "no sheet", .str "no sheet", .str "no sheet", .str "no sheet"]) rfl (dL (b:=B4) (a:=a) (ds:=[z3,.int 999]) [.adr a,.val d7,.val (.int k),.val d6] _ (vwS rfl) (by rw [bY,x3];rfl) (a8K y3) iK) rfl)]
 show bF _ _ (fK ns a k (.val d5) (.val d6) (.val d7) (.val d8) (.val d9) (.lst [.str "no sheet", .str "no sheet", .str "no sheet", .str "no sheet", .str "no sheet", .str "no sheet"])) _=_
 rw [aO (fH (ds:=[.str "no sheet", .str "no sheet", .str "no sheet", .str "no sheet", .str "no sheet", .str "no sheet"]) rfl (dL (b:=B4) (a:=a) (ds:=[y7,z7]) [.adr a,.val d7,.val (.int k),.val d6] _ (vwS rfl) x7 m7 iK) rfl)]
 show bF _ _ (fK ns a k (.val d5) (.val d6) (.val d7) (.val d8) (.val d9) (.lst [.str "no sheet", .str "no sheet", .str "no sheet", .str "no sheet", .str "no sheet", .str "no sheet", .str "no sheet"])) _=_
 rw [aO (a5Y (v d5) (v d6) (v d7) (v d8) (v d9) (nK _) (v d5) (v d6) (v d7) (v d8) (v d9) (nK _) (by
  have t1:a7N (a2r ns a B4 k (.val d5) (.val d6) (.val d7) (.val d8) (.val d9) (.lst [.str "no sheet", .str "no sheet", .str "no sheet", .str "no sheet", .str "no sheet", .str "no sheet", .str "no sheet"]))=some (.ok false):=a7H (a2S (x:=.list [.str "no sheet", .str "no sheet", .str "no sheet", .str "no sheet", .str "no sheet", .str "no sheet", .str "no sheet"]) rfl rfl (by kernel_rfl))
  rw [rF,t1];rfl))]
 rw [aO (a2R (dL (b:=B4) (a:=a) (ds:=[.str "a", .str "b", d8,d9]) [.val d8,.adr a,.val d9] _ (b3o rfl) rfl (a5E a6B s8 rfl) a3r))]
 show bF _ _ (fK ns a k (.val d5) (.val d6) (.val d7) (.val d8) (.val d9) (.lst [.str "taken"])) _=_
 rw [aO (fH (ds:=[.str "taken"]) rfl (dL (b:=B4) (a:=a) (ds:=[.str "a", .str "zz", d8,d9]) [.val d8,.adr a,.val d9] _ (b3o rfl) rfl (a5E a6B s9 rfl) a5P) rfl)]
 show bF _ _ (fK ns a k (.val d5) (.val d6) (.val d7) (.val d8) (.val d9) (.lst [.str "taken", .str "no time"])) _=_
 rw [aO (fH (ds:=[.str "taken", .str "no time"]) rfl (dL (b:=B4) (a:=a) (ds:=[.str "a", .str "zz", .int 1,.int 2]) [.adr a] _ (vwS rfl) rfl (a5E a6B tb1 rfl) a5R) rfl)]
 show bF _ _ (fK ns a k (.val d5) (.val d6) (.val d7) (.val d8) (.val d9) (.lst [.str "taken", .str "no time", .str "too many"])) _=_
 rw [aO (fH (ds:=[.str "taken", .str "no time", .str "too many"]) rfl (dL (b:=B4) (a:=a) (ds:=[.str "b", dl]) [.adr a,.val (.int k)] _ (vwS rfl) (by
  show bnd (bnd (lft (atI dls k)) _) _=_
  rw [il];rfl) (a9I b4k sl rfl) b2t) rfl)]
 show bF _ _ (fK ns a k (.val d5) (.val d6) (.val d7) (.val d8) (.val d9) (.lst [.str "taken", .str "no time", .str "too many", .str "no meeting"])) _=_
 rw [aO (fH (ds:=[.str "taken", .str "no time", .str "too many", .str "no meeting"]) rfl (dL (b:=B4) (a:=a) (ds:=[.str "b", db]) [.adr a,.val (.int k)] _ (vwS rfl) (by
  show bnd (bnd (lft (atI bys k)) _) _=_
  rw [ib];rfl) (a5B b4k sb' rfl) a5P) rfl)]
 show bF _ _ (fK ns a k (.val d5) (.val d6) (.val d7) (.val d8) (.val d9) (.lst [.str "taken", .str "no time", .str "too many", .str "no meeting", .str "no time"])) _=_
 rw [aO (fH (ds:=[.str "taken", .str "no time", .str "too many", .str "no meeting", .str "no time"]) rfl (dL (b:=B4) (a:=a) (ds:=[.str "a", .str "b"]) [.adr a] _ (vwS rfl) rfl (a5C a6B b4k mg rfl) a5R) rfl)]
 show upS _ (fK ns a k (.val d5) (.val d6) (.val d7) (.val d8) (.val d9) (.lst [.str "taken", .str "no time", .str "too many", .str "no meeting", .str "no time", .str "too many"])) _=_
 refine a5Y (v d5) (v d6) (v d7) (v d8) (v d9) (nK _) (v d5) (v d6) (v d7) (v d8) (v d9) (nK _) ?_
 have t2:a7M (a2r ns a B4 k (.val d5) (.val d6) (.val d7) (.val d8) (.val d9) (.lst [.str "taken", .str "no time", .str "too many", .str "no meeting", .str "no time", .str "too many"]))=some (.ok false):=a7H (a2S (x:=.list [.str "taken", .str "no time", .str "too many", .str "no meeting", .str "no time", .str "too many"]) rfl rfl (by kernel_rfl))
 rw [rF,t2];rfl
def sz:PyData:=dS [("z", 6,7)]
def szy:PyData:=dS [("y", 0,480),("z", 6,7)]
def B5:BS:=behind B3 "drop" "b" sz
theorem b1M:mB B4 []=some (.ok (.str "shift"),B3):=(b1X (x := "b") (w := "shift") (old:=sb) (new:=sb1) (sh:=[(.inr "a", full),(.inr "b", sb)]) (dn:=[stA,stB]) (un:=[]) rfl rfl).trans (by kernel_rfl)
theorem a8G:aF B3 [.str "b"]=some (.ok sb1):=fT (cU _ (by decide +kernel)) (by kernel_rfl)
theorem b6H:aF B3 [.str "a"]=some (.ok full):=fT (cU _ (by decide +kernel)) (by kernel_rfl)
theorem b6F:aF B5 [.str "b"]=some (.ok sz):=fT (cU _ (by decide +kernel)) (by kernel_rfl)
theorem b5p:eL B3 [.str "b", .str "a"]=some (.ok sz,B5):=a9I a8G (r:=.ok sz) (by kernel_rfl) rfl
theorem b7h:fJ B5 [.str "b", .str "y", .int 0,.int 480]=some (.ok szy,behind B5 "add" "b" szy):=a5E b6F (r:=.ok szy) (by kernel_rfl) rfl
theorem b1l:lY B4 []=some (.ok (.list [.str "a", .str "b"])):=by
 rw [a4v (b:=B4) (ns:=["a", "b"]) (by kernel_rfl) (by decide),←vZ (ns:=["a", "b"]) (ms:=["a", "b"]) (.refl _) (by decide +kernel)];rfl
theorem b1t:lZ B4 []=some (.ok (.tuple [.int 2,.int 1])):=b1W
theorem wW {F:BS→List PyData→Mm PyData} {ρ:List Ent} {i:Nat} {oa:Option Addr} {b:BS} {fa:AF} {ds:List PyData} {r:Re PyData} (hi:ρ[i]?=some (.ro oa b)) (ha:fa ρ=some (.ok ds)) (hF:F b ds=some r):iE F i fa ρ=some r:=by
 unfold iE;rw [hi];dsimp only;rw [ha];exact hF
theorem b7c {ns:List Int} {a:Addr} {k:Int} {d5 d6 d7 d8 d9:PyData} {ds:List PyData}:∃ β',bF (ifO a3H (upS (retS (cst (.bool false)))) a8N) (bF (ifO a3G (upS (retS (cst (.bool false)))) a8N) (tG (b0l (a3q eqD (bJ eL 2 (aB (cst (.str "b")) (aB (cst (.str "a")) aI))) (upE (cR (aB (cR (aB (cst (.str "z")) (aB (cst (.int 6)) (aB (cst (.int 7)) aI)))) aI)))) (a3q eqD (bJ fJ 2 (aB (cst (.str "b")) (aB (cst (.str "y")) (aB (cst (.int 0)) (aB (cst (.int 480)) aI))))) (upE (cR (aB (cR (aB (cst (.str "y")) (aB (cst (.int 0)) (aB (cst (.int 480)) aI)))) (aB (cR (aB (cst (.str "z")) (aB (cst (.int 6)) (aB (cst (.int 7)) aI)))) aI)))))))) (fK ns a k (.val d5) (.val d6) (.val d7) (.val d8) (.val d9) (.lst ds)) [(a,B4)]=some (.rt (.bool true),β'):=by
 have v:=a3V
 have hv:∀ b,vw [(a,b)] (fK ns a k (.val d5) (.val d6) (.val d7) (.val d8) (.val d9) (.lst ds))=a2r ns a b k (.val d5) (.val d6) (.val d7) (.val d8) (.val d9) (.lst ds):=fun b=>b5Z (v _) (v _) (v _) (v _) (v _) (nK _)
 have t3:a3H (fK ns a k (.val d5) (.val d6) (.val d7) (.val d8) (.val d9) (.lst ds)) [(a,B4)]=some (.ok false,[(a,B3)]):=by
  show a2L _ _ _ _=_
  rw [a3Z (vP (hv B4) (a2S (x:=.list [.str "a", .str "b"]) (y:=.list [.str "a", .str "b"]) (wW rfl rfl b1l) rfl (by kernel_rfl)))]
  rw [a3Z (vP (hv B4) (a2S (x:=.tuple [.int 2,.int 1]) (y:=.tuple [.int 2,.int 1]) (wW rfl rfl b1t) rfl (by kernel_rfl)))]
  refine (a3o (x:=.str "shift") (y:=.str "shift") (t:=false) (dB (a:=a) rfl aV rfl b1M) (a1b rfl rfl) (by kernel_rfl)).trans ?_
  rw [bG]
 rw [aO (ρ':=fK ns a k (.val d5) (.val d6) (.val d7) (.val d8) (.val d9) (.lst ds)) (β':=[(a,B3)]) (by rw [a9j t3];rfl)]
 have t4:a3G (fK ns a k (.val d5) (.val d6) (.val d7) (.val d8) (.val d9) (.lst ds)) [(a,B3)]=some (.ok false,[(a,B3)]):=by
  show a2L _ _ _ _=_
  rw [a3Z (vP (hv B3) (a2S (x:=sb1) (y:=sb1) (wW rfl rfl a8G) rfl (by kernel_rfl)))]
  exact a3o (x:=.str "taken") (y:=.str "taken") (t:=false) (dL (b:=B3) (a:=a) (ds:=[.str "a", .str "b"]) [.adr a] _ (vwS rfl) rfl (a5C b6H a8G (r:=.ex "Taken") (by kernel_rfl) rfl) a3r) (a1b rfl rfl) (by kernel_rfl)
 rw [aO (ρ':=fK ns a k (.val d5) (.val d6) (.val d7) (.val d8) (.val d9) (.lst ds)) (β':=[(a,B3)]) (by rw [a9j t4];rfl)]
 have c1:a3q eqD (bJ eL 2 (aB (cst (.str "b")) (aB (cst (.str "a")) aI))) (upE (cR (aB (cR (aB (cst (.str "z")) (aB (cst (.int 6)) (aB (cst (.int 7)) aI)))) aI))) (fK ns a k (.val d5) (.val d6) (.val d7) (.val d8) (.val d9) (.lst ds)) [(a,B3)]=some (.ok (.bool true),[(a,B5)]):=by
  refine (a5O (x:=sz) (y:=sz) (t:=true) (dB (a:=a) rfl aV rfl b5p) (a1b rfl rfl) (by kernel_rfl)).trans ?_
  rw [bG]
 refine ⟨_,a4Y ((b5Q c1).trans (a5O (x:=szy) (y:=szy) (t:=true) (dB (a:=a) rfl aV rfl b7h) (a1b rfl rfl) (by kernel_rfl)))⟩
theorem b1N {t:Tg} {fi:AF} {fb:OSF} {ρ:List Ent} {β:Sto} {ds:List PyData} (h:fi ρ=some (.ok ds)):a6S t fi fb ρ β=oV t fb ds ρ β:=by unfold a6S;rw [h]
theorem pY {t:Tg} {fb:OSF} {d:PyData} {ds:List PyData} {ρ ρ1 ρ2:List Ent} {β β2:Sto} (h1:tgD t ρ d=some ρ1) (h2:fb ρ1 β=some (.nx ρ2,β2)):oV t fb (d::ds) ρ β=oV t fb ds ρ2 β2:=by
 conv=>lhs;unfold oV
 rw [h1];dsimp only;rw [h2]
theorem a7X {ns:List Int} {a:Addr}:∃ d5 d6 d7 d8 d9 ds,a6S (.nm 4) (a7Y (cst (.int 4))) a4I [.val (dN ns),.lst odd,.adr a,.val full,.no,.no,.no,.no,.no,.no,.no] [(a,B4)]=some (.nx (fK ns a 3 (.val d5) (.val d6) (.val d7) (.val d8) (.val d9) (.lst ds)),[(a,B4)]):=by
 have v:=a3V
 obtain ⟨a5,a6,a7,a8,a9,as,r0⟩:=vJ (ns:=ns) (a:=a) (k:=0) (by omega) (e1:=.lst odd) (.inl rfl) a0o a0o a0o a0o a0o a0o
 obtain ⟨b5,b6,b7,b8,b9,bs,r1⟩:=vJ (ns:=ns) (a:=a) (k:=1) (by omega) (e1:=.val (.list odd)) (.inr rfl) (v a5) (v a6) (v a7) (v a8) (v a9) (nK as)
 obtain ⟨c5,c6,c7,c8,c9,cs,r2⟩:=vJ (ns:=ns) (a:=a) (k:=2) (by omega) (e1:=.val (.list odd)) (.inr rfl) (v b5) (v b6) (v b7) (v b8) (v b9) (nK bs)
 obtain ⟨d5,d6,d7,d8,d9,ds,r3⟩:=vJ (ns:=ns) (a:=a) (k:=3) (by omega) (e1:=.val (.list odd)) (.inr rfl) (v c5) (v c6) (v c7) (v c8) (v c9) (nK cs)
 refine ⟨d5,d6,d7,d8,d9,ds,?_⟩
 rw [b1N (ds:=[.int 0,.int 1,.int 2,.int 3]) rfl,pY rfl r0,pY rfl r1,pY rfl r2,pY rfl r3];rfl
theorem e_law (ns:List Int) (hl:ns.length≤63):F_law [dN ns]=some (.ok (.bool true)):=by
 have e:a3f [.val (dN ns),.no,.no,.no,.no,.no,.no,.no,.no,.no,.no] []=some (.rt (.bool true),[]):=by
  unfold a3f
  rw [aO (fN (ρv:=[.val (dN ns),.no,.no,.no,.no,.no,.no,.no,.no,.no,.no]) rfl (o:=.nx [.val (dN ns),.lst (odd.take 6),.no,.no,.no,.no,.no,.no,.no,.no,.no]) (by kernel_rfl))]
  show bF _ _ [.val (dN ns),.lst (odd.take 6),.no,.no,.no,.no,.no,.no,.no,.no,.no] []=_
  rw [aO (fN (ρv:=[.val (dN ns),.lst (odd.take 6),.no,.no,.no,.no,.no,.no,.no,.no,.no]) rfl (o:=.nx [.val (dN ns),.lst odd,.no,.no,.no,.no,.no,.no,.no,.no,.no]) (by kernel_rfl))]
  show mkO 2 [3] _ _ [.val (dN ns),.lst odd,.no,.no,.no,.no,.no,.no,.no,.no,.no] []=_
  refine b4B rfl fun a _=>?_
  refine ⟨[full],?_⟩
  have hk:aB (iL uW (aB a4k aI)) aI (vw [(a,oQ)] [.val (dN ns),.lst odd,.no,.no,.no,.no,.no,.no,.no,.no,.no])=some (.ok [full]):=by
   show aB (iL uW (aB a4k aI)) aI [.val (dN ns),.lst odd,.no,.no,.no,.no,.no,.no,.no,.no,.no]=_
   kernel_rfl
  have hv:∀ b,vw [(a,b)] [.val (dN ns),.lst odd,.adr a,.val full,.no,.no,.no,.no,.no,.no,.no]=[.val (dN ns),.lst odd,.ro (some a) b,.val full,.no,.no,.no,.no,.no,.no,.no]:=fun b=>by
   show [Ent.val (dN ns),.lst odd,eE _ (.adr a),.val full,.no,.no,.no,.no,.no,.no,.no]=_
   rw [sH]
  obtain ⟨d5,d6,d7,d8,d9,ds,rr⟩:=a7X (ns:=ns) (a:=a)
  obtain ⟨β',ee⟩:=b7c (ns:=ns) (a:=a) (k:=3) (d5:=d5) (d6:=d6) (d7:=d7) (d8:=d8) (d9:=d9) (ds:=ds)
  refine ⟨β',hk,rfl,?_⟩
  show bF _ _ [.val (dN ns),.lst odd,.adr a,.val full,.no,.no,.no,.no,.no,.no,.no] [(a,oQ)]=_
  rw [aO (gC (dB (a:=a) (ds:=[.str "a", full]) rfl aV (by rw [hv];rfl) b6P)),bG]
  rw [aO (gC (dB (a:=a) (ds:=[.str "b", sb]) rfl aV (by rw [hv];rfl) b6O)),bG]
  rw [aO (gC (dB (a:=a) (ds:=[.str "b", .int 1]) rfl aV (by rw [hv];rfl) b0y)),bG]
  rw [aO (gC (dB (a:=a) (ds:=[]) rfl aV rfl b5N)),bG]
  rw [aO rr]
  exact ee
 show a2B 11 1 a3f [dN ns]=_
 unfold a2B
 rw [if_pos (show [dN ns].length=1 from rfl)]
 show (match a3f [.val (dN ns),.no,.no,.no,.no,.no,.no,.no,.no,.no,.no] [] with | some (.rt d,_)=>some (Re.ok d) | _=>none)=_
 rw [e]
end L2.L3
namespace L2.L3
theorem rC {α:Type} {l:List α} (h:l.length=1):∃ a,l=[a]:=by
 cases l with
 | nil=>cases h
 | cons a l=>cases l with
  | nil=>exact ⟨a,rfl⟩
  | cons b l=>simp at h
theorem b1v {α:Type} {l:List α} {n:Nat} (h:l.length=n+1):∃ a r,l=a::r∧r.length=n:=by
 cases l with
 | nil=>cases h
 | cons a r=>exact ⟨a,r,rfl,by simpa using h⟩
theorem tO {α:Type} {l:List α} (h:l.length=2):∃ a b,l=[a,b]:=by
 obtain ⟨a,r,rfl,k⟩:=b1v h;obtain ⟨b,rfl⟩:=rC k;exact ⟨a,b,rfl⟩
theorem a2X {α:Type} {l:List α} (h:l.length=3):∃ a b c,l=[a,b,c]:=by
 obtain ⟨a,r,rfl,k⟩:=b1v h;obtain ⟨b,c,rfl⟩:=tO k;exact ⟨a,b,c,rfl⟩
theorem b4F {α:Type} {l:List α} (h:l.length=4):∃ a b c d,l=[a,b,c,d]:=by
 obtain ⟨a,r,rfl,k⟩:=b1v h;obtain ⟨b,c,d,rfl⟩:=a2X k;exact ⟨a,b,c,d,rfl⟩
theorem b8i {α:Type} {l:List α} (h:l.length=5):∃ a b c d e,l=[a,b,c,d,e]:=by
 obtain ⟨a,r,rfl,k⟩:=b1v h;obtain ⟨b,c,d,e,rfl⟩:=b4F k;exact ⟨a,b,c,d,e,rfl⟩
end L2.L3
namespace L2.L3
open PySem PySem.Spec PyProof.Rows
section
variable {X:Cx} {e b:Expr} {es:List Expr} {pos p p0 p1 lp sp:Pos} {x y:Str} {k k':Nat} {ps ps':List Str} {F F':List PyData→Mm PyData} {fa:AF} {fb:EF}
end
end L2.L3
namespace L2.L3
open PySem PySem.Spec PyProof.Rows
def top (i:Nat):Stmt:=PySem.Challenge.pw_daysheet_k84_binders_refused.main.body.getD i (.Pass ⟨0,0,0,0⟩)
structure Blt (mg:Str→Option Value):Prop where
 b_ValueError:mg "ValueError" = none
 b_all:mg "all" = none
 b_bool:mg "bool" = none
 b_int:mg "int" = none
 b_isinstance:mg "isinstance" = none
 b_len:mg "len" = none
 b_range:mg "range" = none
 b_set:mg "set" = none
 b_sorted:mg "sorted" = none
 b_str:mg "str" = none
 b_tuple:mg "tuple" = none
 k_LAST_END:∃ t:Tok,mg "LAST_END" = some (.int 480 t)
 k_LONGEST_NAME:∃ t:Tok,mg "LONGEST_NAME" = some (.int 4 t)
 k_MOST_MEETINGS:∃ t:Tok,mg "MOST_MEETINGS" = some (.int 16 t)
section
variable {P:Program} {w:World} {K:qB} {mg:Str→Option Value} {base:Heap}
theorem fS {N P:List Str} {sc:Scope} (a:sc.kind=.function:=by rfl) (b:sc.isCoroutine=false:=by rfl) (c:sc.isGenerator=false:=by rfl) (d:N.Nodup:=by decide +kernel) (e:N.take P.length=P:=by rfl) (f:∀ x∈P,sc.names.lookup x=some .local∨sc.names.lookup x=some .cell:=by decide +kernel) (g:∀ y∈sc.names,y.2≠.free:=by decide +kernel):FnScope N P sc:=⟨a,b,c,d,e,f,g⟩
theorem hM {k j:Nat} {A:Around} (r:Room k A) (h:j≤k:=by decide):Room j A:=r.mono h
abbrev a2A:Stmt:=iW (top 34) 0
theorem a6o:FnScope ["self"] ["self"] (aC a2A):=fS
abbrev a1l:Stmt:=iW (top 34) 1
noncomputable abbrev b1n:List Str:=["self", "name", "sheet"]
theorem a7U:FnScope b1n ["self", "name", "sheet"] (aC a1l):=fS
theorem b2w (D:MDef K "put" a1l) (B:Blt mg) (BC:BCls K) (XF:ExG bK K)  : MethX P w K mg base "put" 1 ["self", "name", "sheet"] (spO K gW):=by
 obtain ⟨fa,fd,Fu,hm⟩:=D.ex
 refine ⟨fa,fd,hm,Fu.binds (fun _ _ _ _ _ _ us hl=>by obtain ⟨_,_,_,rfl⟩:=a2X hl;rfl),fX 3 2 Fu a7U rfl rfl (fun cdv A outer s H E hr=>?_)⟩
 exact (eG (a8D (a5l (a4w (aD 2))) (eG (a8B 0 BC (aD 1))) (eG (b0W 0 BC hr.units (aD 2) (aD 1)))))
abbrev lF:Stmt:=iW (top 34) 2
noncomputable abbrev yP:List Str:=["self", "word", "name", "sheet"]
theorem wF:FnScope yP ["self", "word", "name", "sheet"] (aC lF):=fS
theorem a0b (D:MDef K "carry_out" lF) (B:Blt mg) (BC:BCls K) (XF:ExG bK K) (C_m_put:MethX P w K mg base "put" 1 ["self", "name", "sheet"] (spO K gW)):MethX P w K mg base "carry_out" 2 ["self", "word", "name", "sheet"] (spO K aQ):=by
 obtain ⟨fa,fd,Fu,hm⟩:=D.ex
 refine ⟨fa,fd,hm,Fu.binds (fun _ _ _ _ _ _ us hl=>by obtain ⟨_,_,_,_,rfl⟩:=b4F hl;rfl),fX 4 3 Fu wF rfl rfl (fun cdv A outer s H E hr=>?_)⟩
 exact (aN (a1w false 0 BC (bC (aA (aD 1) (aA (aD 2) (aA (b2f 0 BC hr.units (aD 2)) (aA (aD 3) aE)))))) (aN (b0X 0 BC) (aN (gO (bH 0 BC C_m_put (hM hr) (aA (aD 2) (aA (aD 3) aE)))) (eG (eO (bB (aD 3)))))))
abbrev oE:Stmt:=top 16
theorem a3T:FnScope ["thing"] ["thing"] (aC oE):=fS
theorem a7p (D:Def K mg "is_name" oE) (B:Blt mg) (XF:ExG bK K)  : aZ P w K mg base "is_name" 1 ["thing"] aY:=by
 refine cK 1 1 D a3T rfl rfl (fun _ _ _ _ _ _ us hl=>by obtain ⟨_,rfl⟩:=rC hl;rfl) (fun fa cdv A outer s H E hr=>?_)
 have nd1:(["letter"]:List Str).Nodup:=by decide +kernel
 exact (bN (eP (DW.dt (a0I (iI (iH (lS B.b_isinstance B.b_str boot_str (aD 0)))) (tX (iI (b5l a0A a0A aH (dX pH B.b_len boot_len (aA (aD 0) aE)) (nV rfl (B.k_LONGEST_NAME))))))) (aT (bB fF)) dE) (aT (bB (dX (b0m rfl) B.b_all boot_all (aA (iV (N':=["letter"]) (cap:=[none]) rfl (cM (so:=aC oE) (NN:=["thing"]) rfl rfl (by decide +kernel)) (b4C rfl (aD 0)) rfl (fun _ _ _ _=>fY 0 nd1) (fun _ _ _ _=>rK) (fun _ _ _ _=>(b5w a0A a0A aK (aD 0) aK))) aE)))))
abbrev nG:Stmt:=top 17
theorem a1j:FnScope ["row"] ["row"] (aC nG):=fS
theorem a3v (D:Def K mg "is_rising" nG) (B:Blt mg) (XF:ExG bK K)  : aZ P w K mg base "is_rising" 1 ["row"] iY:=by
 refine cK 1 1 D a1j rfl rfl (fun _ _ _ _ _ _ us hl=>by obtain ⟨_,rfl⟩:=rC hl;rfl) (fun fa cdv A outer s H E hr=>?_)
 exact (aT (bB (b5v (a3g hr.units) (aD 0) (b2b rfl B.b_sorted B.b_set (aD 0)))))
abbrev mH:Stmt:=top 21
theorem a2w:FnScope ["sheet"] ["sheet"] (aC mH):=fS
theorem a4D (D:Def K mg "names_of" mH) (B:Blt mg) (XF:ExG bK K)  : aZ P w K mg base "names_of" 1 ["sheet"] cO:=by
 refine cK 1 1 D a2w rfl rfl (fun _ _ _ _ _ _ us hl=>by obtain ⟨_,rfl⟩:=rC hl;rfl) (fun fa cdv A outer s H E hr=>?_)
 have nd1:(["meeting"]:List Str).Nodup:=by decide +kernel
 exact (aT (bB (iV (N':=["meeting"]) (cap:=[none]) rfl (cM (so:=aC mH) (NN:=["sheet"]) rfl rfl (by decide +kernel)) (nU (aD 0)) rfl (fun _ _ _ _=>fY 0 nd1) (fun _ _ _ _=>rK) (fun _ _ _ _=>(cI (aD 0) aH)))))
abbrev pC:Stmt:=top 15
theorem a2y:FnScope ["thing"] ["thing"] (aC pC):=fS
theorem a4E (D:Def K mg "is_whole" pC) (B:Blt mg) (XF:ExG bK K)  : aZ P w K mg base "is_whole" 1 ["thing"] eN:=by
 refine cK 1 1 D a2y rfl rfl (fun _ _ _ _ _ _ us hl=>by obtain ⟨_,rfl⟩:=rC hl;rfl) (fun fa cdv A outer s H E hr=>?_)
 exact (aT (bB (a1R (lS B.b_isinstance B.b_int boot_int (aD 0)) (a4y (b5s (lS B.b_isinstance B.b_bool boot_bool (aD 0)))))))
abbrev nJ:Stmt:=top 18
theorem a1k:FnScope ["begin", "end"] ["begin", "end"] (aC nJ):=fS
theorem a3w (D:Def K mg "are_times" nJ) (B:Blt mg) (XF:ExG bK K) (C_is_whole:aZ P w K mg base "is_whole" 1 ["thing"] eN):aZ P w K mg base "are_times" 2 ["begin", "end"] eS:=by
 refine cK 2 2 D a1k rfl rfl (fun _ _ _ _ _ _ us hl=>by obtain ⟨_,_,rfl⟩:=tO hl;rfl) (fun fa cdv A outer s H E hr=>?_)
 exact (aT (bB (a1R (bQ C_is_whole (hM hr) (aA (aD 0) aE)) (a1R (bQ C_is_whole (hM hr) (aA (aD 1) aE)) (a4y (b2g a0A b2R a0A aH (aD 0) (aD 1) (nV rfl (B.k_LAST_END))))))))
abbrev mK:Stmt:=top 19
theorem yL:FnScope ["thing"] ["thing"] (aC mK):=fS
theorem a2d (D:Def K mg "is_meeting" mK) (B:Blt mg) (XF:ExG bK K) (C_is_name:aZ P w K mg base "is_name" 1 ["thing"] aY) (C_are_times:aZ P w K mg base "are_times" 2 ["begin", "end"] eS):aZ P w K mg base "is_meeting" 3 ["thing"] gX:=by
 refine cK 1 1 D yL rfl rfl (fun _ _ _ _ _ _ us hl=>by obtain ⟨_,rfl⟩:=rC hl;rfl) (fun fa cdv A outer s H E hr=>?_)
 exact (bN (eP (DW.dt (a0I (iI (iH (lS B.b_isinstance B.b_tuple boot_tuple (aD 0)))) (tX (dC (oU hr.units) (dX pH B.b_len boot_len (aA (aD 0) aE)) aH)))) (aT (bB fF)) dE) (aT (bB (a1R (bQ C_is_name (hM hr) (aA (cI (aD 0) aH) aE)) (a4y (bQ C_are_times (hM hr) (aA (cI (aD 0) aH) (aA (cI (aD 0) aH) aE))))))))
abbrev mJ:Stmt:=top 20
theorem a2z:FnScope ["thing"] ["thing"] (aC mJ):=fS
theorem a4F (D:Def K mg "is_sheet" mJ) (B:Blt mg) (XF:ExG bK K) (C_is_meeting:aZ P w K mg base "is_meeting" 3 ["thing"] gX) (C_names_of:aZ P w K mg base "names_of" 1 ["sheet"] cO) (C_is_rising:aZ P w K mg base "is_rising" 1 ["row"] iY):aZ P w K mg base "is_sheet" 4 ["thing"] bV:=by
 refine cK 1 1 D a2z rfl rfl (fun _ _ _ _ _ _ us hl=>by obtain ⟨_,rfl⟩:=rC hl;rfl) (fun fa cdv A outer s H E hr=>?_)
 have nd1:(["part"]:List Str).Nodup:=by decide +kernel
 exact (bN (eP (DW.dt (a0I (iI (iH (lS B.b_isinstance B.b_tuple boot_tuple (aD 0)))) (tX (dC b2U (dX pH B.b_len boot_len (aA (aD 0) aE)) (nV rfl (B.k_MOST_MEETINGS)))))) (aT (bB fF)) dE) (bN (eP (iI (iH (dX (b0m rfl) B.b_all boot_all (aA (iV (N':=["part"]) (cap:=[none]) rfl (cM (so:=aC mJ) (NN:=["thing"]) rfl rfl (by decide +kernel)) (nU (aD 0)) rfl (fun _ _ _ _=>fY 0 nd1) (fun _ _ _ _=>rK) (fun _ _ _ _=>(bQ C_is_meeting (hM hr) (aA (aD 0) aE)))) aE)))) (aT (bB fF)) dE) (aT (bB (bQ C_is_rising (hM hr) (aA (bQ C_names_of (hM hr) (aA (aD 0) aE)) aE))))))
abbrev a1m:Stmt:=iW (top 34) 3
noncomputable abbrev b1o:List Str:=["self", "name", "sheet", "had"]
theorem a2x:FnScope b1o ["self", "name", "sheet"] (aC a1m):=fS
theorem b2x (D:MDef K "lay" a1m) (B:Blt mg) (BC:BCls K) (XF:ExG bK K) (C_is_name:aZ P w K mg base "is_name" 1 ["thing"] aY) (C_is_sheet:aZ P w K mg base "is_sheet" 4 ["thing"] bV) (C_m_carry_out:MethX P w K mg base "carry_out" 2 ["self", "word", "name", "sheet"] (spO K aQ)):MethX P w K mg base "lay" 5 ["self", "name", "sheet"] (spO K gA):=by
 obtain ⟨fa,fd,Fu,hm⟩:=D.ex
 refine ⟨fa,fd,hm,Fu.binds (fun _ _ _ _ _ _ us hl=>by obtain ⟨_,_,_,rfl⟩:=a2X hl;rfl),fX 4 2 Fu a2x rfl rfl (fun cdv A outer s H E hr=>?_)⟩
 exact (aN (eO (eP (DW.dt (a0I (iI (iH (bQ C_is_name (hM hr) (aA (aD 1) aE)))) (tX (iI (iH (bQ C_is_sheet (hM hr) (aA (aD 2) aE))))))) (aT (dD XF.l rfl)) dE)) (aN (eO (mT 3 a2x.nd (b5u 0 BC hr.units (aD 1)))) (aN (gO (bH 0 BC C_m_carry_out (hM hr) (aA aK (aA (aD 1) (aA (aD 2) aE))))) (eG (eO (bB (aD 3)))))))
abbrev dJ:Stmt:=top 23
theorem mF:FnScope ["begin", "end"] ["begin", "end"] (aC dJ):=fS
theorem nB (D:Def K mg "refuse_wrong_times" dJ) (B:Blt mg) (XF:ExG bK K) (C_are_times:aZ P w K mg base "are_times" 2 ["begin", "end"] eS):CalleeX P w K mg base "refuse_wrong_times" 3 ["begin", "end"] cA:=by
 refine dF 2 2 D mF rfl rfl (fun _ _ _ _ _ _ us hl=>by obtain ⟨_,_,rfl⟩:=tO hl;rfl) (fun fa cdv A outer s H E hr=>?_)
 exact (aT (eP (iI (iH (bQ C_are_times (hM hr) (aA (aD 0) (aA (aD 1) aE))))) (aT (dD XF.l rfl)) dE))
abbrev lE:Stmt:=top 31
noncomputable abbrev yO:List Str:=["name", "begin", "end"]
theorem wD:FnScope yO ["name", "begin", "end"] (aC lE):=fS
theorem a0a (D:Def K mg "meeting_at" lE) (B:Blt mg) (XF:ExG bK K) (C_refuse_wrong_timesX:CalleeX P w K mg base "refuse_wrong_times" 3 ["begin", "end"] cA):CalleeX P w K mg base "meeting_at" 4 ["name", "begin", "end"] lM:=by
 refine dF 3 3 D wD rfl rfl (fun _ _ _ _ _ _ us hl=>by obtain ⟨_,_,_,rfl⟩:=a2X hl;rfl) (fun fa cdv A outer s H E hr=>?_)
 exact (bN (a5G (eJ C_refuse_wrong_timesX (hM hr) (aA (aD 1) (aA (aD 2) aE)))) (aT (bB (bC (aA (aD 0) (aA (aD 1) (aA (aD 2) aE)))))))
abbrev wJ:Stmt:=top 26
theorem a6q:FnScope ["moment", "by"] ["moment", "by"] (aC wJ):=fS
theorem b0d (D:Def K mg "later" wJ) (B:Blt mg) (XF:ExG bK K) (C_is_whole:aZ P w K mg base "is_whole" 1 ["thing"] eN):CalleeX P w K mg base "later" 2 ["moment", "by"] sC:=by
 refine dF 2 2 D a6q rfl rfl (fun _ _ _ _ _ _ us hl=>by obtain ⟨_,_,rfl⟩:=tO hl;rfl) (fun fa cdv A outer s H E hr=>?_)
 exact (bN (eP (iI (iH (bQ C_is_whole (hM hr) (aA (aD 1) aE)))) (aT (dD XF.l rfl)) dE) (aT (bB (bO fI (aD 0) (aD 1)))))
abbrev mG:Stmt:=top 32
theorem a2v:FnScope ["sheet", "by"] ["sheet", "by"] (aC mG):=fS
theorem a4C (D:Def K mg "shifted" mG) (B:Blt mg) (XF:ExG bK K) (C_laterX:CalleeX P w K mg base "later" 2 ["moment", "by"] sC) (C_meeting_atX:CalleeX P w K mg base "meeting_at" 4 ["name", "begin", "end"] lM):CalleeX P w K mg base "shifted" 5 ["sheet", "by"] iN:=by
 refine dF 2 2 D a2v rfl rfl (fun _ _ _ _ _ _ us hl=>by obtain ⟨_,_,rfl⟩:=tO hl;rfl) (fun fa cdv A outer s H E hr=>?_)
 have nd1:(["name", "begin", "end", "by"]:List Str).Nodup:=by decide +kernel
 exact (aT (bB (lT sK B.b_tuple boot_tuple (aA (a9U (N':=["name", "begin", "end", "by"]) (cap:=[none,none,none,some 1]) rfl rfl rfl (cM (so:=aC mG) (NN:=["sheet", "by"]) rfl rfl (by decide +kernel)) (nU (aD 0)) rfl (fun _ _ _ _=>(a9R rfl (lR 0 nd1 (lR 1 nd1 (lR 2 nd1 a1Q))))) (fun _ _ _ _=>rK) (fun _ _ _ _ _=>(eJ C_meeting_atX (hM hr) (aA (aD 0) (aA (eJ C_laterX (hM hr) (aA (aD 1) (aA (aD 3) aE))) (aA (eJ C_laterX (hM hr) (aA (aD 2) (aA (aD 3) aE))) aE)))))) aE))))
abbrev mI:Stmt:=iW (top 34) 4
theorem yK:FnScope ["self", "name"] ["self", "name"] (aC mI):=fS
theorem a2c (D:MDef K "sheet_of" mI) (B:Blt mg) (BC:BCls K) (XF:ExG bK K) (C_is_name:aZ P w K mg base "is_name" 1 ["thing"] aY):MethX P w K mg base "sheet_of" 2 ["self", "name"] (spR K aF):=by
 obtain ⟨fa,fd,Fu,hm⟩:=D.ex
 refine ⟨fa,fd,hm,Fu.binds (fun _ _ _ _ _ _ us hl=>by obtain ⟨_,_,rfl⟩:=tO hl;rfl),a1L 2 1 Fu yK rfl rfl (fun cdv A outer s H E hr=>?_)⟩
 exact (bN (eP (DW.dt (a0I (iI (iH (bQ C_is_name (hM hr) (aA (aD 1) aE)))) (tX (b1Z 0 BC hr.units (aD 1))))) (aT (dD XF.l rfl)) dE) (aT (bB (b5t 0 BC (aD 1)))))
abbrev sU:Stmt:=iW (top 34) 8
noncomputable abbrev a6D:List Str:=["self", "name", "by"]
theorem a3P:FnScope a6D ["self", "name", "by"] (aC sU):=fS
theorem a7j (D:MDef K "shift" sU) (B:Blt mg) (BC:BCls K) (XF:ExG bK K) (C_m_carry_out:MethX P w K mg base "carry_out" 2 ["self", "word", "name", "sheet"] (spO K aQ)) (C_m_sheet_of:MethX P w K mg base "sheet_of" 2 ["self", "name"] (spR K aF)) (C_shiftedX:CalleeX P w K mg base "shifted" 5 ["sheet", "by"] iN):MethX P w K mg base "shift" 6 ["self", "name", "by"] (spO K eR):=by
 obtain ⟨fa,fd,Fu,hm⟩:=D.ex
 refine ⟨fa,fd,hm,Fu.binds (fun _ _ _ _ _ _ us hl=>by obtain ⟨_,_,_,rfl⟩:=a2X hl;rfl),fX 3 2 Fu a3P rfl rfl (fun cdv A outer s H E hr=>?_)⟩
 exact (eG (wS (bH 0 BC C_m_carry_out (hM hr) (aA aK (aA (aD 1) (aA (eJ C_shiftedX (hM hr) (aA (iJ 0 BC C_m_sheet_of (hM hr) (aA (aD 1) aE)) (aA (aD 2) aE))) aE))))))
abbrev wI:Stmt:=iW (top 34) 11
theorem a0j:FnScope ["self", "step"] ["self"] (aC wI):=fS
theorem b0c (D:MDef K "back" wI) (B:Blt mg) (BC:BCls K) (XF:ExG bK K) (C_m_put:MethX P w K mg base "put" 1 ["self", "name", "sheet"] (spO K gW)):MethX P w K mg base "back" 2 ["self"] (spO K oB):=by
 obtain ⟨fa,fd,Fu,hm⟩:=D.ex
 refine ⟨fa,fd,hm,Fu.binds (fun _ _ _ _ _ _ us hl=>by obtain ⟨_,rfl⟩:=rC hl;rfl),fX 2 0 Fu a0j rfl rfl (fun cdv A outer s H E hr=>?_)⟩
 exact (aN (eO (eP (a9K false 0 BC) (aT (dD XF.l rfl)) dE)) (aN (a2K false 0 1 BC a0j.nd) (aN (a1w true 0 BC (aD 1)) (aN (gO (bH 0 BC C_m_put (hM hr) (aA (cI (aD 1) aH) (aA (cI (aD 1) aH) aE)))) (eG (eO (bB (cI (aD 1) aH))))))))
abbrev tE:Stmt:=top 38
noncomputable abbrev a6F:List Str:=["_law_kept", "_law_kinds", "_law_some"]
theorem hZ:FnScope a6F ["_law_kept"] (aC tE):=fS
theorem a7o (D:Def K mg "_law_class" tE) (B:Blt mg) (XF:ExG bK K)  : ClsOk P w K mg base "_law_class" 1 aS:=by
 refine b2r 3 D hZ rfl (fun _ _ _ _ _ _ us hl=>by obtain ⟨_,rfl⟩:=rC hl;rfl) (fun fa cdv A outer s H hr=>?_)
 exact (bN (a9M 1 hZ.nd (aA (iU 0 XF B.b_isinstance) (aA (iU 0 XF B.b_isinstance) (aA (iU 0 XF B.b_isinstance) aE)))) (bN (a5F 1 (cW (aA (iU 0 XF B.b_isinstance) aE))) (a4A 1 (bN (a0J 1 hZ.nd (aD 1) (cW (aA (iU 0 XF B.b_isinstance) (aA (iU 0 XF B.b_isinstance) (aA (iU 0 XF B.b_isinstance) aE))))) (a4A 1 (bN (a0J 1 hZ.nd (aD 1) (cW (aA (iU 0 XF B.b_isinstance) aE))) (bN (eP (a9J (DW.dt (a0I (dC (oU hr.units) (a9T (aD 1) fF) aH) (tX (iI (iH (b2e 0 XF B.b_isinstance B.b_ValueError))))))) (aT (bB aK)) dE) (bN (mT 2 hZ.nd (cW (aA aK (aA aK (aA aK (aA aK (aA aK (aA aK (aA aK (aA aK aE)))))))))) (a4A 1 (aT (bB (cI (aD 2) (a7d (aD 1) fF)))))))))))))
abbrev wK:Stmt:=top 39
theorem a6r:FnScope ["_law_deed", "e"] ["_law_deed"] (aC wK):=fS
theorem b0e (D:Def K mg "_law_told" wK) (B:Blt mg) (XF:ExG bK K) (C_l_class:ClsOk P w K mg base "_law_class" 1 aS):ToldOkR P w K mg base "_law_told" bK aS:=by
 obtain ⟨S,h1,h2,h3⟩:=XF.l.she
 exact a6a D a6r h1 h2 h3 C_l_class rfl (fun _ _ _ _ _ _ us hl=>by obtain ⟨_,rfl⟩:=rC hl;rfl) rfl rfl rfl rfl (by decide) (by decide) (by decide) (by decide) (by decide)
abbrev sW:Stmt:=iW (top 34) 10
theorem a3Q:FnScope ["self"] ["self"] (aC sW):=fS
theorem a7k (D:MDef K "names" sW) (B:Blt mg) (BC:BCls K) (XF:ExG bK K)  : MethX P w K mg base "names" 1 ["self"] (spR K lY):=by
 obtain ⟨fa,fd,Fu,hm⟩:=D.ex
 refine ⟨fa,fd,hm,Fu.binds (fun _ _ _ _ _ _ us hl=>by obtain ⟨_,rfl⟩:=rC hl;rfl),a1L 1 0 Fu a3Q rfl rfl (fun cdv A outer s H E hr=>?_)⟩
 exact (aT (bB (b2c 0 rfl BC B.b_sorted)))
abbrev sY:Stmt:=iW (top 34) 13
theorem a3S:FnScope ["self"] ["self"] (aC sY):=fS
theorem a7m (D:MDef K "marks" sY) (B:Blt mg) (BC:BCls K) (XF:ExG bK K)  : MethX P w K mg base "marks" 1 ["self"] (spR K lZ):=by
 obtain ⟨fa,fd,Fu,hm⟩:=D.ex
 refine ⟨fa,fd,hm,Fu.binds (fun _ _ _ _ _ _ us hl=>by obtain ⟨_,rfl⟩:=rC hl;rfl),a1L 1 0 Fu a3S rfl rfl (fun cdv A outer s H E hr=>?_)⟩
 exact (aT (bB (bC (aA (a5M false 0 BC B.b_len) (aA (a5M true 0 BC B.b_len) aE)))))
abbrev sZ:Stmt:=iW (top 34) 12
theorem wE:FnScope ["self", "step"] ["self"] (aC sZ):=fS
theorem a7n (D:MDef K "forth" sZ) (B:Blt mg) (BC:BCls K) (XF:ExG bK K) (C_m_put:MethX P w K mg base "put" 1 ["self", "name", "sheet"] (spO K gW)):MethX P w K mg base "forth" 2 ["self"] (spO K mB):=by
 obtain ⟨fa,fd,Fu,hm⟩:=D.ex
 refine ⟨fa,fd,hm,Fu.binds (fun _ _ _ _ _ _ us hl=>by obtain ⟨_,rfl⟩:=rC hl;rfl),fX 2 0 Fu wE rfl rfl (fun cdv A outer s H E hr=>?_)⟩
 exact (aN (eO (eP (a9K true 0 BC) (aT (dD XF.l rfl)) dE)) (aN (a2K true 0 1 BC wE.nd) (aN (a1w false 0 BC (aD 1)) (aN (gO (bH 0 BC C_m_put (hM hr) (aA (cI (aD 1) aH) (aA (cI (aD 1) aH) aE)))) (eG (eO (bB (cI (aD 1) aH))))))))
abbrev lD:Stmt:=top 22
noncomputable abbrev yN:List Str:=["sheet", "name", "meeting"]
theorem nF:FnScope yN ["sheet", "name"] (aC lD):=fS
theorem yZ (D:Def K mg "meeting_of" lD) (B:Blt mg) (XF:ExG bK K)  : CalleeX P w K mg base "meeting_of" 1 ["sheet", "name"] lL:=by
 refine dF 3 2 D nF rfl rfl (fun _ _ _ _ _ _ us hl=>by obtain ⟨_,_,rfl⟩:=tO hl;rfl) (fun fa cdv A outer s H E hr=>?_)
 exact (bN (b5n (b5o PassesOwn.never rfl (nU (aD 0)) (fY 2 nF.nd) (aT (eP (dC (a3g hr.units) (cI (aD 2) aH) (aD 1)) (aT (bB (aD 2))) dE)))) (aT (dD XF.l rfl)))
abbrev dH:Stmt:=top 25
noncomputable abbrev iD:List Str:=["sheet", "name", "gone"]
theorem gI:FnScope iD ["sheet", "name"] (aC dH):=fS
theorem pO (D:Def K mg "without_meeting" dH) (B:Blt mg) (XF:ExG bK K) (C_meeting_ofX:CalleeX P w K mg base "meeting_of" 1 ["sheet", "name"] lL):CalleeX P w K mg base "without_meeting" 2 ["sheet", "name"] cN:=by
 refine dF 3 2 D gI rfl rfl (fun _ _ _ _ _ _ us hl=>by obtain ⟨_,_,rfl⟩:=tO hl;rfl) (fun fa cdv A outer s H E hr=>?_)
 have nd1:(["meeting", "gone"]:List Str).Nodup:=by decide +kernel
 exact (bN (mT 2 gI.nd (eJ C_meeting_ofX (hM hr) (aA (aD 0) (aA (aD 1) aE)))) (aT (bB (lT sK B.b_tuple boot_tuple (aA (iV (N':=["meeting", "gone"]) (cap:=[none,some 2]) rfl (cM (so:=aC dH) (NN:=iD) rfl rfl (by decide +kernel)) (nU (aD 0)) rfl (fun _ _ _ _=>fY 0 nd1) (fun _ _ _ _=>(vN (dC (oU hr.units) (cI (aD 0) aH) (cI (aD 1) aH)))) (fun _ _ _ _=>aD 0)) aE)))))
abbrev wH:Stmt:=iW (top 34) 7
noncomputable abbrev a8S:List Str:=["self", "name", "label"]
theorem a6p:FnScope a8S ["self", "name", "label"] (aC wH):=fS
theorem b0b (D:MDef K "drop" wH) (B:Blt mg) (BC:BCls K) (XF:ExG bK K) (C_m_carry_out:MethX P w K mg base "carry_out" 2 ["self", "word", "name", "sheet"] (spO K aQ)) (C_m_sheet_of:MethX P w K mg base "sheet_of" 2 ["self", "name"] (spR K aF)) (C_without_meetingX:CalleeX P w K mg base "without_meeting" 2 ["sheet", "name"] cN):MethX P w K mg base "drop" 3 ["self", "name", "label"] (spO K eL):=by
 obtain ⟨fa,fd,Fu,hm⟩:=D.ex
 refine ⟨fa,fd,hm,Fu.binds (fun _ _ _ _ _ _ us hl=>by obtain ⟨_,_,_,rfl⟩:=a2X hl;rfl),fX 3 2 Fu a6p rfl rfl (fun cdv A outer s H E hr=>?_)⟩
 exact (eG (wS (bH 0 BC C_m_carry_out (hM hr) (aA aK (aA (aD 1) (aA (eJ C_without_meetingX (hM hr) (aA (iJ 0 BC C_m_sheet_of (hM hr) (aA (aD 1) aE)) (aA (aD 2) aE))) aE))))))
abbrev gE:Stmt:=top 24
noncomputable abbrev uY:List Str:=["sheet", "name", "begin", "end"]
theorem sS:FnScope uY ["sheet", "name", "begin", "end"] (aC gE):=fS
theorem vI (D:Def K mg "with_meeting" gE) (B:Blt mg) (XF:ExG bK K) (C_names_of:aZ P w K mg base "names_of" 1 ["sheet"] cO) (C_refuse_wrong_timesX:CalleeX P w K mg base "refuse_wrong_times" 3 ["begin", "end"] cA):CalleeX P w K mg base "with_meeting" 4 ["sheet", "name", "begin", "end"] cE:=by
 refine dF 4 4 D sS rfl rfl (fun _ _ _ _ _ _ us hl=>by obtain ⟨_,_,_,_,rfl⟩:=b4F hl;rfl) (fun fa cdv A outer s H E hr=>?_)
 exact (bN (eP (dC (a9i hr.units1) (aD 1) (bQ C_names_of (hM hr) (aA (aD 0) aE))) (aT (dD XF.l rfl)) dE) (bN (a5G (eJ C_refuse_wrong_timesX (hM hr) (aA (aD 2) (aA (aD 3) aE)))) (bN (eP (dC b6Z (dX pH B.b_len boot_len (aA (aD 0) aE)) (nV rfl (B.k_MOST_MEETINGS))) (aT (dD XF.l rfl)) dE) (aT (bB (lT sK B.b_tuple boot_tuple (aA (dX a4O B.b_sorted boot_sorted (aA (bO fI (aD 0) (bC (aA (bC (aA (aD 1) (aA (aD 2) (aA (aD 3) aE)))) aE))) aE)) aE)))))))
abbrev a1n:Stmt:=iW (top 34) 6
noncomputable abbrev b1p:List Str:=["self", "name", "label", "begin", "end"]
theorem a7V:FnScope b1p ["self", "name", "label", "begin", "end"] (aC a1n):=fS
theorem b2y (D:MDef K "add" a1n) (B:Blt mg) (BC:BCls K) (XF:ExG bK K) (C_m_carry_out:MethX P w K mg base "carry_out" 2 ["self", "word", "name", "sheet"] (spO K aQ)) (C_m_sheet_of:MethX P w K mg base "sheet_of" 2 ["self", "name"] (spR K aF)) (C_with_meetingX:CalleeX P w K mg base "with_meeting" 4 ["sheet", "name", "begin", "end"] cE):MethX P w K mg base "add" 5 ["self", "name", "label", "begin", "end"] (spO K fJ):=by
 obtain ⟨fa,fd,Fu,hm⟩:=D.ex
 refine ⟨fa,fd,hm,Fu.binds (fun _ _ _ _ _ _ us hl=>by obtain ⟨_,_,_,_,_,rfl⟩:=b8i hl;rfl),fX 5 4 Fu a7V rfl rfl (fun cdv A outer s H E hr=>?_)⟩
 exact (eG (wS (bH 0 BC C_m_carry_out (hM hr) (aA aK (aA (aD 1) (aA (eJ C_with_meetingX (hM hr) (aA (iJ 0 BC C_m_sheet_of (hM hr) (aA (aD 1) aE)) (aA (aD 2) (aA (aD 3) (aA (aD 4) aE))))) aE))))))
abbrev wM:Stmt:=top 36
noncomputable abbrev a8U:List Str:=["_law_script", "_law_k"]
theorem a6s:FnScope a8U ["_law_script", "_law_k"] (aC wM):=fS
theorem b0g (D:Def K mg "_law_cell" wM) (B:Blt mg) (XF:ExG bK K)  : aZ P w K mg base "_law_cell" 1 ["_law_script", "_law_k"] sF:=by
 refine cK 2 2 D a6s rfl rfl (fun _ _ _ _ _ _ us hl=>by obtain ⟨_,_,rfl⟩:=tO hl;rfl) (fun fa cdv A outer s H E hr=>?_)
 exact (bN (eP (dC b2R (aD 1) (dX pH B.b_len boot_len (aA (aD 0) aE))) (aT (bB (cI (aD 0) (aD 1)))) dE) (bN (eP (dC (a3g hr.units) (aD 0) (cW aE)) (aT (bB aH)) dE) (aT (bB (bO fI (bO tK (cI (aD 0) (bO gG (aD 1) (dX pH B.b_len boot_len (aA (aD 0) aE)))) aH) (aD 1))))))
abbrev wL:Stmt:=top 37
noncomputable abbrev a8T:List Str:=["_law_script", "_law_k", "_law_many", "_law_drawn"]
theorem a0k:FnScope a8T ["_law_script", "_law_k", "_law_many"] (aC wL):=fS
theorem b0f (D:Def K mg "_law_pick" wL) (B:Blt mg) (XF:ExG bK K) (C_l_cell:aZ P w K mg base "_law_cell" 1 ["_law_script", "_law_k"] sF):aZ P w K mg base "_law_pick" 2 ["_law_script", "_law_k", "_law_many"] dY:=by
 refine cK 4 3 D a0k rfl rfl (fun _ _ _ _ _ _ us hl=>by obtain ⟨_,_,_,rfl⟩:=a2X hl;rfl) (fun fa cdv A outer s H E hr=>?_)
 exact (bN (mT 3 a0k.nd (bO gG (bO tK (bO fI (bQ C_l_cell (hM hr) (aA (aD 0) (aA (aD 1) aE))) (bO tK aH (bO fI (aD 1) aH))) aH) aH)) (aT (bB (bO gG (bO gG (bO fI (bO tK (aD 3) (aD 3)) (bO b5g (aD 3) aH)) aH) (aD 2)))))
abbrev wG:Stmt:=iW (top 34) 5
noncomputable abbrev a8R:List Str:=["self", "name", "sheet"]
theorem a0i:FnScope a8R ["self", "name"] (aC wG):=fS
theorem b0a (D:MDef K "take" wG) (B:Blt mg) (BC:BCls K) (XF:ExG bK K) (C_m_sheet_of:MethX P w K mg base "sheet_of" 2 ["self", "name"] (spR K aF)) (C_m_carry_out:MethX P w K mg base "carry_out" 2 ["self", "word", "name", "sheet"] (spO K aQ)):MethX P w K mg base "take" 3 ["self", "name"] (spO K sB):=by
 obtain ⟨fa,fd,Fu,hm⟩:=D.ex
 refine ⟨fa,fd,hm,Fu.binds (fun _ _ _ _ _ _ us hl=>by obtain ⟨_,_,rfl⟩:=tO hl;rfl),fX 3 1 Fu a0i rfl rfl (fun cdv A outer s H E hr=>?_)⟩
 exact (aN (eO (mT 2 a0i.nd (iJ 0 BC C_m_sheet_of (hM hr) (aA (aD 1) aE)))) (aN (gO (bH 0 BC C_m_carry_out (hM hr) (aA aK (aA (aD 1) (aA rO aE))))) (eG (eO (bB (aD 2))))))
abbrev fV:Stmt:=top 28
theorem wB:FnScope ["one", "other"] ["one", "other"] (aC fV):=fS
theorem yY (D:Def K mg "names_alone" fV) (B:Blt mg) (XF:ExG bK K) (C_names_of:aZ P w K mg base "names_of" 1 ["sheet"] cO):aZ P w K mg base "names_alone" 2 ["one", "other"] fZ:=by
 refine cK 2 2 D wB rfl rfl (fun _ _ _ _ _ _ us hl=>by obtain ⟨_,_,rfl⟩:=tO hl;rfl) (fun fa cdv A outer s H E hr=>?_)
 have nd1:(["name", "other"]:List Str).Nodup:=by decide +kernel
 exact (aT (bB (iV (N':=["name", "other"]) (cap:=[none,some 1]) rfl (cM (so:=aC fV) (NN:=["one", "other"]) rfl rfl (by decide +kernel)) (nU (bQ C_names_of (hM hr) (aA (aD 0) aE))) rfl (fun _ _ _ _=>fY 0 nd1) (fun _ _ _ _=>(vN (dC (a1z hr.units1) (aD 0) (bQ C_names_of (hM hr) (aA (aD 1) aE))))) (fun _ _ _ _=>aD 0))))
abbrev fB:Stmt:=top 29
noncomputable abbrev nN:List Str:=["one", "other", "unlike"]
theorem mV:FnScope nN ["one", "other"] (aC fB):=fS
theorem xZ (D:Def K mg "unlike_names" fB) (B:Blt mg) (XF:ExG bK K) (C_names_of:aZ P w K mg base "names_of" 1 ["sheet"] cO) (C_names_alone:aZ P w K mg base "names_alone" 2 ["one", "other"] fZ):aZ P w K mg base "unlike_names" 3 ["one", "other"] iM:=by
 refine cK 3 2 D mV rfl rfl (fun _ _ _ _ _ _ us hl=>by obtain ⟨_,_,rfl⟩:=tO hl;rfl) (fun fa cdv A outer s H E hr=>?_)
 have nd1:(["meeting", "other"]:List Str).Nodup:=by decide +kernel
 exact (bN (b2a 2 mV.nd (N':=["meeting", "other"]) (cap:=[none,some 1]) rfl (cM (so:=aC fB) (NN:=nN) rfl rfl (by decide +kernel)) (nU (aD 0)) rfl (fun _ _ _ _=>fY 0 nd1) (fun _ _ _ _=>(vN (DW.dt (b5k (dC (a1z hr.units1) (aD 0) (aD 1)) (b1Y (dC (a9i hr.units1) (cI (aD 0) aH) (bQ C_names_of (hM hr) (aA (aD 1) aE)))))))) (fun _ _ _ _=>(cI (aD 0) aH))) (aT (bB (bC (aA (bQ C_names_alone (hM hr) (aA (aD 0) (aA (aD 1) aE))) (aA (bQ C_names_alone (hM hr) (aA (aD 1) (aA (aD 0) aE))) (aA (aD 2) aE)))))))
abbrev oC:Stmt:=top 30
noncomputable abbrev a0s:List Str:=["one", "other", "together"]
theorem wC:FnScope a0s ["one", "other"] (aC oC):=fS
theorem a7i (D:Def K mg "merged" oC) (B:Blt mg) (XF:ExG bK K) (C_unlike_names:aZ P w K mg base "unlike_names" 3 ["one", "other"] iM):CalleeX P w K mg base "merged" 4 ["one", "other"] lX:=by
 refine dF 3 2 D wC rfl rfl (fun _ _ _ _ _ _ us hl=>by obtain ⟨_,_,rfl⟩:=tO hl;rfl) (fun fa cdv A outer s H E hr=>?_)
 have nd1:(["meeting", "one"]:List Str).Nodup:=by decide +kernel
 exact (bN (eP (iH (cI (bQ C_unlike_names (hM hr) (aA (aD 0) (aA (aD 1) aE))) aH)) (aT (dD XF.l rfl)) dE) (bN (mT 2 wC.nd (bO fI (aD 0) (lT sK B.b_tuple boot_tuple (aA (iV (N':=["meeting", "one"]) (cap:=[none,some 0]) rfl (cM (so:=aC oC) (NN:=a0s) rfl rfl (by decide +kernel)) (nU (aD 1)) rfl (fun _ _ _ _=>fY 0 nd1) (fun _ _ _ _=>(vN (dC (a1z hr.units1) (aD 0) (aD 1)))) (fun _ _ _ _=>aD 0)) aE)))) (bN (eP (dC b2U (dX pH B.b_len boot_len (aA (aD 2) aE)) (nV rfl (B.k_MOST_MEETINGS))) (aT (dD XF.l rfl)) dE) (aT (bB (lT sK B.b_tuple boot_tuple (aA (dX a4O B.b_sorted boot_sorted (aA (aD 2) aE)) aE)))))))
abbrev sX:Stmt:=iW (top 34) 9
noncomputable abbrev a6E:List Str:=["self", "name", "other"]
theorem a3R:FnScope a6E ["self", "name", "other"] (aC sX):=fS
theorem a7l (D:MDef K "merge" sX) (B:Blt mg) (BC:BCls K) (XF:ExG bK K) (C_m_carry_out:MethX P w K mg base "carry_out" 2 ["self", "word", "name", "sheet"] (spO K aQ)) (C_m_sheet_of:MethX P w K mg base "sheet_of" 2 ["self", "name"] (spR K aF)) (C_mergedX:CalleeX P w K mg base "merged" 4 ["one", "other"] lX):MethX P w K mg base "merge" 5 ["self", "name", "other"] (spO K eB):=by
 obtain ⟨fa,fd,Fu,hm⟩:=D.ex
 refine ⟨fa,fd,hm,Fu.binds (fun _ _ _ _ _ _ us hl=>by obtain ⟨_,_,_,rfl⟩:=a2X hl;rfl),fX 3 2 Fu a3R rfl rfl (fun cdv A outer s H E hr=>?_)⟩
 exact (eG (wS (bH 0 BC C_m_carry_out (hM hr) (aA aK (aA (aD 1) (aA (eJ C_mergedX (hM hr) (aA (iJ 0 BC C_m_sheet_of (hM hr) (aA (aD 1) aE)) (aA (iJ 0 BC C_m_sheet_of (hM hr) (aA (aD 2) aE)) aE))) aE))))))
abbrev dO:Stmt:=top 40
noncomputable abbrev gJ:List Str:=["_law_script", "_law_odd", "_law_binder", "_law_full", "_law_k", "_law_thing", "_law_name", "_law_gone", "_law_begin", "_law_end", "_law_told_here"]
theorem gD:FnScope gJ ["_law_script"] (aC dO):=fS
theorem b7g {fa c T:Addr} {fd:FuncData} (Fu:Fun K "law" "law" dO fa fd) (B:Blt mg) (kb:K.In base) (nb:base.Ns mainGlobals mg) (M:BM mg base) (hmg:mg "law" = some (.ref fa)) (ht:jc K "law" = some (c,T)) (hC:kX K c T=true) (BC:BCls K) (C_mk:BMk P w K mg base 1) (XF:ExG bK K) (C_m_lay:MethX P w K mg base "lay" 5 ["self", "name", "sheet"] (spO K gA)) (C_m_shift:MethX P w K mg base "shift" 6 ["self", "name", "by"] (spO K eR)) (C_m_back:MethX P w K mg base "back" 2 ["self"] (spO K oB)) (C_l_pick:aZ P w K mg base "_law_pick" 2 ["_law_script", "_law_k", "_law_many"] dY) (C_l_told:ToldOkR P w K mg base "_law_told" bK aS) (C_m_take:MethX P w K mg base "take" 3 ["self", "name"] (spO K sB)) (C_m_add:MethX P w K mg base "add" 5 ["self", "name", "label", "begin", "end"] (spO K fJ)) (C_m_drop:MethX P w K mg base "drop" 3 ["self", "name", "label"] (spO K eL)) (C_m_merge:MethX P w K mg base "merge" 5 ["self", "name", "other"] (spO K eB)) (C_m_names:MethX P w K mg base "names" 1 ["self"] (spR K lY)) (C_m_marks:MethX P w K mg base "marks" 1 ["self"] (spR K lZ)) (C_m_forth:MethX P w K mg base "forth" 2 ["self"] (spO K mB)) (C_m_sheet_of:MethX P w K mg base "sheet_of" 2 ["self", "name"] (spR K aF)):FnOk P w K mg base CX0 10 fa fd ["_law_script"] (spD K fun ds d=>F_law ds=some (.ok d)):=by
 refine a9A 11 1 Fu gD rfl rfl kb nb hmg ht (fun A outer s H E hr=>?_)
 have nd1:(["_law_k"]:List Str).Nodup:=by decide +kernel
 have nd2:(["_law_binder", "_law_thing"]:List Str).Nodup:=by decide +kernel
 have nd3:(["_law_binder", "_law_name"]:List Str).Nodup:=by decide +kernel
 have nd4:(["_law_binder", "_law_gone", "_law_k", "_law_name"]:List Str).Nodup:=by decide +kernel
 have nd5:(["_law_begin", "_law_binder", "_law_end", "_law_gone", "_law_k", "_law_name"]:List Str).Nodup:=by decide +kernel
 have nd6:(["_law_binder", "_law_gone", "_law_k", "_law_name"]:List Str).Nodup:=by decide +kernel
 have nd7:(["_law_binder", "_law_gone", "_law_k", "_law_name"]:List Str).Nodup:=by decide +kernel
 have nd8:(["_law_binder", "_law_gone", "_law_k", "_law_name"]:List Str).Nodup:=by decide +kernel
 have nd9:(["_law_begin", "_law_binder", "_law_end"]:List Str).Nodup:=by decide +kernel
 have nd10:(["_law_begin", "_law_binder", "_law_end"]:List Str).Nodup:=by decide +kernel
 have nd11:(["_law_binder"]:List Str).Nodup:=by decide +kernel
 have nd12:(["_law_binder", "_law_k"]:List Str).Nodup:=by decide +kernel
 have nd13:(["_law_binder", "_law_k"]:List Str).Nodup:=by decide +kernel
 have nd14:(["_law_binder"]:List Str).Nodup:=by decide +kernel
 have nd15:(["_law_binder"]:List Str).Nodup:=by decide +kernel
 exact (aN (eO (a9M 1 gD.nd (aA rO (aA (cW aE) (aA (bC (aA (bC (aA aK (aA aH (aA aH aE)))) aE)) (aA (bC (aA (bC (aA aK (aA aH (aA aH aE)))) aE)) (aA (bC (aA (bC (aA aK (aA aH (aA aH aE)))) (aA (bC (aA aK (aA aH (aA aH aE)))) aE))) (aA (b2d (aA (bC (aA aK (aA aH (aA aH aE)))) aE) aH) aE)))))))) (aN (eO (a5F 1 (cW (aA (bC (aA (bC (aA aK (aA aH (aA aH aE)))) aE)) (aA aH (aA (bC (aA aK (aA aH (aA aH aE)))) aE)))))) (b4o 2 rfl gD.nd C_mk (hM hr) (aA (lT sK B.b_tuple boot_tuple (aA (iV (N':=["_law_k"]) (cap:=[none]) rfl (cM (so:=aC dO) (NN:=gJ) rfl rfl (by decide +kernel)) (a5I B.b_range aH) rfl (fun _ _ _ _=>fY 0 nd1) (fun _ _ _ _=>rK) (fun _ _ _ _=>(bC (aA (cI aK (aD 0)) (aA (aD 0) (aA (bO fI (aD 0) aH) aE)))))) aE)) aE) (lR 3 gD.nd a1Q) (aN (gO (bH 2 BC C_m_lay (hM hr) (aA aK (aA (aD 3) aE)))) (aN (gO (bH 2 BC C_m_lay (hM hr) (aA aK (aA (bC (aA (bC (aA aK (aA aH (aA aH aE)))) (aA (bC (aA aK (aA aH (aA aH aE)))) aE))) aE)))) (aN (gO (bH 2 BC C_m_shift (hM hr) (aA aK (aA aH aE)))) (aN (gO (a2M 2 BC C_m_back (hM hr))) (aN (b3Z PassesOwn.never rfl (a5I B.b_range aH) (fY 4 gD.nd) (b4p 1 (aN (eO (mT 5 gD.nd (cI (aD 1) (bO gG (bO fI (bQ C_l_pick (hM hr) (aA (aD 0) (aA aH (aA aH aE)))) (bO tK aH (aD 4))) aH)))) (aN (eO (mT 6 gD.nd (cI (cW (aA rO (aA aK (aA aK (aA aK (aA aH (aA (cW (aA aK aE)) (aA aK (aA aK aE))))))))) (bO gG (bO fI (bQ C_l_pick (hM hr) (aA (aD 0) (aA aH (aA aH aE)))) (bO tK aH (aD 4))) aH)))) (aN (eO (mT 7 gD.nd (cI (cW (aA aK (aA aK (aA aK (aA aK aE))))) (bO gG (bO fI (bQ C_l_pick (hM hr) (aA (aD 0) (aA aH (aA aH aE)))) (aD 4)) aH)))) (aN (eO (b5m (cI (cW (aA (bC (aA aH (aA aH aE))) (aA (bC (aA (a4z aH) (aA aH aE))) (aA (bC (aA aH (aA aH aE))) (aA (bC (aA rO (aA aH aE))) (aA (bC (aA aH (aA aK aE))) (aA (bC (aA fF (aA aH aE))) aE))))))) (bO gG (bO fI (bQ C_l_pick (hM hr) (aA (aD 0) (aA aH (aA aH aE)))) (aD 4)) aH)) (a9R rfl (lR 8 gD.nd (lR 9 gD.nd a1Q))))) (aN (a8C 10 gD.nd (a5o (dP (q := "law") (k:=5) (N':=["_law_binder", "_law_thing"]) (cap:=[some 2,some 5]) C_l_told (by unfold bL;simp) ht rfl rfl hC M (hM hr) (cM (so:=aC dO) (NN:=gJ) rfl rfl (by decide +kernel)) (by decide +kernel) (fun f c cl A outer s H E hr=>(bH 0 BC C_m_lay (hM hr) (aA aK (aA (aD 1) aE))))) a8J)) (aN (iC 10 (dP (q := "law") (k:=5) (N':=["_law_binder", "_law_name"]) (cap:=[some 2,some 6]) C_l_told (by unfold bL;simp) ht rfl rfl hC M (hM hr) (cM (so:=aC dO) (NN:=gJ) rfl rfl (by decide +kernel)) (by decide +kernel) (fun f c cl A outer s H E hr=>(bH 0 BC C_m_lay (hM hr) (aA (aD 1) (aA (bC aE) aE)))))) (aN (iC 10 (dP (q := "law") (k:=3) (N':=["_law_binder", "_law_gone", "_law_k", "_law_name"]) (cap:=[some 2,some 7,some 4,some 6]) C_l_told (by unfold bL;simp) ht rfl rfl hC M (hM hr) (cM (so:=aC dO) (NN:=gJ) rfl rfl (by decide +kernel)) (by decide +kernel) (fun f c cl A outer s H E hr=>(bH 0 BC C_m_take (hM hr) (aA (cI (cW (aA (aD 3) (aA (aD 1) aE))) (bO gG (aD 2) aH)) aE))))) (aN (iC 10 (dP (q := "law") (k:=5) (N':=["_law_begin", "_law_binder", "_law_end", "_law_gone", "_law_k", "_law_name"]) (cap:=[some 8,some 2,some 9,some 7,some 4,some 6]) C_l_told (by unfold bL;simp) ht rfl rfl hC M (hM hr) (cM (so:=aC dO) (NN:=gJ) rfl rfl (by decide +kernel)) (by decide +kernel) (fun f c cl A outer s H E hr=>(bH 1 BC C_m_add (hM hr) (aA (cI (cW (aA (aD 5) (aA (aD 3) aE))) (bO gG (aD 4) aH)) (aA aK (aA (aD 0) (aA (aD 2) aE)))))))) (aN (iC 10 (dP (q := "law") (k:=3) (N':=["_law_binder", "_law_gone", "_law_k", "_law_name"]) (cap:=[some 2,some 7,some 4,some 6]) C_l_told (by unfold bL;simp) ht rfl rfl hC M (hM hr) (cM (so:=aC dO) (NN:=gJ) rfl rfl (by decide +kernel)) (by decide +kernel) (fun f c cl A outer s H E hr=>(bH 0 BC C_m_drop (hM hr) (aA (cI (cW (aA (aD 1) (aA (aD 3) aE))) (bO gG (aD 2) aH)) (aA aK aE)))))) (aN (iC 10 (dP (q := "law") (k:=6) (N':=["_law_binder", "_law_gone", "_law_k", "_law_name"]) (cap:=[some 2,some 7,some 4,some 6]) C_l_told (by unfold bL;simp) ht rfl rfl hC M (hM hr) (cM (so:=aC dO) (NN:=gJ) rfl rfl (by decide +kernel)) (by decide +kernel) (fun f c cl A outer s H E hr=>(bH 0 BC C_m_shift (hM hr) (aA (cI (cW (aA (aD 3) (aA (aD 1) aE))) (bO gG (aD 2) aH)) (aA aH aE)))))) (aN (iC 10 (dP (q := "law") (k:=5) (N':=["_law_binder", "_law_gone", "_law_k", "_law_name"]) (cap:=[some 2,some 7,some 4,some 6]) C_l_told (by unfold bL;simp) ht rfl rfl hC M (hM hr) (cM (so:=aC dO) (NN:=gJ) rfl rfl (by decide +kernel)) (by decide +kernel) (fun f c cl A outer s H E hr=>(bH 0 BC C_m_merge (hM hr) (aA (cI (cW (aA aK (aA (aD 3) (aA aK (aA (aD 1) aE))))) (aD 2)) (aA (cI (cW (aA (aD 3) (aA aK (aA (aD 1) (aA aK aE))))) (aD 2)) aE)))))) (aN (eO (eP (a9J (dC (oU hr.units) (aD 10) (b5r (aA aK aE) aH))) (aT (bB fF)) dE)) (aN (a8C 10 gD.nd (a5o (dP (q := "law") (k:=5) (N':=["_law_begin", "_law_binder", "_law_end"]) (cap:=[some 8,some 2,some 9]) C_l_told (by unfold bL;simp) ht rfl rfl hC M (hM hr) (cM (so:=aC dO) (NN:=gJ) rfl rfl (by decide +kernel)) (by decide +kernel) (fun f c cl A outer s H E hr=>(bH 1 BC C_m_add (hM hr) (aA aK (aA aK (aA (aD 0) (aA (aD 2) aE))))))) a8J)) (aN (iC 10 (dP (q := "law") (k:=5) (N':=["_law_begin", "_law_binder", "_law_end"]) (cap:=[some 8,some 2,some 9]) C_l_told (by unfold bL;simp) ht rfl rfl hC M (hM hr) (cM (so:=aC dO) (NN:=gJ) rfl rfl (by decide +kernel)) (by decide +kernel) (fun f c cl A outer s H E hr=>(bH 1 BC C_m_add (hM hr) (aA aK (aA aK (aA (aD 0) (aA (aD 2) aE)))))))) (aN (iC 10 (dP (q := "law") (k:=5) (N':=["_law_binder"]) (cap:=[some 2]) C_l_told (by unfold bL;simp) ht rfl rfl hC M (hM hr) (cM (so:=aC dO) (NN:=gJ) rfl rfl (by decide +kernel)) (by decide +kernel) (fun f c cl A outer s H E hr=>(bH 0 BC C_m_add (hM hr) (aA aK (aA aK (aA aH (aA aH aE)))))))) (aN (iC 10 (dP (q := "law") (k:=3) (N':=["_law_binder", "_law_k"]) (cap:=[some 2,some 4]) C_l_told (by unfold bL;simp) ht rfl rfl hC M (hM hr) (cM (so:=aC dO) (NN:=gJ) rfl rfl (by decide +kernel)) (by decide +kernel) (fun f c cl A outer s H E hr=>(bH 0 BC C_m_drop (hM hr) (aA aK (aA (cI (cW (aA aK (aA aK (aA aK (aA aK aE))))) (aD 1)) aE)))))) (aN (iC 10 (dP (q := "law") (k:=6) (N':=["_law_binder", "_law_k"]) (cap:=[some 2,some 4]) C_l_told (by unfold bL;simp) ht rfl rfl hC M (hM hr) (cM (so:=aC dO) (NN:=gJ) rfl rfl (by decide +kernel)) (by decide +kernel) (fun f c cl A outer s H E hr=>(bH 0 BC C_m_shift (hM hr) (aA aK (aA (cI (cW (aA (a4z aH) (aA aH (aA aH (aA (a4z aH) aE))))) (aD 1)) aE)))))) (aN (iC 10 (dP (q := "law") (k:=5) (N':=["_law_binder"]) (cap:=[some 2]) C_l_told (by unfold bL;simp) ht rfl rfl hC M (hM hr) (cM (so:=aC dO) (NN:=gJ) rfl rfl (by decide +kernel)) (by decide +kernel) (fun f c cl A outer s H E hr=>(bH 0 BC C_m_merge (hM hr) (aA aK (aA aK aE)))))) (eG (eO (eP (a9J (dC (oU hr.units) (aD 10) (cW (aA aK (aA aK (aA aK (aA aK (aA aK (aA aK aE))))))))) (aT (bB fF)) dE))))))))))))))))))))))) (aN (a8D (OW.ot (a8z (a5l (dC (oU hr.units) (a0L 2 BC C_m_names (hM hr)) (cW (aA aK (aA aK aE))))) (a8z (a5l (dC (oU hr.units) (a0L 2 BC C_m_marks (hM hr)) (bC (aA aH (aA aH aE))))) (a8y (a8A (oU hr.units) (a2M 2 BC C_m_forth (hM hr)) (a5n aK)))))) (eG (eO (bB fF))) a8I) (aN (a8D (OW.ot (a8z (a5l (dC (oU hr.units) (iJ 2 BC C_m_sheet_of (hM hr) (aA aK aE)) (bC (aA (bC (aA aK (aA aH (aA aH aE)))) (aA (bC (aA aK (aA aH (aA aH aE)))) aE))))) (a8y (a8A (oU hr.units) (dP (q := "law") (k:=5) (N':=["_law_binder"]) (cap:=[some 2]) C_l_told (by unfold bL;simp) ht rfl rfl hC M (hM hr) (cM (so:=aC dO) (NN:=gJ) rfl rfl (by decide +kernel)) (by decide +kernel) (fun f c cl A outer s H E hr=>(bH 0 BC C_m_merge (hM hr) (aA aK (aA aK aE))))) (a5n aK))))) (eG (eO (bB fF))) a8I) (eG (wS (b4m (a8H (a3g hr.units) (bH 2 BC C_m_drop (hM hr) (aA aK (aA aK aE))) (a5n (bC (aA (bC (aA aK (aA aH (aA aH aE)))) aE)))) (b4l (a8H (a3g hr.units) (bH 2 BC C_m_add (hM hr) (aA aK (aA aK (aA aH (aA aH aE))))) (a5n (bC (aA (bC (aA aK (aA aH (aA aH aE)))) (aA (bC (aA aK (aA aH (aA aH aE)))) aE)))))))))))))))))))
end
theorem blt_mk {K:qB} {h:Heap} {mg:Str→Option Value} {t0:Tok} {t1:Tok} {t2:Tok} (X:K.In h) (G:h.Ns mainGlobals mg) (z0:qp K mainGlobals "ValueError" = some none) (z1:qp K mainGlobals "all" = some none) (z2:qp K mainGlobals "bool" = some none) (z3:qp K mainGlobals "int" = some none) (z4:qp K mainGlobals "isinstance" = some none) (z5:qp K mainGlobals "len" = some none) (z6:qp K mainGlobals "range" = some none) (z7:qp K mainGlobals "set" = some none) (z8:qp K mainGlobals "sorted" = some none) (z9:qp K mainGlobals "str" = some none) (z10:qp K mainGlobals "tuple" = some none) (y0:qp K mainGlobals "LAST_END" = some (some (.int 480 t0))) (y1:qp K mainGlobals "LONGEST_NAME" = some (some (.int 4 t1))) (y2:qp K mainGlobals "MOST_MEETINGS" = some (some (.int 16 t2))):Blt mg:=
 ⟨qz X G z0,qz X G z1,qz X G z2,qz X G z3,qz X G z4,qz X G z5,qz X G z6,qz X G z7,qz X G z8,qz X G z9,qz X G z10,⟨_,jl X G y0⟩,⟨_,jl X G y1⟩,⟨_,jl X G y2⟩⟩
theorem law_mk {l:PySem.W.OpenLaw} {w:World} {K:qB} {h:Heap} {mg:Str→Option Value} {fa f4:Addr} (X:K.In h) (G:h.Ns mainGlobals mg) (hfa:mg "law" = some (.ref fa)) {od4 an4:Option Addr} {sl4:Array (Option Value)} {oc4 kV4 dc4 pm4 cd4 ct4:Value}
  (B:Blt mg) (XF:ExG bK K) (D0:MDef K "put" a1l) (D1:MDef K "carry_out" lF) (D2:Def K mg "is_name" oE) (D3:Def K mg "is_rising" nG) (D4:Def K mg "names_of" mH) (D5:Def K mg "is_whole" pC) (D6:Def K mg "are_times" nJ) (D7:Def K mg "is_meeting" mK) (D8:Def K mg "is_sheet" mJ) (D9:MDef K "lay" a1m) (D10:Def K mg "refuse_wrong_times" dJ) (D11:Def K mg "meeting_at" lE) (D12:Def K mg "later" wJ) (D13:Def K mg "shifted" mG) (D14:MDef K "sheet_of" mI) (D15:MDef K "shift" sU) (D16:MDef K "back" wI) (D17:Def K mg "_law_class" tE) (D18:Def K mg "_law_told" wK) (D19:MDef K "names" sW) (D20:MDef K "marks" sY) (D21:MDef K "forth" sZ) (D22:Def K mg "meeting_of" lD) (D23:Def K mg "without_meeting" dH) (D24:MDef K "drop" wH) (D25:Def K mg "with_meeting" gE) (D26:MDef K "add" a1n) (D27:Def K mg "_law_cell" wM) (D28:Def K mg "_law_pick" wL) (D29:MDef K "take" wG) (D30:Def K mg "names_alone" fV) (D31:Def K mg "unlike_names" fB) (D32:Def K mg "merged" oC) (D33:MDef K "merge" sX) (BC:BCls K) (BI:BIn K a2A) (tb0:jc K "law" = some (384,382)) (hC0:kX K 384 382=true)
  (a4:qp K mainGlobals "law" = some (some (.ref f4))) (l4:K.lookup f4=some ⟨oc4,od4,.func (jE "law" "law" (dQ dO) (bI dO) (aC dO) .none kV4 dc4 pm4 an4 cd4 ct4),sl4⟩) (c4:jz K cd4 "law" = true) (k4:jC K (.ref f4)=true) :
  ∃ fd:FuncData,(∀ (s:Shared) (v:Value),BindsTo s fd ⟨[v],[]⟩ [("_law_script", v)])∧∀ base:Heap,K.In base→base.Ns mainGlobals mg→BM mg base→FnOk l.prog w K mg base CX0 10 fa fd ["_law_script"] (spD K fun ds d=>F_law ds=some (.ok d)):=by
 have e:=hfa.symm.trans (jl X G a4)
 cases e
 refine ⟨jE "law" "law" (dQ dO) (bI dO) (aC dO) .none kV4 dc4 pm4 an4 cd4 ct4,fun s v=>.of_eq rfl,fun base kb nb M=>?_⟩
 have C_m_put:=b2w (P:=l.prog) (w:=w) (base:=base) D0 B BC XF
 have C_m_carry_out:=a0b (P:=l.prog) (w:=w) (base:=base) D1 B BC XF C_m_put
 have C_is_name:=a7p (P:=l.prog) (w:=w) (base:=base) D2 B XF
 have C_is_rising:=a3v (P:=l.prog) (w:=w) (base:=base) D3 B XF
 have C_names_of:=a4D (P:=l.prog) (w:=w) (base:=base) D4 B XF
 have C_is_whole:=a4E (P:=l.prog) (w:=w) (base:=base) D5 B XF
 have C_are_times:=a3w (P:=l.prog) (w:=w) (base:=base) D6 B XF C_is_whole
 have C_is_meeting:=a2d (P:=l.prog) (w:=w) (base:=base) D7 B XF C_is_name C_are_times
 have C_is_sheet:=a4F (P:=l.prog) (w:=w) (base:=base) D8 B XF C_is_meeting C_names_of C_is_rising
 have C_m_lay:=b2x (P:=l.prog) (w:=w) (base:=base) D9 B BC XF C_is_name C_is_sheet C_m_carry_out
 have C_refuse_wrong_timesX:=nB (P:=l.prog) (w:=w) (base:=base) D10 B XF C_are_times
 have C_meeting_atX:=a0a (P:=l.prog) (w:=w) (base:=base) D11 B XF C_refuse_wrong_timesX
 have C_laterX:=b0d (P:=l.prog) (w:=w) (base:=base) D12 B XF C_is_whole
 have C_shiftedX:=a4C (P:=l.prog) (w:=w) (base:=base) D13 B XF C_laterX C_meeting_atX
 have C_m_sheet_of:=a2c (P:=l.prog) (w:=w) (base:=base) D14 B BC XF C_is_name
 have C_m_shift:=a7j (P:=l.prog) (w:=w) (base:=base) D15 B BC XF C_m_carry_out C_m_sheet_of C_shiftedX
 have C_m_back:=b0c (P:=l.prog) (w:=w) (base:=base) D16 B BC XF C_m_put
 have C_l_class:=a7o (P:=l.prog) (w:=w) (base:=base) D17 B XF
 have C_l_told:=b0e (P:=l.prog) (w:=w) (base:=base) D18 B XF C_l_class
 have C_m_names:=a7k (P:=l.prog) (w:=w) (base:=base) D19 B BC XF
 have C_m_marks:=a7m (P:=l.prog) (w:=w) (base:=base) D20 B BC XF
 have C_m_forth:=a7n (P:=l.prog) (w:=w) (base:=base) D21 B BC XF C_m_put
 have C_meeting_ofX:=yZ (P:=l.prog) (w:=w) (base:=base) D22 B XF
 have C_without_meetingX:=pO (P:=l.prog) (w:=w) (base:=base) D23 B XF C_meeting_ofX
 have C_m_drop:=b0b (P:=l.prog) (w:=w) (base:=base) D24 B BC XF C_m_carry_out C_m_sheet_of C_without_meetingX
 have C_with_meetingX:=vI (P:=l.prog) (w:=w) (base:=base) D25 B XF C_names_of C_refuse_wrong_timesX
 have C_m_add:=b2y (P:=l.prog) (w:=w) (base:=base) D26 B BC XF C_m_carry_out C_m_sheet_of C_with_meetingX
 have C_l_cell:=b0g (P:=l.prog) (w:=w) (base:=base) D27 B XF
 have C_l_pick:=b0f (P:=l.prog) (w:=w) (base:=base) D28 B XF C_l_cell
 have C_m_take:=b0a (P:=l.prog) (w:=w) (base:=base) D29 B BC XF C_m_sheet_of C_m_carry_out
 have C_names_alone:=yY (P:=l.prog) (w:=w) (base:=base) D30 B XF C_names_of
 have C_unlike_names:=xZ (P:=l.prog) (w:=w) (base:=base) D31 B XF C_names_of C_names_alone
 have C_mergedX:=a7i (P:=l.prog) (w:=w) (base:=base) D32 B XF C_unlike_names
 have C_m_merge:=a7l (P:=l.prog) (w:=w) (base:=base) D33 B BC XF C_m_carry_out C_m_sheet_of C_mergedX
 have C_mk:BMk l.prog w K mg base 1:=b2A X G BC BI a6o rfl rfl (fun _ _ _ _ _ _ us hl=>by obtain ⟨_,rfl⟩:=rC hl;rfl)
 exact b7g (a1K (st:=dO) l4 c4 k4) B kb nb M hfa tb0 hC0 BC C_mk XF C_m_lay C_m_shift C_m_back C_l_pick C_l_told C_m_take C_m_add C_m_drop C_m_merge C_m_names C_m_marks C_m_forth C_m_sheet_of
end L2.L3
open PySem PySem.W PyProof.Rows
namespace PySem.W.Fast
theorem tw12415473695723175394:True:=⟨⟩
theorem tw1267718303879125648:True:=⟨⟩
theorem tw7645228346484470254:True:=⟨⟩
theorem tw6999933030154545269:True:=⟨⟩
theorem tw1140257057363900576:True:=⟨⟩
theorem tw6986015544990285496:True:=⟨⟩
theorem tw16163740343807462877:True:=⟨⟩
theorem tw9898717628492044578:True:=⟨⟩
theorem tw16680253644602373584:True:=⟨⟩
theorem tw1979683624128613476:True:=⟨⟩
theorem tw11942722234307805277:True:=⟨⟩
theorem tw6538477787848825903:True:=⟨⟩
theorem tw14299260432868942680:True:=⟨⟩
theorem tw18235529137281493517:True:=⟨⟩
theorem tw7737280788311500438:True:=⟨⟩
theorem tw5084716554149366057:True:=⟨⟩
theorem tw15754193469533376741:True:=⟨⟩
theorem tw9784710541586995934:True:=⟨⟩
theorem tw10878180373814016768:True:=⟨⟩
theorem tw10947960724082713371:True:=⟨⟩
theorem tw5165512783820401348:True:=⟨⟩
theorem tw10512687785911418995:True:=⟨⟩
theorem tw4292930696663896362:True:=⟨⟩
theorem tw11935200506416281307:True:=⟨⟩
theorem tw15616623971003350289:True:=⟨⟩
theorem tw15939113660959892201:True:=⟨⟩
theorem tw18260158265326970154:True:=⟨⟩
theorem tw10544264549721002835:True:=⟨⟩
theorem tw654924693294705203:True:=⟨⟩
theorem tw5965565074733569984:True:=⟨⟩
theorem tw8234756766509888472:True:=⟨⟩
theorem tw18359936605216506510:True:=⟨⟩
theorem tw13104050299042137696:True:=⟨⟩
theorem tw12777882980622200138:True:=⟨⟩
theorem tw15499896022836931532:True:=⟨⟩
theorem tw2014912884512905273:True:=⟨⟩
theorem tw6037713184675780199:True:=⟨⟩
theorem tw11411307130864680655:True:=⟨⟩
theorem tw15681809616054883742:True:=⟨⟩
theorem tw11447242825463501047:True:=⟨⟩
theorem tw13519961797790304345:True:=⟨⟩
theorem tw13043131611576581592:True:=⟨⟩
theorem tw7820701597191418066:True:=⟨⟩
theorem tw4101936697714489199:True:=⟨⟩
theorem tw15291661009904695383:True:=⟨⟩
theorem tw9199474182698260911:True:=⟨⟩
theorem tw15909748053884525452:True:=⟨⟩
theorem tw7464618209078714201:True:=⟨⟩
theorem tw18143415103790165781:True:=⟨⟩
theorem tw10865557038034194688:True:=⟨⟩
theorem tw16637824580449947321:True:=⟨⟩
theorem tw14083927421869720967:True:=⟨⟩
theorem tw204834844545383075:True:=⟨⟩
theorem tw2406719620636300468:True:=⟨⟩
theorem tw12232857838085195782:True:=⟨⟩
theorem tw9001430891483063368:True:=⟨⟩
theorem tw8290003039342752543:True:=⟨⟩
theorem tw6594114901652386391:True:=⟨⟩
theorem tw6811292542820808054:True:=⟨⟩
theorem tw9276515028418935109:True:=⟨⟩
theorem tw12900421882135188554:True:=⟨⟩
theorem tw9538953389945038089:True:=⟨⟩
theorem tw2462478227920358240:True:=⟨⟩
theorem tw16980579925854617491:True:=⟨⟩
theorem tw9847803808653595684:True:=⟨⟩
theorem tw4589472993528152898:True:=⟨⟩
theorem tw12829722551663712874:True:=⟨⟩
theorem tw12872314407151992000:True:=⟨⟩
theorem tw11344881374622345060:True:=⟨⟩
theorem tw946739909586507384:True:=⟨⟩
theorem tw1677111776522585381:True:=⟨⟩
theorem tw1889757324717594072:True:=⟨⟩
theorem tw8613830765521965328:True:=⟨⟩
theorem tw15534232076090106668:True:=⟨⟩
theorem tw7892957120616555156:True:=⟨⟩
theorem tw12173811031441696257:True:=⟨⟩
theorem tw7656783920467610133:True:=⟨⟩
theorem tw17848698171709444990:True:=⟨⟩
theorem tw15278282642290344724:True:=⟨⟩
end PySem.W.Fast
set_option maxRecDepth 100000 in
set_option maxHeartbeats 0 in
theorem PySem.Challenge.cw_daysheet_k84_binders_refused_holds : PySem.Challenge.rw_daysheet_k84_binders_refused.Holds := by
 w_on;o_law;k_head;(case hw=>w_witness2)
 k_fill
 refine L2.L3.walkL (l:=kz) (k:=10) (F:=L2.L3.F_law) (x := "_law_script") [(382,L2.L3.lamQ "law")] rfl rfl ⟨rfl,by decide,by decide⟩ (fun w h Y=>PySem.W.km_in_of Y) (fun w h Y=>PySem.W.km_tabs_of Y) ?cd ?ts ?F (fun ns hl=>L2.L3.e_law ns hl)
 case cd=>exact fun w=>L2.L3.all_cons ⟨⟨384,by kernel_rfl⟩,by kernel_rfl⟩ (fun _ h=>nomatch h)
 case ts=>exact fun w=>L2.L3.lam_all (by kernel_rfl)
 case F=>
  intro w mg fa h KX G hmg
  refine' L2.L3.law_mk KX G hmg ?B ?XF ?D0 ?D1 ?D2 ?D3 ?D4 ?D5 ?D6 ?D7 ?D8 ?D9 ?D10 ?D11 ?D12 ?D13 ?D14 ?D15 ?D16 ?D17 ?D18 ?D19 ?D20 ?D21 ?D22 ?D23 ?D24 ?D25 ?D26 ?D27 ?D28 ?D29 ?D30 ?D31 ?D32 ?D33 ?BC ?BI ?tb0 ?hC0 ?a4 ?l4 ?c4 ?k4
  (case XF=>exact ⟨by kernel_rfl⟩)
  (case tb0=>kernel_rfl);(case hC0=>kernel_rfl)
  (case a4=>k_is);(case l4=>k_is);(case c4=>k_is);(case k4=>k_is)
  (case B=>(refine' L2.L3.blt_mk KX G ?z0 ?z1 ?z2 ?z3 ?z4 ?z5 ?z6 ?z7 ?z8 ?z9 ?z10 ?y0 ?y1 ?y2;(case z0=>k_is);(case z1=>k_is);(case z2=>k_is);(case z3=>k_is);(case z4=>k_is);(case z5=>k_is);(case z6=>k_is);(case z7=>k_is);(case z8=>k_is);(case z9=>k_is);(case z10=>k_is);(case y0=>k_is);(case y1=>k_is);(case y2=>k_is)))
  (case BC=>(refine' L2.L3.bcls_mk ?a0 ?c1 ?c2 ?c3 ?c4 ?n1 ?n2 ?n3;(case a0=>k_is);(case c1=>k_is);(case c2=>k_is);(case c3=>k_is);(case c4=>k_is);(case n1=>k_is);(case n2=>k_is);(case n3=>k_is)))
  (case BI=>(refine' L2.L3.bin_mk ?a0 ?k1 ?k2 ?k3 ?k4 ?l ?c ?k;(case a0=>k_is);(case k1=>k_is);(case k2=>k_is);(case k3=>k_is);(case k4=>k_is);(case l=>k_is);(case c=>k_is);(case k=>k_is)))
  (case D0=>(refine' L2.L3.mdef_mk ?a0 ?a ?i ?l ?c ?k;(case a0=>k_is);(case a=>k_is);(case i=>k_is);(case l=>k_is);(case c=>k_is);(case k=>k_is)))
  (case D1=>(refine' L2.L3.mdef_mk ?a0 ?a ?i ?l ?c ?k;(case a0=>k_is);(case a=>k_is);(case i=>k_is);(case l=>k_is);(case c=>k_is);(case k=>k_is)))
  (case D2 | D3 | D4 | D5 | D6 | D7 | D8 | D10 | D11 | D12 | D13 | D17 | D18 | D22 | D23 | D25 | D27 | D28 | D30 | D31 | D32=>(refine' L2.L3.def_mk KX G ?a ?l ?c ?k;(case a=>k_is);(case l=>k_is);(case c=>k_is);(case k=>k_is)))
  (case D9=>(refine' L2.L3.mdef_mk ?a0 ?a ?i ?l ?c ?k;(case a0=>k_is);(case a=>k_is);(case i=>k_is);(case l=>k_is);(case c=>k_is);(case k=>k_is)))
  (case D14=>(refine' L2.L3.mdef_mk ?a0 ?a ?i ?l ?c ?k;(case a0=>k_is);(case a=>k_is);(case i=>k_is);(case l=>k_is);(case c=>k_is);(case k=>k_is)))
  (case D15=>(refine' L2.L3.mdef_mk ?a0 ?a ?i ?l ?c ?k;(case a0=>k_is);(case a=>k_is);(case i=>k_is);(case l=>k_is);(case c=>k_is);(case k=>k_is)))
  (case D16=>(refine' L2.L3.mdef_mk ?a0 ?a ?i ?l ?c ?k;(case a0=>k_is);(case a=>k_is);(case i=>k_is);(case l=>k_is);(case c=>k_is);(case k=>k_is)))
  (case D19=>(refine' L2.L3.mdef_mk ?a0 ?a ?i ?l ?c ?k;(case a0=>k_is);(case a=>k_is);(case i=>k_is);(case l=>k_is);(case c=>k_is);(case k=>k_is)))
  (case D20=>(refine' L2.L3.mdef_mk ?a0 ?a ?i ?l ?c ?k;(case a0=>k_is);(case a=>k_is);(case i=>k_is);(case l=>k_is);(case c=>k_is);(case k=>k_is)))
  (case D21=>(refine' L2.L3.mdef_mk ?a0 ?a ?i ?l ?c ?k;(case a0=>k_is);(case a=>k_is);(case i=>k_is);(case l=>k_is);(case c=>k_is);(case k=>k_is)))
  (case D24=>(refine' L2.L3.mdef_mk ?a0 ?a ?i ?l ?c ?k;(case a0=>k_is);(case a=>k_is);(case i=>k_is);(case l=>k_is);(case c=>k_is);(case k=>k_is)))
  (case D26=>(refine' L2.L3.mdef_mk ?a0 ?a ?i ?l ?c ?k;(case a0=>k_is);(case a=>k_is);(case i=>k_is);(case l=>k_is);(case c=>k_is);(case k=>k_is)))
  (case D29=>(refine' L2.L3.mdef_mk ?a0 ?a ?i ?l ?c ?k;(case a0=>k_is);(case a=>k_is);(case i=>k_is);(case l=>k_is);(case c=>k_is);(case k=>k_is)))
  (case D33=>(refine' L2.L3.mdef_mk ?a0 ?a ?i ?l ?c ?k;(case a0=>k_is);(case a=>k_is);(case i=>k_is);(case l=>k_is);(case c=>k_is);(case k=>k_is)))

