import PyProof.Rows.All
import Wide.All
import OpenK.AllK
import Wide.FinOn
import Lean
import PyProof.EqAt
import PyProof.EqKinds
import PyProof.TupleCall
import PySem.Challenge.RW_daysheet_k52_whole_weightiest
set_option Elab.async false
set_option linter.all false
set_option maxRecDepth 100000
set_option maxHeartbeats 4000000
namespace L2
open PySem PySem.Spec PyProof.Rows
noncomputable abbrev Key:=Sum Int Str
noncomputable def mL:Key→Value→Bool
 | .inl k,v=>Value.isInt k v
 | .inr x,v=>Value.isStrOf x v
noncomputable def keyH (w:World):Key→Int
 | .inl k=>hashInt k
 | .inr x=>hashStr w x
theorem aW:∀ {k:Key} {v:Value},mL k v=true→(∃ i t,k=Sum.inl i∧v=Value.int i t)∨(∃ x t,k=Sum.inr x∧v=Value.str x t)
 | .inl i,v,h=>by
  obtain ⟨t,e⟩:=Value.isInt_shape (k:=i) (v:=v) h
  exact .inl ⟨i,t,rfl,e⟩
 | .inr x,v,h=>by
  obtain ⟨t,e⟩:=Value.isStrOf_shape (x:=x) (v:=v) h
  exact .inr ⟨x,t,rfl,e⟩
theorem a0K (i:Int) (t:Tok):mL (.inl i) (.int i t)=true:=by simp [mL,Value.isInt]
theorem a0J (x:Str) (t:Tok):mL (.inr x) (.str x t)=true:=by simp [mL,Value.isStrOf]
theorem key_ll (a b:Int):decide ((Sum.inl a:Key)=Sum.inl b)=(a==b):=by
 by_cases e:a=b
 ·subst e;simp
 ·have h:¬(Sum.inl a:Key)=Sum.inl b:=fun q=>e (Sum.inl.inj q)
  rw [decide_eq_false h]
  exact (beq_eq_false_iff_ne.mpr e).symm
theorem key_rr (a b:Str):decide ((Sum.inr a:Key)=Sum.inr b)=decide (a=b):=by
 by_cases e:a=b
 ·subst e;simp
 ·have h:¬(Sum.inr a:Key)=Sum.inr b:=fun q=>e (Sum.inr.inj q)
  rw [decide_eq_false h,decide_eq_false e]
theorem key_lr (a:Int) (b:Str):decide ((Sum.inl a:Key)=Sum.inr b)=false:=decide_eq_false (fun q=>nomatch q)
theorem key_rl (a:Str) (b:Int):decide ((Sum.inr a:Key)=Sum.inl b)=false:=decide_eq_false (fun q=>nomatch q)
noncomputable def aP (prog:Program) (w:World):PySem.KeyKind prog w Key where
 is:=mL
 hash:=keyH w
 inj:=fun v a b ha hb=>by
  rcases aW ha with ⟨i,t,rfl,rfl⟩ | ⟨x,t,rfl,rfl⟩
  ·rcases aW hb with ⟨j,u,rfl,e⟩ | ⟨y,u,rfl,e⟩
   ·injection e with e1 _;rw [e1]
   ·exact nomatch e
  ·rcases aW hb with ⟨j,u,rfl,e⟩ | ⟨y,u,rfl,e⟩
   ·exact nomatch e
   ·injection e with e1 _;rw [e1]
 byValue:=fun k v h=>by
  rcases aW h with ⟨i,t,rfl,rfl⟩ | ⟨x,t,rfl,rfl⟩<;>rfl
 pyHash:=fun hv h=>by
  rcases aW hv with ⟨i,t,rfl,rfl⟩ | ⟨x,t,rfl,rfl⟩
  ·exact wpAny_pyHash_int h
  ·exact wpAny_pyHash_str h
 eqBool:=fun hu hv h=>by
  rcases aW hu with ⟨i,t,rfl,rfl⟩ | ⟨x,t,rfl,rfl⟩
  ·rcases aW hv with ⟨j,u,rfl,rfl⟩ | ⟨y,u,rfl,rfl⟩
   ·rw [key_ll] at h;exact wpAny_eqBool_int h
   ·rw [key_lr] at h;exact SeqAt.EqAt.int_str i t y u _ _ _ _ h
  ·rcases aW hv with ⟨j,u,rfl,rfl⟩ | ⟨y,u,rfl,rfl⟩
   ·rw [key_rl] at h;exact SeqAt.EqAt.str_int x t j u _ _ _ _ h
   ·rw [key_rr] at h;exact wpAny_eqBool_str h
 «strs»:=fun k x t v h=>by
  rcases aW h with ⟨i,u,rfl,e⟩ | ⟨y,u,rfl,e⟩
  ·exact nomatch e
  ·injection e with e1 _
   subst e1
   cases v<;>rfl
theorem oP (prog:Program) (w:World) (k:Key) (v:Value):(aP prog w).is k v=mL k v:=rfl
theorem mJ (prog:Program) (w:World) (i:Int) (t:Tok):(aP prog w).is (.inl i) (.int i t)=true:=a0K i t
theorem fQ (prog:Program) (w:World) (x:Str) (t:Tok):(aP prog w).is (.inr x) (.str x t)=true:=a0J x t
inductive V where
 | non | bl (b:Bool) | int (i:Int) | str (x:Str) | byt (b:Array UInt8) | flt (b:UInt64) | ref (a:Addr) | ty (n:String)
 deriving DecidableEq
noncomputable def RelV:V→Value→Prop
 | .non,u=>u=Value.none
 | .bl b,u=>u=Value.bool b
 | .int i,u=>∃ t,u=Value.int i t
 | .str x,u=>∃ t,u=Value.str x t
 | .byt b,u=>∃ t,u=Value.bytes b t
 | .flt b,u=>∃ t,u=Value.float b t
 | .ref a,u=>u=Value.ref a
 | .ty n,u=>u=Value.type n
noncomputable abbrev aR:List V→List Value→Prop:=Paired RelV
theorem aR.length {xs:List V} {us:List Value} (r:aR xs us):xs.length=us.length:=Paired.length r
theorem aR.get:∀ {xs:List V} {us:List Value} {i:Nat} {x:V},aR xs us→xs[i]?=some x→∃ u,us[i]?=some u∧RelV x u
 | _,_,_,_,.nil,e=>by simp at e
 | _,_,0,_,.cons r _,e=>by simp at e;subst e;exact ⟨_,rfl,r⟩
 | _,_,i+1,x,.cons _ t,e=>by
  obtain ⟨u,h1,h2⟩:=aR.get (i:=i) (x:=x) t (by simpa using e)
  exact ⟨u,by simpa using h1,h2⟩
theorem aR.append:∀ {xs ys:List V} {us ws:List Value},aR xs us→aR ys ws→aR (xs++ys) (us++ws)
 | _,_,_,_,.nil,s=>s
 | _,_,_,_,.cons r t,s=>.cons r (aR.append t s)
theorem aR.take:∀ {xs:List V} {us:List Value} (n:Nat),aR xs us→aR (xs.take n) (us.take n)
 | _,_,0,_=>.nil
 | _,_,_+1,.nil=>.nil
 | _,_,n+1,.cons r t=>.cons r (aR.take n t)
theorem aR.drop:∀ {xs:List V} {us:List Value} (n:Nat),aR xs us→aR (xs.drop n) (us.drop n)
 | _,_,0,r=>r
 | _,_,_+1,.nil=>.nil
 | _,_,n+1,.cons _ t=>aR.drop n t
noncomputable def a3W:Option V→Option Value→Prop
 | some v,some u=>RelV v u
 | none,none=>True
 | _,_=>False
noncomputable def KV {κ:Type}:List (κ×V)→List (κ×Value)→Prop:=Paired fun (p:κ×V) (q:κ×Value)=>p.1=q.1∧RelV p.2 q.2
noncomputable def kV:Key→V
 | .inl i=>.int i
 | .inr x=>.str x
inductive HO where
 | lst (xs:List V)
 | tup (xs:List V)
 | dK (kvs:List (Key×V)) | dT (kvs:List (List Key×V))
 | set (S:Int→Bool) (n:Nat)
 | ins (C dx:Addr) (fs:List (Str×V))
 | own (x:Addr)
 | xd (fs:List (Str×V))
 | met (f x:Addr)
 | rng (lo hi:Int)
 | frz (o:Obj) (u:HO)
 | tbl (ps:Str×Array Value)
 | ext (φ:Heap→Prop)
noncomputable abbrev Hp:=Addr→Option HO
noncomputable def upd (H:Hp) (a:Addr) (o:HO):Hp:=fun b=>if b=a then some o else H b
theorem aF {H:Hp} {a:Addr} {o:HO}:upd H a o a=some o:=by unfold upd;rw [if_pos rfl]
theorem aD {H:Hp} {a b:Addr} {o:HO} (h:b≠a):upd H a o b=H b:=by unfold upd;rw [if_neg h]
theorem cZ {H:Hp} {a b:Addr} {o u:HO} (h:H a=some o) (h':H b=some u) (d:o≠u):a≠b:=by
 intro e;subst e;rw [h] at h';exact d (Option.some.inj h')
theorem aM {H:Hp} {a b:Addr} {o:HO} (h:H a=some o) (h':H b=none):a≠b:=by
 intro e;subst e;rw [h] at h';cases h'
section
variable (P:Program) (w:World)
noncomputable def bR (H:Hp) (h:Heap) (a:Addr):HO→Prop
 | .lst xs=>xs.length≤sizeLine∧∃ (its:List Value) (n:Nat),aR xs its∧h.get? a=some { cls:=.type "list", data:=.seq its.toArray n }
 | .tup xs=>xs.length≤sizeLine∧∃ its:List Value,aR xs its∧IsTup h a its.toArray
 | .dK kvs=>kvs.length≤sizeLine∧(a==sysModules)=false∧∃ vs,KV kvs vs∧h.DictOf (aP P w) a vs
 | .dT kvs=>kvs.length≤sizeLine∧(a==sysModules)=false∧∃ xs:List (List Key×Addr×Value),
   Paired (fun (p:List Key×V) (q:List Key×Addr×Value)=>p.1=q.1∧H q.2.1=some (.tup (p.1.map kV))∧RelV p.2 q.2.2) kvs xs ∧
   ∃ o es ep,h.get? a=some o∧o.ExactDict∧o.data=.dict es ep∧es.toList=xs.map (entryOfKey (tupleKind (aP P w)))∧(xs.map (·.1)).Nodup
 | .set S n=>h.SetOf (intKind P w) a S n
 | .ins C dx fs=>H dx=some (.own a)∧fs.length≤1000∧dx≠a∧h.get? a=some (PySem.W.instObj C dx) ∧
   ∃ mA,h.Ns1 dx mA∧(∀ f,a3W (fs.lookup f) (mA f))∧PySem.Within mA (fs.map (·.1))
 | .own _=>∃ o,h.get? a=some o
 | .xd fs=>∃ mA,h.Ns1 a mA∧∀ f,a3W (fs.lookup f) (mA f)
 | .rng lo hi=>∃ t u v,h.get? a=some { cls:=.type "range", data:=.fields #[.int lo t,.int hi u,.int 1 v] }
 | .frz o u=>h.get? a=some o∧bR H h a u
 | .tbl ps=>h.get? a=some { cls:=.none,data:=.fields ps.2 }
 | .met f x=>h.get? a=some (PySem.W.methodObj (.ref f) (.ref x))
 | .ext φ=>φ h∧(∃ o,h.get? a=some o)∧∀ h1 h2:Heap,φ h1→(∀ o,h1.get? a=some o→h2.get? a=some o)→φ h2
noncomputable def HOk (H:Hp) (h:Heap):Prop:=∀ a o,H a=some o→bR P w H h a o
end
section
variable {P:Program} {w:World} {H H':Hp} {h h':Heap} {a:Addr} {o:HO}
theorem bR.lt (x:bR P w H h a o):a<h.objs.size:=by
 cases o with
 | lst xs=>obtain ⟨_,_,_,_,e⟩:=x;exact Heap.lt_size e
 | tup xs=>obtain ⟨_,_,_,p⟩:=x;exact p.lt
 | dK kvs=>obtain ⟨_,_,_,_,o,_,_,e,_⟩:=x;exact Heap.lt_size e
 | dT kvs=>obtain ⟨_,_,_,_,o,_,_,e,_⟩:=x;exact Heap.lt_size e
 | set S n=>obtain ⟨o,_,_,_,e,_⟩:=x;exact Heap.lt_size e
 | ins C dx fs=>obtain ⟨_,_,_,e,_⟩:=x;exact Heap.lt_size e
 | own y=>obtain ⟨_,e⟩:=x;exact Heap.lt_size e
 | xd fs=>obtain ⟨_,⟨_,_,_,e,_⟩,_⟩:=x;exact Heap.lt_size e
 | rng lo hi=>obtain ⟨_,_,_,e⟩:=x;exact Heap.lt_size e
 | frz ob u=>obtain ⟨e,_⟩:=x;exact Heap.lt_size e
 | tbl ps=>exact Heap.lt_size (show h.get? a=some _ from x)
 | met f y=>exact Heap.lt_size (show h.get? a=some _ from x)
 | ext φ=>obtain ⟨_,⟨_,e⟩,_⟩:=x;exact Heap.lt_size e
theorem Paired.mapP {α β:Type} {F G:α→β→Prop}:∀ {l₁:List α} {l₂:List β},Paired F l₁ l₂→(∀ a b,F a b→G a b)→Paired G l₁ l₂
 | _,_,.nil,_=>.nil
 | _,_,.cons r t,f=>.cons (f _ _ r) (Paired.mapP t f)
theorem bR.stay (x:bR P w H h a o) (k:∀ b u,(b=a∨H b=some (.own a))→h.get? b=some u→h'.get? b=some u)
  (ho:∀ b,H b=some (.own a)→H' b=some (.own a)) (ht:∀ b xs,H b=some (.tup xs)→H' b=some (.tup xs)):bR P w H' h' a o:=by
 induction o with
 | lst xs=>obtain ⟨z,its,n,r,e⟩:=x;exact ⟨z,its,n,r,k _ _ (.inl rfl) e⟩
 | tup xs=>obtain ⟨z,its,r,ob,e,c⟩:=x;exact ⟨z,its,r,ob,k _ _ (.inl rfl) e,c⟩
 | dK kvs=>obtain ⟨z,y,vs,r,ob,es,ep,e,c⟩:=x;exact ⟨z,y,vs,r,ob,es,ep,k _ _ (.inl rfl) e,c⟩
 | dT kvs=>
  obtain ⟨z,y,xs,r,ob,es,ep,e,c⟩:=x
  exact ⟨z,y,xs,Paired.mapP r fun p q z=>⟨z.1,ht _ _ z.2.1,z.2.2⟩,ob,es,ep,k _ _ (.inl rfl) e,c⟩
 | set S n=>obtain ⟨ob,es,ep,t,e,c⟩:=x;exact ⟨ob,es,ep,t,k _ _ (.inl rfl) e,c⟩
 | ins C dx fs=>
  obtain ⟨d,z,ne,e,mA,⟨od,es,ep,e2,c⟩,r⟩:=x
  exact ⟨ho _ d,z,ne,k _ _ (.inl rfl) e,mA,⟨od,es,ep,k _ _ (.inr d) e2,c⟩,r⟩
 | own y=>obtain ⟨ob,e⟩:=x;exact ⟨ob,k _ _ (.inl rfl) e⟩
 | xd fs=>obtain ⟨mA,⟨od,es,ep,e,c⟩,r⟩:=x;exact ⟨mA,⟨od,es,ep,k _ _ (.inl rfl) e,c⟩,r⟩
 | rng lo hi=>obtain ⟨t,u,v,e⟩:=x;exact ⟨t,u,v,k _ _ (.inl rfl) e⟩
 | frz ob u ih=>obtain ⟨e,q⟩:=x;exact ⟨k _ _ (.inl rfl) e,ih q⟩
 | tbl ps=>
  have e:h.get? a=some { cls:=.none,data:=.fields ps.2 }:=x
  show h'.get? a=some { cls:=.none,data:=.fields ps.2 }
  exact k a _ (.inl rfl) e
 | met f y=>
  have e:h.get? a=some (PySem.W.methodObj (.ref f) (.ref y)):=x
  show h'.get? a=some (PySem.W.methodObj (.ref f) (.ref y))
  exact k a _ (.inl rfl) e
 | ext φ=>obtain ⟨p,⟨o,e⟩,st⟩:=x;exact ⟨st _ _ p fun o q=>k _ _ (.inl rfl) q,⟨o,k _ _ (.inl rfl) e⟩,st⟩
theorem HOk.lt (x:HOk P w H h) (e:H a=some o):a<h.objs.size:=(x a o e).lt
theorem HOk.fresh (x:HOk P w H h) (e:h.objs.size≤a):H a=none:=by
 cases q:H a with
 | none=>rfl
 | some u=>exact absurd (Nat.lt_of_lt_of_le (x.lt q) e) (Nat.lt_irrefl _)
theorem HOk.kept (x:HOk P w H h) (k:∀ b u,h.get? b=some u→h'.get? b=some u):HOk P w H h':=fun a o e=>
 (x a o e).stay (fun b u _ q=>k b u q) (fun _ q=>q) fun _ _ q=>q
theorem HOk.laid (x:HOk P w H h) (k:∀ b u,h.get? b=some u→h'.get? b=some u) (hp:h.objs.size≤a) (new:bR P w (upd H a o) h' a o):HOk P w (upd H a o) h':=fun b u e=>by
 have hn:=x.fresh hp
 by_cases hb:b=a
 ·subst hb;rw [aF] at e;cases e;exact new
 ·rw [aD hb] at e
  exact (x b u e).stay (fun c v _ q=>k c v q) (fun c q=>by rw [aD (aM q hn)];exact q) fun c xs q=>by rw [aD (aM q hn)];exact q
end
noncomputable def Rd (H:Hp) (a:Addr) (u:HO):Prop:=H a=some u∨∃ o,H a=some (.frz o u)
theorem Rd.ok {P:Program} {w:World} {H:Hp} {h:Heap} {a:Addr} {u:HO} (r:Rd H a u) (x:HOk P w H h):bR P w H h a u:=by
 rcases r with r | ⟨o,r⟩
 ·exact x a u r
 ·obtain ⟨_,q⟩:=x a _ r
  exact q
noncomputable def Mut:Option HO→Prop
 | some (.lst _)=>True
 | some (.dK _)=>True
 | some (.dT _)=>True
 | some (.set _ _)=>True
 | some (.ins _ _ _)=>True
 | some (.ext _)=>True
 | _=>False
section
variable {P:Program} {w:World} {H:Hp} {h h':Heap} {x e:Addr} {o':HO}
theorem HOk.write (ok:HOk P w H h) (mu:Mut (H x)) (he:e=x∨H e=some (.own x)) (k:∀ b u,b≠e→h.get? b=some u→h'.get? b=some u) (heo:∃ u,h'.get? e=some u)
  (new:bR P w (upd H x o') h' x o'):HOk P w (upd H x o') h':=fun b u q=>by
 have nown:∀ c y,H c=some (.own y)→c≠x:=fun c y r z=>by subst z;rw [r] at mu;exact mu
 have ntup:∀ c xs,H c=some (.tup xs)→c≠x:=fun c xs r z=>by subst z;rw [r] at mu;exact mu
 by_cases hb:b=x
 ·subst hb;rw [aF] at q;cases q;exact new
 ·rw [aD hb] at q
  by_cases hbe:b=e
  ·have q':H b=some (.own x):=by
    rcases he with z | z
    ·exact absurd (hbe.trans z) hb
    ·rw [hbe];exact z
   rw [q] at q';cases q'
   obtain ⟨v,hv⟩:=heo
   exact ⟨v,by rw [hbe];exact hv⟩
  ·refine (ok b u q).stay (fun c v hc r=>k c v ?_ r) (fun c r=>by rw [aD (nown c b r)];exact r) fun c xs r=>by rw [aD (ntup c xs r)];exact r
   rcases hc with rfl | hc
   ·exact hbe
   ·rintro rfl
    rcases he with z | z
    ·exact nown c b hc z
    ·rw [hc] at z;cases z;exact hb rfl
end
structure Un (fs ex:List Addr) (H H':Hp) (h h':Heap):Prop where
 keep:∀ b o,h.get? b=some o→H b=none→b∉fs→b∉ex→h'.get? b=some o
 slot:∀ b o,h.get? b=some o→H b=none→b∈fs→b∉ex→∃ sl,h'.get? b=some { o with slots:=sl }
 free:∀ b o,h.get? b=some o→H b=none→b∉ex→H' b=none
 there:∀ b o,h.get? b=some o→b∉ex→∃ o',h'.get? b=some o'
 tups:∀ b xs,H b=some (.tup xs)→H' b=some (.tup xs)
 frzs:∀ b o u,H b=some (.frz o u)→H' b=some (.frz o u)
 tbls:∀ b ps,H b=some (.tbl ps)→∃ more,H' b=some (.tbl (ps.1,ps.2++more))
section
variable {fs fs' ex ex':List Addr} {H H1 H2:Hp} {h h1 h2 h':Heap} {a x e:Addr} {o:HO}
theorem Un.any (u:Un fs ex H H1 h h1) {b:Addr} {ob:Obj} (q:h.get? b=some ob) (n:H b=none) (hx:b∉ex):∃ sl,h1.get? b=some { ob with slots:=sl }:=by
 by_cases hb:b∈fs
 ·exact u.slot b ob q n hb hx
 ·exact ⟨ob.slots,u.keep b ob q n hb hx⟩
theorem Un.trans (a:Un fs ex H H1 h h1) (b:Un fs ex H1 H2 h1 h2):Un fs ex H H2 h h2 where
 keep:=fun c ob q n hc hx=>b.keep c ob (a.keep c ob q n hc hx) (a.free c ob q n hx) hc hx
 slot:=fun c ob q n hc hx=>by
  obtain ⟨sl,e1⟩:=a.slot c ob q n hc hx
  obtain ⟨sl',e2⟩:=b.slot c _ e1 (a.free c ob q n hx) hc hx
  exact ⟨sl',e2⟩
 free:=fun c ob q n hx=>by
  obtain ⟨o',e1⟩:=a.there c ob q hx
  exact b.free c o' e1 (a.free c ob q n hx) hx
 there:=fun c ob q hx=>by
  obtain ⟨o',e1⟩:=a.there c ob q hx
  exact b.there c o' e1 hx
 tups:=fun c xs q=>b.tups c xs (a.tups c xs q)
 frzs:=fun c ob xs q=>b.frzs c ob xs (a.frzs c ob xs q)
 tbls:=fun c ps q=>by
  obtain ⟨m1,e1⟩:=a.tbls c ps q
  obtain ⟨m2,e2⟩:=b.tbls c _ e1
  exact ⟨m1++m2,by rw [e2];simp [Array.append_assoc]⟩
theorem Un.kept (k:∀ b u,h.get? b=some u→h'.get? b=some u):Un fs ex H H h h':=
 ⟨fun b ob q _ _ _=>k b ob q,fun b ob q _ _ _=>⟨ob.slots,k b ob q⟩,fun _ _ _ n _=>n,fun b ob q _=>⟨ob,k b ob q⟩,fun _ _ q=>q,fun _ _ _ q=>q,fun _ ps q=>⟨#[],by rw [q];simp⟩⟩
theorem Un.refl:Un fs ex H H h h:=Un.kept fun _ _ q=>q
theorem Un.laid (k:∀ b u,h.get? b=some u→h'.get? b=some u) (hp:h.objs.size≤a) (hn:H a=none):Un fs ex H (upd H a o) h h' where
 keep:=fun b u q _ _ _=>k b u q
 slot:=fun b u q _ _ _=>⟨u.slots,k b u q⟩
 free:=fun b u q n _=>by rw [aD (Nat.ne_of_lt (Nat.lt_of_lt_of_le (Heap.lt_size q) hp))];exact n
 there:=fun b u q _=>⟨u,k b u q⟩
 tups:=fun b xs q=>by rw [aD (aM q hn)];exact q
 frzs:=fun b u xs q=>by rw [aD (aM q hn)];exact q
 tbls:=fun b ps q=>⟨#[],by rw [aD (aM q hn),q];simp⟩
theorem Un.write (mu:Mut (H x)) (he:e=x∨H e=some (.own x)) (k:∀ b u,b≠e→h.get? b=some u→h'.get? b=some u) (heo:∃ u,h'.get? e=some u):Un fs ex H (upd H x o) h h':=by
 have hx:∀ b,H b=none→b≠x:=fun b n z=>by subst z;rw [n] at mu;exact mu
 have hb:∀ b,H b=none→b≠e:=fun b n z=>by
  subst z
  rcases he with r | r
  ·exact hx b n r
  ·rw [n] at r;cases r
 have hm:∀ b u,H b=some u→¬Mut (some u)→b≠x:=fun b u q nm z=>by subst z;rw [q] at mu;exact nm mu
 refine ⟨fun b u q n _ _=>k b u (hb b n) q,fun b u q n _ _=>⟨u.slots,k b u (hb b n) q⟩,fun b u q n _=>by rw [aD (hx b n)];exact n,fun b u q _=>?_,
  fun b xs q=>by rw [aD (hm b _ q fun z=>z)];exact q,fun b u xs q=>by rw [aD (hm b _ q fun z=>z)];exact q,fun b ps q=>⟨#[],by rw [aD (hm b _ q fun z=>z),q];simp⟩⟩
 by_cases hbe:b=e
 ·subst hbe;exact heo
 ·exact ⟨u,k b u hbe q⟩
theorem Un.mono (u:Un fs ex H H1 h h1) (hs:∀ b∈fs,b∈fs') (hx:∀ b∈ex,b∈ex'):Un fs' ex' H H1 h h1:=
 ⟨fun b ob q n hb he=>u.keep b ob q n (fun z=>hb (hs b z)) fun z=>he (hx b z),fun _ _ q n _ he=>u.any q n fun z=>he (hx _ z),fun b ob q n he=>u.free b ob q n fun z=>he (hx b z),fun b ob q he=>u.there b ob q fun z=>he (hx b z),u.tups,u.frzs,u.tbls⟩
end
noncomputable def trk (h:Heap) (H:Hp):List Addr:=(List.range h.objs.size).filter fun a=>(H a).isSome
noncomputable def pT (h:Heap) (H:Hp):Heap:=PySem.W.hideAll h (trk h H)
theorem a0N (h:Heap) (H:Hp):(pT h H).objs.size=h.objs.size:=PySem.W.hideAll_size _ _
theorem a2S {h:Heap} {H:Hp} {b:Addr} {o:Obj} (e:h.get? b=some o) (n:H b=none):(pT h H).get? b=some o:=
 PySem.W.hideAll_get _ e fun hm=>by
  have q:(H b).isSome=true:=(List.mem_filter.mp hm).2
  rw [n] at q;simp at q
theorem a4P {h:Heap} {H:Hp} {b:Addr} {o:Obj} (e:(pT h H).get? b=some o):h.get? b=some o∧H b=none:=by
 have e':h.get? b=some o:=PySem.W.of_hideAll (trk h H) e
 refine ⟨e',?_⟩
 cases q:H b with
 | none=>rfl
 | some x=>
  have hm:b∈trk h H:=List.mem_filter.mpr ⟨List.mem_range.mpr (Heap.lt_size e'),by simp [q]⟩
  have z:(pT h H).get? b=none:=PySem.W.hideAll_none (trk h H) hm
  rw [z] at e;cases e
noncomputable def a5V (g h:Heap) (L:Addr):List (Addr×Obj):=(List.range h.objs.size).filterMap fun a=>if a=L∨(g.get? a).isSome=true then none else (h.get? a).map fun o=>(a,o)
noncomputable def rest (g h:Heap) (L d:Addr):List (Addr×Obj):=(a5V g h L).filter fun p=>decide (p.1≠d)
structure Mod (K:PySem.W.Frag) (mg:Str→Option Value) (base:Heap):Prop where
 kin:K.In base
 glob:base.Ns mainGlobals mg
 blt:∃ mb,base.Ns builtinsNs mb∧∀ x:Str,x ≠ "__name__" → mb x=bootBuiltins x
 nolimit:base.NoLimit
structure Cx where
 prog:Program
 w:World
 K:PySem.W.Frag
 mg:Str→Option Value
 base:Heap
 A:Around
 N:List Str
 s₀:Shared
 H₀:Hp
 env:Env
 outer:List Env
 stack:List Env
 ex:List Addr
 fn:Str→Bool
 calm:Bool
 pn:List (Addr×Obj)
 xe:Value→Shared→Prop
noncomputable def frs (l:List Env):List Addr:=l.filterMap (·.frame)
noncomputable abbrev Cx.fs (X:Cx):List Addr:=frs X.outer
noncomputable def Vis (sc:Scope) (x:Str):Prop:=sc.names.lookup x=some .local∨sc.names.lookup x=some .cell∨sc.names.lookup x=some .free
noncomputable def Loc (sc:Scope) (x:Str):Prop:=sc.names.lookup x=some .local∨sc.names.lookup x=some .cell
noncomputable def Look (env:Env) (h:Heap) (m:Str→Option Value) (x:Str) (u:Value):Prop:=
 (env.kindOf x=some .local∧m x=some u)∨((env.kindOf x=some .cell∨env.kindOf x=some .free)∧∃ c,env.cells.lookup x=some c∧h.IsCell c (some u))
structure Cx.Ok (X:Cx):Prop where
 mod:Mod X.K X.mg X.base
 kind:X.env.scope.kind=.function
 glob:X.env.globals=mainGlobals
 blt:X.env.builtins=builtinsNs
 above:X.s₀.heap.objs.size≤X.env.locals
 inj:∀ x y c,X.env.cells.lookup x=some c→X.env.cells.lookup y=some c→x=y
 has:∀ x,(X.env.kindOf x=some .cell∨X.env.kindOf x=some .free)→∃ c,X.env.cells.lookup x=some c
 cab:∀ x c,X.fn x=true→X.env.cells.lookup x=some c→X.s₀.heap.objs.size≤c
 hd:X.calm=true→X.A.handled=none
 frames:X.A.frames=some X.stack
 stk:X.stack=X.outer∨(X.stack=X.env::X.outer∧X.env.frame=some X.env.locals)
 exf:∀ b∈X.ex,b≠X.env.locals∧∀ x c,X.env.cells.lookup x=some c→c≠b
 bs:∀ b o,X.base.get? b=some o→X.s₀.heap.get? b=some o∧X.H₀ b=none
 bsz:X.base.objs.size≤X.s₀.heap.objs.size
 noex:∀ b o,X.base.get? b=some o→b∉X.ex
 exfs:∀ b∈X.ex,b∉X.fs
 funs:X.s₀.heap.FunFrames X.base X.outer
 frf:∀ b∈X.fs,X.H₀ b=none
structure Inv (X:Cx) (pins:List (Addr×Obj)) (σ:List (Option V)) (H:Hp) (s:Shared):Prop where
 ok:X.Ok
 os:s.os=X.s₀.os
 bare:AllBare s.gens
 base:Un X.fs X.ex X.H₀ H X.s₀.heap s.heap
 loc:∃ m,s.heap.Ns X.env.locals m∧∀ (i:Nat) (x:Str) (v:V),X.N[i]?=some x→σ[i]?=some (some v)→Vis X.env.scope x→∃ u,RelV v u∧Look X.env s.heap m x u
 cell:∀ x c,X.env.cells.lookup x=some c→∃ v,s.heap.IsCell c v
 free:H X.env.locals=none
 freeC:∀ x c,X.env.cells.lookup x=some c→H c=none
 pin:∀ p∈X.pn++pins,s.heap.get? p.1=some p.2∧H p.1=none∧p.1≠X.env.locals∧p.1∉X.fs∧∀ v,p.2.data≠.cell v
 hok:HOk X.prog X.w H s.heap
 len:σ.length=X.N.length
section
variable {X:Cx} {pins:List (Addr×Obj)} {σ:List (Option V)} {H H':Hp} {s:Shared} {h':Heap}
theorem Cx.Ok.nofr (ok:X.Ok) {b:Addr} {o:Obj} (e:X.base.get? b=some o):b∉X.fs:=fun hb=>by
 have:=(ok.funs.mem hb).1
 rw [e] at this;cases this
theorem Inv.bs (I:Inv X pins σ H s):∀ b o,X.base.get? b=some o→s.heap.get? b=some o∧H b=none:=fun b o e=>
 ⟨I.base.keep b o (I.ok.bs b o e).1 (I.ok.bs b o e).2 (I.ok.nofr e) (I.ok.noex b o e),I.base.free b o (I.ok.bs b o e).1 (I.ok.bs b o e).2 (I.ok.noex b o e)⟩
theorem Inv.bk (I:Inv X pins σ H s):∀ b o,X.base.get? b=some o→s.heap.get? b=some o:=fun b o e=>(I.bs b o e).1
theorem Inv.mod (I:Inv X pins σ H s):Mod X.K X.mg X.base:=I.ok.mod
theorem Inv.kIn (I:Inv X pins σ H s):X.K.In s.heap:=I.ok.mod.kin.keeps I.bk
theorem Inv.lt (I:Inv X pins σ H s):X.env.locals<s.heap.objs.size:=let ⟨_,hn,_⟩:=I.loc;hn.lt
theorem Inv.sz (I:Inv X pins σ H s):X.s₀.heap.objs.size≤s.heap.objs.size:=Nat.le_trans I.ok.above (Nat.le_of_lt I.lt)
theorem Inv.nofs (I:Inv X pins σ H s) {a:Addr} (h:s.heap.objs.size≤a):a∉X.fs:=fun hb=>by
 obtain ⟨_,o,ho,_⟩:=I.ok.funs.mem hb
 exact absurd (Nat.lt_of_lt_of_le (Heap.lt_size ho) (Nat.le_trans I.sz h)) (Nat.lt_irrefl _)
theorem Inv.cne (I:Inv X pins σ H s):∀ x c,X.env.cells.lookup x=some c→c≠X.env.locals:=fun x c e z=>by
 obtain ⟨v,o,ho,hd⟩:=I.cell x c e
 obtain ⟨m,⟨o',es,ep,ho',hd',_⟩,_⟩:=I.loc
 rw [z,ho'] at ho;cases ho;rw [hd'] at hd;cases hd
theorem Inv.funs (I:Inv X pins σ H s):s.heap.FunFrames X.base X.outer:=by
 have all:∀ (l:List Env),(∀ b∈frs l,b∈X.fs)→X.s₀.heap.FunFrames X.base l→s.heap.FunFrames X.base l:=by
  intro l
  induction l with
  | nil=>intro _ _;trivial
  | cons env r ih=>
   intro hs hl
   obtain ⟨hk,⟨L,o,hf,hn,ho,hd⟩,hr⟩:=hl
   have hL:L∈X.fs:=hs L (by unfold frs;rw [List.filterMap_cons,hf];exact List.mem_cons_self)
   obtain ⟨sl,e⟩:=I.base.slot L o ho (I.ok.frf L hL) hL fun z=>I.ok.exfs L z hL
   exact ⟨hk,⟨L,_,hf,hn,e,hd⟩,ih (fun b hb=>hs b (by unfold frs;rw [List.filterMap_cons,hf];exact List.mem_cons_of_mem _ hb)) hr⟩
 exact all X.outer (fun _ hb=>hb) I.ok.funs
theorem Inv.stack (I:Inv X pins σ H s):s.heap.FunFrames X.base X.stack:=by
 rcases I.ok.stk with e | ⟨e,hf⟩
 ·rw [e];exact I.funs
 ·rw [e]
  obtain ⟨m,hn,_⟩:=I.loc
  refine .cons (by rw [I.ok.kind];decide) hf hn ?_ I.funs
  exact Heap.get?_none_of_le (Nat.le_trans I.ok.bsz I.ok.above)
theorem Inv.stkSub (I:Inv X pins σ H s):∀ b∈frs X.stack,b∈X.env.locals::X.fs:=fun b hb=>by
 rcases I.ok.stk with e | ⟨e,hf⟩
 ·rw [e] at hb;exact List.mem_cons_of_mem _ hb
 ·rw [e] at hb
  unfold frs at hb
  rw [List.filterMap_cons,hf] at hb
  exact hb
theorem Inv.stkFree (I:Inv X pins σ H s):∀ b∈frs X.stack,H b=none:=fun b hb=>by
 rcases List.mem_cons.mp (I.stkSub b hb) with e | hb
 ·rw [e];exact I.free
 ·obtain ⟨_,o,ho,_⟩:=I.ok.funs.mem hb
  exact I.base.free b o ho (I.ok.frf b hb) fun z=>I.ok.exfs b z hb
theorem Inv.step {g':Array GenState} {t':Nat} {d':Drawn} {ch:List Addr} (I:Inv X pins σ H s)
  (hch:∀ b∈ch,(b∈X.ex∨X.s₀.heap.objs.size≤b)∧b≠X.env.locals∧(∀ x c,X.env.cells.lookup x=some c→c≠b)∧∀ p∈X.pn++pins,p.1≠b)
  (keep:∀ b o,b≠X.env.locals→b∉X.fs→b∉ch→s.heap.get? b=some o→H b=none→h'.get? b=some o)
  (slot:∀ b o,b≠X.env.locals→b∈X.fs→b∉ch→s.heap.get? b=some o→H b=none→∃ sl,h'.get? b=some { o with slots:=sl }) (free:∀ b o,b∉ch→s.heap.get? b=some o→H b=none→H' b=none)
  (there:∀ b o,b∉ch→s.heap.get? b=some o→∃ o',h'.get? b=some o')
  (tups:∀ b xs,H b=some (.tup xs)→H' b=some (.tup xs)) (frzs:∀ b o u,H b=some (.frz o u)→H' b=some (.frz o u)) (tbls:∀ b ps,H b=some (.tbl ps)→∃ more,H' b=some (.tbl (ps.1,ps.2++more)))
  (ns:∀ m,s.heap.Ns X.env.locals m→h'.Ns X.env.locals m) (hok:HOk X.prog X.w H' h') (hg:AllBare g') :
  Inv X pins σ H' { s with heap:=h',gens:=g',drawn:=d',toks:=t' }:=by
 have neL:∀ b o,X.s₀.heap.get? b=some o→b≠X.env.locals:=fun b o e=>Nat.ne_of_lt (Nat.lt_of_lt_of_le (Heap.lt_size e) I.ok.above)
 have neC:∀ b o,X.s₀.heap.get? b=some o→b∉X.ex→b∉ch:=fun b o e hx hb=>by
  rcases (hch b hb).1 with z | z
  ·exact hx z
  ·exact absurd (Nat.lt_of_lt_of_le (Heap.lt_size e) z) (Nat.lt_irrefl _)
 have cellK:∀ x c,X.env.cells.lookup x=some c→∀ v,s.heap.IsCell c v→h'.IsCell c v:=fun x c e v ⟨o,ho,hd⟩=>by
  have nch:c∉ch:=fun z=>(hch c z).2.2.1 x c e rfl
  by_cases hc:c∈X.fs
  ·obtain ⟨sl,q⟩:=slot c o (I.cne x c e) hc nch ho (I.freeC x c e)
   exact ⟨_,q,hd⟩
  ·exact ⟨o,keep c o (I.cne x c e) hc nch ho (I.freeC x c e),hd⟩
 refine ⟨I.ok,I.os,hg,⟨fun b o e n hb hx=>?_,fun b o e n hb hx=>?_,fun b o e n hx=>?_,fun b o e hx=>?_,fun b xs e=>tups b xs (I.base.tups b xs e),fun b o xs e=>frzs b o xs (I.base.frzs b o xs e),fun b ps e=>?_⟩,?_,fun x c e=>?_,?_,fun x c e=>?_,fun p hp=>?_,hok,I.len⟩
 ·exact keep b o (neL b o e) hb (neC b o e hx) (I.base.keep b o e n hb hx) (I.base.free b o e n hx)
 ·obtain ⟨sl,e1⟩:=I.base.slot b o e n hb hx
  obtain ⟨sl',e2⟩:=slot b _ (neL b o e) hb (neC b o e hx) e1 (I.base.free b o e n hx)
  exact ⟨sl',e2⟩
 ·obtain ⟨o',e1⟩:=I.base.there b o e hx
  exact free b o' (neC b o e hx) e1 (I.base.free b o e n hx)
 ·obtain ⟨o',e1⟩:=I.base.there b o e hx
  exact there b o' (neC b o e hx) e1
 ·obtain ⟨m1,e1⟩:=I.base.tbls b ps e
  obtain ⟨m2,e2⟩:=tbls b _ e1
  exact ⟨m1++m2,by rw [e2];simp [Array.append_assoc]⟩
 ·obtain ⟨m,hn,hl⟩:=I.loc
  refine ⟨m,ns m hn,fun i x v e1 e2 e3=>?_⟩
  obtain ⟨u,r,l⟩:=hl i x v e1 e2 e3
  refine ⟨u,r,?_⟩
  rcases l with l | ⟨k,c,e,z⟩
  ·exact .inl l
  ·exact .inr ⟨k,c,e,cellK x c e _ z⟩
 ·obtain ⟨v,z⟩:=I.cell x c e
  exact ⟨v,cellK x c e v z⟩
 ·obtain ⟨m,⟨o,_,_,ho,_⟩,_⟩:=I.loc
  exact free _ o (fun z=>(hch _ z).2.1 rfl) ho I.free
 ·obtain ⟨v,o,ho,hd⟩:=I.cell x c e
  exact free c o (fun z=>(hch c z).2.2.1 x c e rfl) ho (I.freeC x c e)
 ·obtain ⟨e,n,ne,nf,d⟩:=I.pin p hp
  have nch:p.1∉ch:=fun z=>(hch p.1 z).2.2.2 p hp rfl
  exact ⟨keep p.1 p.2 ne nf nch e n,free p.1 p.2 nch e n,ne,nf,d⟩
theorem Inv.un {t':Nat} (I:Inv X pins σ H s) (u:Un X.fs [] H H' s.heap h') (hok:HOk X.prog X.w H' h'):Inv X pins σ H' { s with heap:=h',toks:=t' }:=by
 obtain ⟨m,⟨o,es,ep,ho,r⟩,_⟩:=id I.loc
 obtain ⟨sl,hL⟩:=u.any ho I.free (by simp)
 exact I.step (g':=s.gens) (d':=s.drawn) (ch:=[]) (fun _ z=>nomatch z) (fun b o _ hb _ e n=>u.keep b o e n hb (by simp)) (fun b o _ hb _ e n=>u.slot b o e n hb (by simp)) (fun b o _ e n=>u.free b o e n (by simp)) (fun b o _ e=>u.there b o e (by simp)) u.tups u.frzs u.tbls (fun m' hm=>by
  obtain ⟨o',es',ep',ho',r'⟩:=hm
  rw [ho] at ho';cases ho'
  exact ⟨_,es',ep',hL,r'⟩) hok I.bare
theorem Inv.call {g':Array GenState} {t':Nat} {d':Drawn} {ch:List Addr} (I:Inv X pins σ H s) (u:Un (frs X.stack) ch H H' s.heap h') (hok:HOk X.prog X.w H' h') (hg:AllBare g')
  (hch:∀ b∈ch,(b∈X.ex∨X.s₀.heap.objs.size≤b)∧b≠X.env.locals∧(∀ x c,X.env.cells.lookup x=some c→c≠b)∧∀ p∈X.pn++pins,p.1≠b) :
  Inv X pins σ H' { s with heap:=h',gens:=g',drawn:=d',toks:=t' }:=by
 obtain ⟨m,⟨o,es,ep,ho,r⟩,_⟩:=id I.loc
 obtain ⟨sl,hL⟩:=u.any ho I.free fun z=>(hch _ z).2.1 rfl
 exact I.step (ch:=ch) hch (fun b o hL hb hc e n=>u.keep b o e n (fun z=>(List.mem_cons.mp (I.stkSub b z)).elim hL hb) hc) (fun b o _ _ hc e n=>u.any e n hc) (fun b o hc e n=>u.free b o e n hc) (fun b o hc e=>u.there b o e hc) u.tups u.frzs u.tbls (fun m' hm=>by
  obtain ⟨o',es',ep',ho',r'⟩:=hm
  rw [ho] at ho';cases ho'
  exact ⟨_,es',ep',hL,r'⟩) hok hg
theorem Inv.turned {t':Nat} {it:Addr} (I:Inv X pins σ H s) (k:∀ b o,b≠it→s.heap.get? b=some o→h'.get? b=some o) (hn:H it=none) (hL:it≠X.env.locals)
  (h1:it∈X.ex∨X.s₀.heap.objs.size≤it) (h2:∀ x c,X.env.cells.lookup x=some c→c≠it) (h3:∀ p∈X.pn++pins,p.1≠it):Inv X pins σ H { s with heap:=h',toks:=t' }:=by
 have nit:∀ b u,H b=some u→b≠it:=fun b u e z=>by rw [z,hn] at e;cases e
 refine I.step (g':=s.gens) (d':=s.drawn) (ch:=[it]) (fun b hb=>?_) (fun b o _ _ hc e _=>k b o (fun z=>hc (by simp [z])) e) (fun b o _ _ hc e _=>⟨o.slots,k b o (fun z=>hc (by simp [z])) e⟩) (fun _ _ _ _ n=>n)
  (fun b o hc e=>⟨o,k b o (fun z=>hc (by simp [z])) e⟩) (fun _ _ e=>e) (fun _ _ _ e=>e) (fun b ps e=>⟨#[],by rw [e];simp⟩) (fun m hm=>?_) (fun b u e=>?_) I.bare
 ·have e:b=it:=by simpa using hb
  subst e
  exact ⟨h1,hL,h2,h3⟩
 ·obtain ⟨o,es,ep,ho,r⟩:=hm
  exact ⟨o,es,ep,k _ o (Ne.symm hL) ho,r⟩
 ·refine (I.hok b u e).stay (fun c v hc q=>k c v ?_ q) (fun _ q=>q) fun _ _ q=>q
  rcases hc with z | z
  ·rw [z];exact nit b u e
  ·exact nit c _ z
theorem Inv.tok (I:Inv X pins σ H s) (t:Nat):Inv X pins σ H { s with toks:=t }:=I.un (h':=s.heap) (t':=t) Un.refl I.hok
theorem Inv.kept {t':Nat} (I:Inv X pins σ H s) (k:∀ b u,s.heap.get? b=some u→h'.get? b=some u):Inv X pins σ H { s with heap:=h',toks:=t' }:=I.un (Un.kept k) (I.hok.kept k)
theorem Inv.laid {a:Addr} {o:HO} {t':Nat} (I:Inv X pins σ H s) (k:∀ b u,s.heap.get? b=some u→h'.get? b=some u) (hp:s.heap.objs.size≤a) (new:bR X.prog X.w (upd H a o) h' a o) :
  Inv X pins σ (upd H a o) { s with heap:=h',toks:=t' }:=I.un (Un.laid k hp (I.hok.fresh hp)) (I.hok.laid k hp new)
theorem Inv.write {x e:Addr} {o:HO} {t':Nat} (I:Inv X pins σ H s) (mu:Mut (H x)) (he:e=x∨H e=some (.own x)) (k:∀ b u,b≠e→s.heap.get? b=some u→h'.get? b=some u) (heo:∃ u,h'.get? e=some u)
  (new:bR X.prog X.w (upd H x o) h' x o):Inv X pins σ (upd H x o) { s with heap:=h',toks:=t' }:=I.un (Un.write mu he k heo) (I.hok.write mu he k heo new)
theorem Inv.pins_of {pins':List (Addr×Obj)} (I:Inv X pins σ H s) (h:∀ p∈pins',s.heap.get? p.1=some p.2∧H p.1=none∧p.1≠X.env.locals∧p.1∉X.fs∧∀ v,p.2.data≠.cell v):Inv X pins' σ H s:=
 ⟨I.ok,I.os,I.bare,I.base,I.loc,I.cell,I.free,I.freeC,fun p hp=>(List.mem_append.mp hp).elim (fun z=>I.pin p (List.mem_append_left _ z)) (h p),I.hok,I.len⟩
theorem oN {N:List Str} (hN:N.Nodup) {i j:Nat} {x:Str} (a:N[i]?=some x) (b:N[j]?=some x):i=j:=by
 obtain ⟨h1,e1⟩:=List.getElem?_eq_some_iff.mp a
 obtain ⟨h2,e2⟩:=List.getElem?_eq_some_iff.mp b
 exact (List.getElem_inj hN).mp (e1.trans e2.symm)
theorem qC {M:Model} {A:Around} {E:Value→Shared→Prop} {i:Nat} {x:Str} {v:V} {u:Value} {Q:Unit→Shared→Prop} (I:Inv X pins σ H s) (hN:X.N.Nodup) (hi:X.N[i]?=some x) (hx:Loc X.env.scope x) (r:RelV v u)
  (h:∀ s',Inv X pins (σ.set i (some v)) H s'→(∃ a,Heap.SameBut a s.heap s'.heap∧(a=X.env.locals∨X.env.cells.lookup x=some a))→Q () s') (hf:X.fn x=true∨X.env.scope.names.lookup x=some .local:=by first | exact .inl rfl | exact .inr rfl | assumption):wpAny M A (storeName X.env x u) Q E s:=by
 obtain ⟨m,hn,hl⟩:=id I.loc
 have hcls:(X.env.scope.kind==.class || (X.env.scope.kind==.module&&X.env.locals != X.env.globals))=false:=by rw [I.ok.kind];rfl
 have hiσ:i<σ.length:=by rw [I.len];exact (List.getElem?_eq_some_iff.mp hi).1
 have cne:=I.cne
 have tracked:∀ {a:Addr} {h':Heap},(∃ o,s.heap.get? a=some o∧H a=none)→Heap.SameBut a s.heap h'→HOk X.prog X.w H h':=fun {a h'} ha hs b ob e=>by
  obtain ⟨_,_,hfree⟩:=ha
  refine (I.hok b ob e).stay (fun c w' hc q=>(hs.2 c ?_).trans q) (fun _ q=>q) fun _ _ q=>q
  rintro rfl
  rcases hc with rfl | hc
  ·rw [hfree] at e;cases e
  ·rw [hfree] at hc;cases hc
 rcases hx with hk | hk
 ·refine wpAny_storeName_local hk hn (fun h' hn' hs=>?_) hcls
  obtain ⟨oL,_,_,hoL,_⟩:=id hn
  refine h _ ⟨I.ok,I.os,I.bare,⟨fun b o e n hb hx=>?_,fun b o e n hb hx=>?_,I.base.free,fun b o e hx=>?_,I.base.tups,I.base.frzs,I.base.tbls⟩,⟨_,hn',fun j y v' e1 e2 e3=>?_⟩,fun y c e=>?_,I.free,I.freeC,fun p hp=>?_,tracked ⟨oL,hoL,I.free⟩ hs,by simpa using I.len⟩ ⟨_,hs,.inl rfl⟩
  ·exact (hs.2 b (Nat.ne_of_lt (Nat.lt_of_lt_of_le (Heap.lt_size e) I.ok.above))).trans (I.base.keep b o e n hb hx)
  ·obtain ⟨sl,e1⟩:=I.base.slot b o e n hb hx
   exact ⟨sl,(hs.2 b (Nat.ne_of_lt (Nat.lt_of_lt_of_le (Heap.lt_size e) I.ok.above))).trans e1⟩
  ·obtain ⟨o',e1⟩:=I.base.there b o e hx
   exact ⟨o',(hs.2 b (Nat.ne_of_lt (Nat.lt_of_lt_of_le (Heap.lt_size e) I.ok.above))).trans e1⟩
  ·by_cases hj:j=i
   ·subst hj
    rw [hi] at e1;cases e1
    rw [List.getElem?_set_self hiσ] at e2
    cases e2
    exact ⟨u,r,.inl ⟨hk,by simp⟩⟩
   ·rw [List.getElem?_set_ne (Ne.symm hj)] at e2
    obtain ⟨u',r',q⟩:=hl j y v' e1 e2 e3
    refine ⟨u',r',?_⟩
    rcases q with ⟨k,e⟩ | ⟨k,c,e,z⟩
    ·refine .inl ⟨k,?_⟩
     have:y≠x:=fun e=>hj (oN hN e1 (e▸hi))
     simp [this,e]
    ·exact .inr ⟨k,c,e,z.sameBut hs (cne y c e)⟩
  ·obtain ⟨w',z⟩:=I.cell y c e
   exact ⟨w',z.sameBut hs (cne y c e)⟩
  ·obtain ⟨e,n,ne,nf,d⟩:=I.pin p hp
   exact ⟨(hs.2 p.1 ne).trans e,n,ne,nf,d⟩
 ·have hfn:X.fn x=true:=by
   rcases hf with z | z
   ·exact z
   ·rw [z] at hk;cases hk
  obtain ⟨c,hc⟩:=I.ok.has x (.inl hk)
  obtain ⟨w',z⟩:=I.cell x c hc
  refine wpAny_storeName_cell I.ok.kind hk hc z (fun h' hc' hs=>?_)
  obtain ⟨oc,hoc,hocd⟩:=id z
  refine h { s with heap:=h' } ⟨I.ok,I.os,I.bare,⟨fun b o e n hb hx=>?_,fun b o e n hb hx=>?_,I.base.free,fun b o e hx=>?_,I.base.tups,I.base.frzs,I.base.tbls⟩,⟨m,hn.sameBut hs (Ne.symm (cne x c hc)),fun j y v' e1 e2 e3=>?_⟩,fun y c' e=>?_,I.free,I.freeC,fun p hp=>?_,tracked ⟨oc,hoc,I.freeC x c hc⟩ hs,by simpa using I.len⟩ ⟨c,hs,.inr hc⟩
  ·exact (hs.2 b (Nat.ne_of_lt (Nat.lt_of_lt_of_le (Heap.lt_size e) (I.ok.cab x c hfn hc)))).trans (I.base.keep b o e n hb hx)
  ·obtain ⟨sl,e1⟩:=I.base.slot b o e n hb hx
   exact ⟨sl,(hs.2 b (Nat.ne_of_lt (Nat.lt_of_lt_of_le (Heap.lt_size e) (I.ok.cab x c hfn hc)))).trans e1⟩
  ·obtain ⟨o',e1⟩:=I.base.there b o e hx
   exact ⟨o',(hs.2 b (Nat.ne_of_lt (Nat.lt_of_lt_of_le (Heap.lt_size e) (I.ok.cab x c hfn hc)))).trans e1⟩
  ·by_cases hj:j=i
   ·subst hj
    rw [hi] at e1;cases e1
    rw [List.getElem?_set_self hiσ] at e2
    cases e2
    exact ⟨u,r,.inr ⟨.inl hk,c,hc,hc'⟩⟩
   ·rw [List.getElem?_set_ne (Ne.symm hj)] at e2
    obtain ⟨u',r',q⟩:=hl j y v' e1 e2 e3
    refine ⟨u',r',?_⟩
    rcases q with q | ⟨k,c',e,z'⟩
    ·exact .inl q
    ·refine .inr ⟨k,c',e,z'.sameBut hs ?_⟩
     rintro rfl
     exact hj (oN hN e1 (I.ok.inj _ _ _ e hc▸hi))
  ·by_cases hcc:c'=c
   ·subst hcc;exact ⟨_,hc'⟩
   ·obtain ⟨w2,z2⟩:=I.cell y c' e
    exact ⟨w2,z2.sameBut hs hcc⟩
  ·obtain ⟨e,n,ne,nf,d⟩:=I.pin p hp
   refine ⟨(hs.2 p.1 ?_).trans e,n,ne,nf,d⟩
   intro q
   rw [q,hoc] at e
   have q':oc=p.2:=Option.some.inj e
   exact d w' (by rw [←q'];exact hocd)
theorem nS {M:Model} {A:Around} {E:Value→Shared→Prop} {i:Nat} {x:Str} {v:V} {u:Value} {Q:Unit→Shared→Prop} (I:Inv X pins σ H s) (hN:X.N.Nodup) (hi:X.N[i]?=some x) (hx:Loc X.env.scope x) (r:RelV v u)
  (h:∀ s',Inv X pins (σ.set i (some v)) H s'→Q () s') (hf:X.fn x=true∨X.env.scope.names.lookup x=some .local:=by first | exact .inl rfl | exact .inr rfl | assumption):wpAny M A (storeName X.env x u) Q E s:=
 qC I hN hi hx r (fun s' I' _=>h s' I') hf
theorem Inv.call' {s':Shared} {ch:List Addr} (I:Inv X pins σ H s) (ho:s'.os=s.os) (u:Un (frs X.stack) ch H H' s.heap s'.heap) (hok:HOk X.prog X.w H' s'.heap) (hg:AllBare s'.gens)
  (hch:∀ b∈ch,(b∈X.ex∨X.s₀.heap.objs.size≤b)∧b≠X.env.locals∧(∀ x c,X.env.cells.lookup x=some c→c≠b)∧∀ p∈X.pn++pins,p.1≠b):Inv X pins σ H' s':=by
 obtain ⟨h',g',d',t',o'⟩:=s'
 have e:o'=s.os:=ho
 subst e
 exact I.call (g':=g') (t':=t') (d':=d') u hok hg hch
end
noncomputable abbrev XK:=Value→Option Addr→Hp→Prop
noncomputable abbrev St:=List (Option V)
noncomputable abbrev VK:=V→Hp→Prop
noncomputable abbrev TE:=St→Hp→VK→Prop
noncomputable abbrev TT:=St→Hp→(Bool→Hp→Prop)→Prop
noncomputable abbrev TA:=St→Hp→(List V→Hp→Prop)→Prop
structure Ends where
 nx:St→Hp→Prop
 rt:VK
 bk:St→Hp→Prop:=fun _ _=>False
 ct:St→Hp→Prop:=fun _ _=>False
noncomputable abbrev TS:=Ends→St→Hp→Prop
noncomputable def EP (X:Cx) (pins:List (Addr×Obj)) (σ:St) (Q:VK) (u:Value) (s':Shared):Prop:=∃ v H',Inv X pins σ H' s'∧RelV v u∧Q v H'
noncomputable def TP (X:Cx) (pins:List (Addr×Obj)) (σ:St) (Q:Bool→Hp→Prop) (b:Bool) (s':Shared):Prop:=∃ H',Inv X pins σ H' s'∧Q b H'
noncomputable def AP (X:Cx) (pins:List (Addr×Obj)) (σ:St) (Q:List V→Hp→Prop) (us:List Value) (s':Shared):Prop:=∃ vs H',Inv X pins σ H' s'∧aR vs us∧Q vs H'
noncomputable def SP (X:Cx) (pins:List (Addr×Obj)) (D:Ends) (f:Flow) (s':Shared):Prop:=
 match f with
 | .next=>∃ σ' H',Inv X pins σ' H' s'∧D.nx σ' H'
 | .brk=>∃ σ' H',Inv X pins σ' H' s'∧D.bk σ' H'
 | .cont=>∃ σ' H',Inv X pins σ' H' s'∧D.ct σ' H'
 | .ret u=>∃ v σ' H',Inv X pins σ' H' s'∧RelV v u∧D.rt v H'
noncomputable def PE (X:Cx) (e:Expr) (t:TE):Prop:=
 ∀ (pins:List (Addr×Obj)) (s:Shared) (σ:St) (H:Hp) (Q:VK),Inv X pins σ H s→t σ H Q→wpAny (model X.prog X.w) X.A (eval e X.env) (EP X pins σ Q) X.xe s
noncomputable def PT (X:Cx) (e:Expr) (t:TT):Prop:=
 ∀ (pins:List (Addr×Obj)) (s:Shared) (σ:St) (H:Hp) (Q:Bool→Hp→Prop),Inv X pins σ H s→t σ H Q→wpAny (model X.prog X.w) X.A (isTrue e X.env (eval e X.env)) (TP X pins σ Q) X.xe s
noncomputable def PW (X:Cx) (e:Expr) (t:TT):Prop:=
 ∀ (whole:Sem Value) (pins:List (Addr×Obj)) (s:Shared) (σ:St) (H:Hp) (Q:Bool→Hp→Prop),Inv X pins σ H s→t σ H Q→wpAny (model X.prog X.w) X.A (isTrue e X.env whole) (TP X pins σ Q) X.xe s
noncomputable def PA (X:Cx) (es:List Expr) (t:TA):Prop:=
 ∀ (pos:Pos) (pins:List (Addr×Obj)) (s:Shared) (σ:St) (H:Hp) (Q:List V→Hp→Prop),Inv X pins σ H s→t σ H Q→wpAny (model X.prog X.w) X.A (spliced (backTo pos (starEach es X.env))) (AP X pins σ Q) X.xe s
noncomputable def PS (X:Cx) (st:Stmt) (t:TS):Prop:=
 ∀ (pins:List (Addr×Obj)) (s:Shared) (σ:St) (H:Hp) (D:Ends),Inv X pins σ H s→t D σ H→wpAny (model X.prog X.w) X.A (exec st X.env) (SP X pins D) X.xe s
noncomputable def PSs (X:Cx) (st:List Stmt) (t:TS):Prop:=
 ∀ (pins:List (Addr×Obj)) (s:Shared) (σ:St) (H:Hp) (D:Ends),Inv X pins σ H s→t D σ H→wpAny (model X.prog X.w) X.A (execs st X.env) (SP X pins D) X.xe s
theorem thn {α:Type} {t:Sem α} {Q Q':α→Shared→Prop} {M:Model} {A:Around} {E:Value→Shared→Prop} {s:Shared} (h:wpAny M A t Q E s) (hQ:∀ a s,Q a s→Q' a s):wpAny M A t Q' E s:=wpAny_mono h hQ fun _ _ x=>x
section
variable {X:Cx}
noncomputable def tVar (i:Nat):TE:=fun σ H Q=>∃ v,σ[i]?=some (some v)∧Q v H
noncomputable def tC (v:V):TE:=fun _ H Q=>Q v H
theorem eF {i:Nat} {x:Str} {pos:Pos} (hN:X.N[i]?=some x) (hv:Vis X.env.scope x) (hd:(x==("__debug__" : Str))=false:=by decide) (hcd:(x==("__classdict__" : Str))=false:=by decide):PE X (.Name x pos) (tVar i):=by
 intro pins s σ H Q I h
 obtain ⟨v,e,h⟩:=h
 obtain ⟨m,hn,hl⟩:=I.loc
 obtain ⟨u,r,l⟩:=hl i x v hN e hv
 have fin:EP X pins σ Q u s:=⟨v,H,I,r,h⟩
 rcases l with ⟨hk,hm⟩ | ⟨hk,c,hc,hcell⟩
 ·exact wpAny_Name (wpAny_loadName_local I.ok.kind hk hn hm fin) hd
 ·rcases hk with hk | hk
  ·exact wpAny_Name (wpAny_loadName_cell I.ok.kind hk hc hcell fin) hd
  ·exact wpAny_Name (wpAny_loadName_free I.ok.kind hk hc hcell fin hcd) hd
theorem pe_int {i j pos}:PE X (.Constant (.int i) j pos) (tC (.int i)):=fun _ _ _ H _ I h=>wpAny_Constant_int ⟨.int i,H,I.tok _,⟨_,rfl⟩,h⟩
theorem pe_bl {b j pos}:PE X (.Constant (.bool b) j pos) (tC (.bl b)):=fun _ _ _ H _ I h=>Constant_bool ⟨.bl b,H,I,rfl,h⟩
theorem a1V {j pos}:PE X (.Constant .none j pos) (tC .non):=fun _ _ _ H _ I h=>Constant_none ⟨.non,H,I,rfl,h⟩
theorem a1T {x j pos}:PE X (.Constant (.str x) j pos) (tC (.str x)):=fun _ _ _ H _ I h=>Calls.Constant_str ⟨.str x,H,I.tok _,⟨_,rfl⟩,h⟩
noncomputable def Gl (X:Cx) (x:Str):Prop:=X.env.kindOf x=some .globalImplicit
theorem kK {E:Value→Shared→Prop} {pins:List (Addr×Obj)} {s:Shared} {σ:St} {H:Hp} {x:Str} {u:Value} {pos:Pos} {Q:Value→Shared→Prop} (I:Inv X pins σ H s) (hg:Gl X x) (hm:X.mg x=some u) (h:Q u s)
  (hd:(x==("__debug__" : Str))=false:=by decide):wpAny (model X.prog X.w) X.A (eval (.Name x pos) X.env) Q E s:=
 Calls.Name_function_global I.ok.kind hg (Calls.loadGlobal_global (by rw [I.ok.glob];exact I.mod.glob.keeps I.bk) hm h) hd
theorem iG {E:Value→Shared→Prop} {pins:List (Addr×Obj)} {s:Shared} {σ:St} {H:Hp} {x:Str} {u:Value} {pos:Pos} {Q:Value→Shared→Prop} (I:Inv X pins σ H s) (hg:Gl X x) (hm:X.mg x=none) (hv:bootBuiltins x=some u) (h:Q u s)
  (hn:x ≠ "__name__":=by decide) (hd:(x==("__debug__" : Str))=false:=by decide):wpAny (model X.prog X.w) X.A (eval (.Name x pos) X.env) Q E s:=by
 obtain ⟨mb,h1,h2⟩:=I.mod.blt
 exact Calls.Name_function_global I.ok.kind hg (Calls.loadGlobal_builtin (by rw [I.ok.glob];exact I.mod.glob.keeps I.bk) hm (by rw [I.ok.blt];exact h1.keeps I.bk) ((h2 x hn).trans hv) h) hd
theorem a4C {x:Str} {v:V} {u:Value} {pos:Pos} (hg:Gl X x) (hm:X.mg x=some u) (r:RelV v u) (hd:(x==("__debug__" : Str))=false:=by decide):PE X (.Name x pos) (tC v):=
 fun _ _ _ H _ I h=>kK I hg hm ⟨v,H,I,r,h⟩ hd
theorem a4E {x:Str} {v:V} {u:Value} {pos:Pos} (hg:Gl X x) (hm:X.mg x=none) (hv:bootBuiltins x=some u) (r:RelV v u) (hn:x ≠ "__name__":=by decide) (hd:(x==("__debug__" : Str))=false:=by decide):PE X (.Name x pos) (tC v):=
 fun _ _ _ H _ I h=>iG I hg hm hv ⟨v,H,I,r,h⟩ hn hd
variable {a b:Expr} {ta tb:TE} {pos:Pos}
variable {tA tB':TT} {rest:List Expr}
noncomputable def tOr (t u:TT):TT:=fun σ H Q=>t σ H fun c H1=>if c=true then Q true H1 else u σ H1 Q
noncomputable def tNot (t:TT):TT:=fun σ H Q=>t σ H fun c H1=>Q (!c) H1
theorem pw_or1 (ha:PT X a tA):PW X (.BoolOp .Or [a] pos) tA:=by
 intro wh pins s σ H Q I h
 refine isTrue_or (thn (ha pins s σ H Q I h) fun c s1 e=>?_)
 cases c with
 | false=>exact isTrue_or_nil e
 | true=>exact e
theorem pw_or (ha:PT X a tA) (hb:PW X (.BoolOp .Or (b::rest) pos) tB'):PW X (.BoolOp .Or (a::b::rest) pos) (tOr tA tB'):=by
 intro wh pins s σ H Q I h
 refine isTrue_or (thn (ha pins s σ H _ I h) fun c s1 ⟨H1,I1,q1⟩=>?_)
 cases c with
 | true=>exact ⟨H1,I1,q1⟩
 | false=>exact hb wh pins s1 σ H1 Q I1 q1
theorem pt_not (ha:PT X a tA):PT X (.UnaryOp .Not a pos) (tNot tA):=by
 intro pins s σ H Q I h
 exact isTrue_not (ha pins s σ H (fun c H1=>Q (!c) H1) I h)
noncomputable def tAndV (ta tb:TE):TE:=fun σ H Q=>ta σ H fun x H1=>∃ c,x=.bl c∧if c=true then tb σ H1 Q else Q (.bl false) H1
theorem pe_one {op} {t:TE} (h:PE X a t):PE X (.BoolOp op [a] pos) t:=fun pins s σ H Q I hw=>BoolOp_one (h pins s σ H Q I hw)
theorem pe_and (ha:PE X a ta) (hb:PE X (.BoolOp .And (b::rest) pos) tb):PE X (.BoolOp .And (a::b::rest) pos) (tAndV ta tb):=by
 intro pins s σ H Q I h
 refine BoolOp_and (thn (ha pins s σ H _ I h) fun v s1 ⟨x,H1,I1,r1,q1⟩=>?_)
 obtain ⟨c,rfl,q1⟩:=q1
 cases r1
 refine wpAny_truthy_bool ?_
 cases c with
 | true=>exact hb pins s1 σ H1 Q I1 q1
 | false=>exact ⟨.bl false,H1,I1,rfl,q1⟩
end
noncomputable def SqL (K:PySem.W.Frag) (H:Hp) (a:Addr) (xs:List V):Prop:=
 Rd H a (.lst xs) ∨
  ∃ (o:Obj) (its:Array Value) (n:Nat),K.lookup a=some o∧o.cls=.type "list" ∧ o.dict=none∧o.data=.seq its n∧its.size≤sizeLine∧aR xs its.toList
noncomputable def SqT (K:PySem.W.Frag) (H:Hp) (a:Addr) (xs:List V):Prop:=
 Rd H a (.tup xs) ∨
  ∃ (o:Obj) (its:Array Value) (n:Nat),K.lookup a=some o∧o.cls=.type "tuple" ∧ o.data=.seq its n∧its.size≤sizeLine∧aR xs its.toList
noncomputable def absV:Value→Option V
 | .none=>some .non
 | .bool b=>some (.bl b)
 | .int i _=>some (.int i)
 | .str x _=>some (.str x)
 | .bytes b _=>some (.byt b)
 | .float b _=>some (.flt b)
 | .ref a=>some (.ref a)
 | .type n=>some (.ty n)
 | _=>none
theorem RelV.abs {x:V} {u:Value} (r:RelV x u):absV u=some x:=by
 cases x with
 | non=>cases r;rfl
 | bl _=>cases r;rfl
 | int _=>obtain ⟨t,rfl⟩:=r;rfl
 | str _=>obtain ⟨t,rfl⟩:=r;rfl
 | byt _=>obtain ⟨t,rfl⟩:=r;rfl
 | flt _=>obtain ⟨t,rfl⟩:=r;rfl
 | ref _=>cases r;rfl
 | ty _=>cases r;rfl
theorem RelV.inj {x y:V} {u:Value} (r:RelV x u) (q:RelV y u):x=y:=Option.some.inj (r.abs.symm.trans q.abs)
theorem aR.inj:∀ {xs ys:List V} {us:List Value},aR xs us→aR ys us→xs=ys
 | _,_,_,.nil,.nil=>rfl
 | _,_,_,.cons r t,.cons r' t'=>by rw [r.inj r',aR.inj t t']
section
variable {X:Cx} {pins:List (Addr×Obj)} {σ:St} {H:Hp} {s:Shared} {a:Addr} {xs ys:List V}
theorem SqL.of {K:PySem.W.Frag} (h:H a=some (.lst xs)):SqL K H a xs:=.inl (.inl h)
theorem SqT.of {K:PySem.W.Frag} (h:H a=some (.tup xs)):SqT K H a xs:=.inl (.inl h)
theorem Inv.list (I:Inv X pins σ H s) (h:SqL X.K H a xs):∃ its:List Value,aR xs its∧PlainL s.heap a its.toArray∧xs.length≤sizeLine:=by
 rcases h with h | ⟨o,its,n,hk,hc,hd,hs,hz,r⟩
 ·obtain ⟨z,its,n,r,e⟩:=h.ok I.hok
  exact ⟨its,r,⟨_,n,e,rfl,rfl,rfl⟩,z⟩
 ·refine ⟨its.toList,r,⟨o,n,I.kIn a o hk,hc,hd,by simpa using hs⟩,?_⟩
  have e:=r.length
  simp only [Array.length_toList] at e
  omega
theorem Inv.tuple (I:Inv X pins σ H s) (h:SqT X.K H a xs):∃ its:List Value,aR xs its∧IsTup s.heap a its.toArray∧xs.length≤sizeLine:=by
 rcases h with h | ⟨o,its,n,hk,hc,hs,hz,r⟩
 ·obtain ⟨z,its,r,p⟩:=h.ok I.hok
  exact ⟨its,r,p,z⟩
 ·refine ⟨its.toList,r,⟨o,I.kIn a o hk,hc,n,by simpa using hs⟩,?_⟩
  have e:=r.length
  simp only [Array.length_toList] at e
  omega
theorem Inv.list_inj (I:Inv X pins σ H s) (h:SqL X.K H a xs) (h':SqL X.K H a ys):xs=ys:=by
 obtain ⟨its,r,⟨o,n,e,_,_,d⟩,_⟩:=I.list h
 obtain ⟨its',r',⟨o',n',e',_,_,d'⟩,_⟩:=I.list h'
 rw [e] at e';cases e'
 rw [d] at d'
 injection d' with d1 _
 have:its=its':=by simpa using congrArg Array.toList d1
 subst this
 exact r.inj r'
theorem Inv.tuple_inj (I:Inv X pins σ H s) (h:SqT X.K H a xs) (h':SqT X.K H a ys):xs=ys:=by
 obtain ⟨its,r,⟨o,e,_,n,d⟩,_⟩:=I.tuple h
 obtain ⟨its',r',⟨o',e',_,n',d'⟩,_⟩:=I.tuple h'
 rw [e] at e';cases e'
 rw [d] at d'
 injection d' with d1 _
 have:its=its':=by simpa using congrArg Array.toList d1
 subst this
 exact r.inj r'
end
noncomputable abbrev Cx.wish (X:Cx) (E:Value→Shared→Prop):Cx:={ X with xe:=E }
noncomputable abbrev Cx.nox (X:Cx):Cx:=X.wish fun _ _=>False
theorem Cx.Ok.wish {X:Cx} (ok:X.Ok) (E:Value→Shared→Prop):(X.wish E).Ok:=
 ⟨ok.mod,ok.kind,ok.glob,ok.blt,ok.above,ok.inj,ok.has,ok.cab,ok.hd,ok.frames,ok.stk,ok.exf,ok.bs,ok.bsz,ok.noex,ok.exfs,ok.funs,ok.frf⟩
theorem Cx.Ok.unwish {X:Cx} {E:Value→Shared→Prop} (ok:(X.wish E).Ok):X.Ok:=
 ⟨ok.mod,ok.kind,ok.glob,ok.blt,ok.above,ok.inj,ok.has,ok.cab,ok.hd,ok.frames,ok.stk,ok.exf,ok.bs,ok.bsz,ok.noex,ok.exfs,ok.funs,ok.frf⟩
section
variable {X:Cx} {pins:List (Addr×Obj)} {σ:St} {H:Hp} {s:Shared} {E:Value→Shared→Prop}
theorem Inv.wish (I:Inv X pins σ H s) (E:Value→Shared→Prop):Inv (X.wish E) pins σ H s:=⟨I.ok.wish E,I.os,I.bare,I.base,I.loc,I.cell,I.free,I.freeC,I.pin,I.hok,I.len⟩
theorem Inv.unwish (I:Inv (X.wish E) pins σ H s):Inv X pins σ H s:=⟨I.ok.unwish,I.os,I.bare,I.base,I.loc,I.cell,I.free,I.freeC,I.pin,I.hok,I.len⟩
theorem SP.unwish {D:Ends} {f:Flow} {s':Shared} (h:SP (X.wish E) pins D f s'):SP X pins D f s':=by
 cases f with
 | next=>obtain ⟨σ',H',I,q⟩:=h;exact ⟨σ',H',I.unwish,q⟩
 | brk=>obtain ⟨σ',H',I,q⟩:=h;exact ⟨σ',H',I.unwish,q⟩
 | cont=>obtain ⟨σ',H',I,q⟩:=h;exact ⟨σ',H',I.unwish,q⟩
 | ret u=>obtain ⟨v,σ',H',I,r,q⟩:=h;exact ⟨v,σ',H',I.unwish,r,q⟩
theorem PSs.nox {st:List Stmt} {t:TS} (h:PSs X.nox st t):PSs X st t:=fun pins s σ H D I hw=>
 wpAny_mono (h pins s σ H D (I.wish _) hw) (fun _ _ q=>q.unwish) fun _ _ z=>False.elim z
end
section
variable {X:Cx} {st:Stmt} {rest:List Stmt} {t u:TS} {e:Expr} {te:TE} {pos:Pos}
noncomputable def tNext:TS:=fun D σ H=>D.nx σ H
theorem yR:PSs X [] tNext:=fun _ _ σ H _ I h=>wpAny_execs_nil ⟨σ,H,I,h⟩
theorem yQ (h1:PS X st t):PSs X [st] t:=by
 intro pins s σ H D I h
 refine wpAny_execs_cons (thn (h1 pins s σ H D I h) fun f s1 q=>?_)
 cases f with
 | next=>exact wpAny_execs_nil q
 | ret v=>exact q
 | brk=>exact q
 | cont=>exact q
theorem Inv.quiet {pins:List (Addr×Obj)} {σ:St} {H:Hp} {s:Shared} (I:Inv X pins σ H s):interactive X.env=false:=by simp [interactive,I.ok.kind]
noncomputable def tDrop (te:TE):TS:=fun D σ H=>te σ H fun _ H1=>D.nx σ H1
theorem yT (he:PE X e te) (hs:swapsWith e none pos.line X.env=pure false:=by rfl):PS X (.Expr e pos) (tDrop te):=by
 intro pins s σ H D I h
 exact wpAny_Expr_any (thn (he pins s σ H _ I h) fun v s1 ⟨x,H1,I1,r1,q1⟩=>⟨σ,H1,I1,q1⟩) I.quiet hs
noncomputable def tRet (te:TE):TS:=fun D σ H=>te σ H D.rt
theorem ps_ret (he:PE X e te):PS X (.Return (some e) pos) (tRet te):=by
 intro pins s σ H D I h
 exact wpAny_Return_some (thn (he pins s σ H _ I h) fun v s1 ⟨x,H1,I1,r1,q1⟩=>⟨x,σ,H1,I1,r1,q1⟩)
noncomputable def tIfS (c:TT) (t u:TS):TS:=fun D σ H=>c σ H fun b H1=>if b=true then t D σ H1 else u D σ H1
theorem ps_if {c:Expr} {a b:List Stmt} {tc:TT} (hc:PT X c tc) (ha:PSs X a t) (hb:PSs X b u):PS X (.If c a b pos) (tIfS tc t u):=by
 intro pins s σ H D I h
 refine wpAny_If (thn (hc pins s σ H _ I h) fun d s1 ⟨H1,I1,q1⟩=>?_)
 cases d with
 | true=>exact ha pins s1 σ H1 D I1 q1
 | false=>exact hb pins s1 σ H1 D I1 q1
end
noncomputable abbrev TG:=V→St→Hp→(St→Hp→Prop)→Prop
noncomputable abbrev TGs:=List V→St→Hp→(St→Hp→Prop)→Prop
noncomputable def PG (X:Cx) (target:Expr) (t:TG):Prop:=
 ∀ (pins:List (Addr×Obj)) (s:Shared) (σ:St) (H:Hp) (v:V) (u:Value) (Q:St→Hp→Prop),Inv X pins σ H s→RelV v u→t v σ H Q →
  wpAny (model X.prog X.w) X.A (assign target X.env u) (fun _ s'=>∃ σ' H',Inv X pins σ' H' s'∧Q σ' H') X.xe s
noncomputable def PGs (X:Cx) (ts:List Expr) (t:TGs):Prop:=
 ∀ (pins:List (Addr×Obj)) (s:Shared) (σ:St) (H:Hp) (vs:List V) (us:List Value) (Q:St→Hp→Prop),Inv X pins σ H s→aR vs us→t vs σ H Q →
  wpAny (model X.prog X.w) X.A (assignInOrder ((assignEach ts X.env).map (·.2)) us) (fun _ s'=>∃ σ' H',Inv X pins σ' H' s'∧Q σ' H') X.xe s
section
variable {X:Cx} {pos:Pos}
noncomputable def a2Y (i:Nat):TG:=fun v σ H Q=>Q (σ.set i (some v)) H
theorem a4B {i:Nat} {x:Str} (hN:X.N.Nodup) (hi:X.N[i]?=some x) (hx:Loc X.env.scope x) (hf:X.fn x=true∨X.env.scope.names.lookup x=some .local:=by first | exact .inl rfl | exact .inr rfl | assumption):PG X (.Name x pos) (a2Y i):=by
 intro pins s σ H v u Q I r h
 exact wpAny_assign_Name (nS I hN hi hx r (fun s' I'=>⟨_,H,I',h⟩) hf)
noncomputable def gNil:TGs:=fun vs σ H Q=>vs=[]∧Q σ H
noncomputable def gCons (t:TG) (u:TGs):TGs:=fun vs σ H Q=>∃ v r,vs=v::r∧t v σ H fun σ' H'=>u r σ' H' Q
theorem a4z:PGs X [] gNil:=by
 intro pins s σ H vs us Q I r h
 obtain ⟨e,h⟩:=h
 subst e
 cases r
 exact assignInOrder_nil ⟨σ,H,I,h⟩
theorem a1S {e:Expr} {es:List Expr} {t:TG} {u:TGs} (h1:PG X e t) (h2:PGs X es u)
  (hs:(assignEach (e::es) X.env).map (·.2)=assign e X.env::(assignEach es X.env).map (·.2):=by rfl):PGs X (e::es) (gCons t u):=by
 intro pins s σ H vs us Q I r h
 obtain ⟨v,vr,e1,h⟩:=h
 subst e1
 cases r with
 | cons r rr=>
  rw [hs]
  refine assignInOrder_cons (thn (h1 pins s σ H _ _ _ I r h) fun _ s1 ⟨σ1,H1,I1,q1⟩=>?_)
  exact h2 pins s1 σ1 H1 _ _ Q I1 rr q1
noncomputable def gTup (K:PySem.W.Frag) (n:Nat) (t:TGs):TG:=fun v σ H Q=>∃ a xs,v=.ref a∧SqT K H a xs∧xs.length=n∧t xs σ H Q
theorem pg_tup {es:List Expr} {k:Nat} {t:TGs} {n:Nat} (hc:X.calm=true) (h:PGs X es t)
  (hn:(assignEach es X.env).length=n:=by rfl) (hst:(assignEach es X.env).findIdx? (·.1)=none:=by rfl):PG X (.Tuple es k pos) (gTup X.K n t):=by
 intro pins s σ H v u Q I r hw
 obtain ⟨a,xs,e1,hq,hl,hw⟩:=hw
 subst e1
 cases r
 obtain ⟨its,rv,ht,hz⟩:=I.tuple hq
 refine assign_Tuple_tuple (I.ok.hd hc) ht (by simp [hn,←hl,rv.length]) hst fun h' hx=>?_
 have I1:Inv X pins σ H { s with heap:=h' }:=I.kept (t':=s.toks) fun b o e=>hx b o (Nat.ne_of_lt (Heap.lt_size e)) e
 exact h pins _ σ H xs _ Q I1 (by simpa using rv) hw
noncomputable def tAsg (te:TE) (g:TG):TS:=fun D σ H=>te σ H fun x H1=>g x σ H1 D.nx
theorem ps_asg {tg e:Expr} {te:TE} {g:TG} (he:PE X e te) (hg:PG X tg g) (hs:swapsWithSole [tg] e pos.line X.env=pure false:=by rfl) (hw:swappedStores [tg] e X.env=pure none:=by rfl)
  (h1:(assignEach [tg] X.env).map (·.2)=[assign tg X.env]:=by rfl):PS X (.Assign [tg] e pos) (tAsg te g):=by
 intro pins s σ H D I h
 refine wpAny_Assign_stores (thn (he pins s σ H _ I h) fun v s1 ⟨x,H1,I1,r1,q1⟩=>?_) hs hw
 rw [h1]
 exact thn (hg pins s1 σ H1 x v _ I1 r1 q1) fun _ s2 q=>q
theorem oH {i:Nat} {x:Str} {e:Expr} {te:TE} {pos':Pos} (hN:X.N.Nodup) (hi:X.N[i]?=some x) (hx:Loc X.env.scope x) (he:PE X e te) (hs:swapsWith e (some (.Name x pos')) pos.line X.env=pure false:=by rfl) (hf:X.fn x=true∨X.env.scope.names.lookup x=some .local:=by first | exact .inl rfl | exact .inr rfl | assumption) :
  PS X (.Assign [.Name x pos'] e pos) (tAsg te (a2Y i)):=by
 intro pins s σ H D I h
 refine wpAny_Assign_Name (thn (he pins s σ H _ I h) fun v s1 ⟨y,H1,I1,r1,q1⟩=>?_) hs
 exact nS I1 hN hi hx r1 (fun s2 I2=>⟨_,H1,I2,q1⟩) hf
end
section
variable {X:Cx} {pos:Pos}
end
structure It where
 go:Nat→Hp→Prop
 yld:Nat→Hp→V→Hp→Prop
 stop:Nat→Hp→Prop
noncomputable def lE (X:Cx) (pins:List (Addr×Obj)) (H:Hp) (b:Addr):Prop:=
 H b=none∧b≠X.env.locals∧b∉X.fs∧(b∈X.ex∨X.s₀.heap.objs.size≤b)∧(∀ x c,X.env.cells.lookup x=some c→c≠b)∧∀ p∈X.pn++pins,p.1≠b
theorem Inv.fpOk {X:Cx} {pins:List (Addr×Obj)} {σ:St} {H H':Hp} {s:Shared} {b:Addr} (I:Inv X pins σ H s) (hb:s.heap.objs.size≤b) (hn:H' b=none):lE X pins H' b:=by
 refine ⟨hn,Nat.ne_of_gt (Nat.lt_of_lt_of_le I.lt hb),I.nofs hb,.inr (Nat.le_trans I.sz hb),fun x c e z=>?_,fun p hp z=>?_⟩
 ·obtain ⟨v,q⟩:=I.cell x c e
  exact absurd (Nat.lt_of_lt_of_le q.lt (by rw [z];exact hb)) (Nat.lt_irrefl _)
 ·exact absurd (Nat.lt_of_lt_of_le (Heap.lt_size (I.pin p hp).1) (by rw [z];exact hb)) (Nat.lt_irrefl _)
structure Turn (P:Program) (w:World) (K:PySem.W.Frag) (tg:Expr) (J:It) (fp:List Addr) (it:Addr) (tn:Nat→Heap→Prop):Prop where
 mem:it∈fp
 obj:∀ i h,tn i h→∀ b∈fp,∃ o,h.get? b=some o∧∀ v,o.data≠.cell v
 keep:∀ i h h',tn i h→(∀ b∈fp,∀ o,h.get? b=some o→h'.get? b=some o)→tn i h'
 item:∀ (X:Cx),X.prog=P→X.w=w→X.K=K→X.calm=true→∀ (i:Nat) (pins:List (Addr×Obj)) (s:Shared) (σ:St) (H:Hp) (E:Value→Shared→Prop),Inv X pins σ H s→(∀ b∈fp,lE X pins H b)→tn i s.heap→J.go i H →
  wpAny (model P w) X.A (pyNext (.ref it)) (fun r s1=>∃ u,r=some u ∧
   wpAny (model P w) X.A (letOwnedTupleGo tg (.ref it) u) (fun _ s2=>∃ x H',Inv X pins σ H' s2∧RelV x u∧J.yld i H x H'∧tn (i+1) s2.heap∧∀ b∈fp,H' b=none) E s1) E s
 done:∀ (X:Cx),X.prog=P→X.w=w→X.K=K→X.calm=true→∀ (i:Nat) (pins:List (Addr×Obj)) (s:Shared) (σ:St) (H:Hp) (E:Value→Shared→Prop),Inv X pins σ H s→(∀ b∈fp,lE X pins H b)→tn i s.heap→J.stop i H →
  wpAny (model P w) X.A (pyNext (.ref it)) (fun r s1=>r=none∧Inv X pins σ H s1) E s
 self:∀ (A:Around) (i:Nat) (s:Shared) (Q:Value→Shared→Prop) (E:Value→Shared→Prop),tn i s.heap→Q (.ref it) s→wpAny (model P w) A (pyIter (.ref it)) Q E s
noncomputable abbrev TI:=St→Hp→(It→Hp→Prop)→Prop
noncomputable def PIE (X:Cx) (pins:List (Addr×Obj)) (σ:St) (tg:Expr) (R:It→Hp→Prop) (itv:Value) (s2:Shared):Prop:=
 ∃ (it:Addr) (fp:List Addr) (tn:Nat→Heap→Prop) (J:It) (H':Hp),itv=.ref it∧Inv X pins σ H' s2∧Turn X.prog X.w X.K tg J fp it tn∧tn 0 s2.heap∧(∀ b∈fp,lE X pins H' b)∧R J H'
noncomputable def PI (X:Cx) (tg iter:Expr) (wi:TI):Prop:=
 ∀ (pins:List (Addr×Obj)) (s:Shared) (σ:St) (H:Hp) (R:It→Hp→Prop),Inv X pins σ H s→wi σ H R →
  wpAny (model X.prog X.w) X.A (eval iter X.env) (fun v s1=>wpAny (model X.prog X.w) X.A (pyIter v) (PIE X pins σ tg R) X.xe s1) X.xe s
theorem zK {M:Model} {A:Around} {E:Value→Shared→Prop} {s:Shared} {tg:Expr} {it:Addr} {u:Value} {o:Obj} {n:String} {vs:Array Value} {Q:Unit→Shared→Prop} (ho:s.heap.get? it=some o) (hc:o.cls=.type n) (hd:o.data=.fields vs)
  (hn:["enumerate", "zip", "dict_itemiterator", "dict_reverseitemiterator", "odict_iterator", "itertools.zip_longest", "itertools.pairwise"].contains n=false) (hQ:Q () s):wpAny M A (letOwnedTupleGo tg (.ref it) u) Q E s:=by
 unfold letOwnedTupleGo
 cases tg<;>first
  | exact wpAny_pure hQ
  | (cases u<;>first
    | exact wpAny_pure hQ
    | (refine wpAny_bind (wpAny_load ho ?_);rw [hc,hd];show wpAny M A (if (["enumerate", "zip", "dict_itemiterator", "dict_reverseitemiterator", "odict_iterator", "itertools.zip_longest", "itertools.pairwise"].contains n&&vs[0]?==some (rawInt _))=true then _ else _) Q E s;rw [if_neg (by intro h;rw [hn,Bool.false_and] at h;cases h)];exact wpAny_pure hQ))
noncomputable def Itl (K:PySem.W.Frag) (a:Addr):It:=
 ⟨fun i H=>∃ xs x,SqL K H a xs∧xs[i]?=some x,fun i H x H'=>H'=H∧∀ xs,SqL K H a xs→xs[i]?=some x,fun i H=>∃ xs,SqL K H a xs∧xs.length≤i⟩
noncomputable def Itt (K:PySem.W.Frag) (a:Addr):It:=
 ⟨fun i H=>∃ xs x,SqT K H a xs∧xs[i]?=some x,fun i H x H'=>H'=H∧∀ xs,SqT K H a xs→xs[i]?=some x,fun i H=>∃ xs,SqT K H a xs∧xs.length≤i⟩
noncomputable def Itr (lo:Int) (n:Nat):It:=⟨fun i _=>i<n,fun i H x H'=>H'=H∧x=.int (lo+i),fun i _=>n≤i⟩
theorem a0d {P:Program} {w:World} {K:PySem.W.Frag} {tg:Expr} (a it:Addr):Turn P w K tg (Itl K a) [it] it (fun i h=>h.IsListIter it a i) where
 mem:=by simp
 obj:=fun i h st b hb=>by
  have e:b=it:=by simpa using hb
  subst e
  obtain ⟨o,e,c,d⟩:=st
  exact ⟨o,e,fun v z=>by rw [d] at z;cases z⟩
 keep:=fun i h h' st k=>st.at fun o e=>k it (by simp) o e
 item:=by
  intro X hP hw hK hc i pins s σ H E I hf st hg
  subst hP hw hK
  obtain ⟨xs,x,hq,hx⟩:=hg
  obtain ⟨its,rv,p,hz⟩:=I.list hq
  obtain ⟨u,hu,ru⟩:=rv.get hx
  obtain ⟨f0,f1,f2,f3,f4,f5⟩:=hf it (by simp)
  refine wpAny_pyNext_list_item st p.isList (x:=u) (by simpa using hu) fun h' st' sb=>?_
  have I1:Inv X pins σ H { s with heap:=h' }:=I.turned (t':=s.toks) (fun b o hb e=>(sb.2 b hb).trans e) f0 f1 f3 f4 f5
  obtain ⟨o,e,c,d⟩:=id st'
  exact ⟨u,rfl,zK (s:={ s with heap:=h' }) e c d (by decide) ⟨x,H,I1,ru,⟨rfl,fun ys hy=>by rw [I.list_inj hy hq];exact hx⟩,st',fun b hb=>(hf b hb).1⟩⟩
 done:=by
  intro X hP hw hK hc i pins s σ H E I hf st hg
  subst hP hw hK
  obtain ⟨xs,hq,hx⟩:=hg
  obtain ⟨its,rv,p,hz⟩:=I.list hq
  obtain ⟨f0,f1,f2,f3,f4,f5⟩:=hf it (by simp)
  have hl:=rv.length
  exact wpAny_pyNext_list_end (I.ok.hd hc) st p.isList (by simp;omega) fun h' eb=>⟨rfl,I.turned (t':=s.toks) (fun b o hb e=>eb b o hb e) f0 f1 f3 f4 f5⟩
 self:=fun _ _ _ _ _ st h=>wpAny_pyIter_listiter st h
theorem wK {P:Program} {w:World} {K:PySem.W.Frag} {tg:Expr} (a it:Addr):Turn P w K tg (Itt K a) [it] it (fun i h=>h.IsTupleIter it a i) where
 mem:=by simp
 obj:=fun i h st b hb=>by
  have e:b=it:=by simpa using hb
  subst e
  obtain ⟨o,e,c,d⟩:=st
  exact ⟨o,e,fun v z=>by rw [d] at z;cases z⟩
 keep:=fun i h h' st k=>st.at fun o e=>k it (by simp) o e
 item:=by
  intro X hP hw hK hc i pins s σ H E I hf st hg
  subst hP hw hK
  obtain ⟨xs,x,hq,hx⟩:=hg
  obtain ⟨its,rv,p,hz⟩:=I.tuple hq
  obtain ⟨u,hu,ru⟩:=rv.get hx
  obtain ⟨f0,f1,f2,f3,f4,f5⟩:=hf it (by simp)
  refine wpAny_pyNext_tuple_item st (show s.heap.IsTuple a its.toArray from p) (x:=u) (by simpa using hu) fun h' st' sb=>?_
  have I1:Inv X pins σ H { s with heap:=h' }:=I.turned (t':=s.toks) (fun b o hb e=>(sb.2 b hb).trans e) f0 f1 f3 f4 f5
  obtain ⟨o,e,c,d⟩:=id st'
  exact ⟨u,rfl,zK (s:={ s with heap:=h' }) e c d (by decide) ⟨x,H,I1,ru,⟨rfl,fun ys hy=>by rw [I.tuple_inj hy hq];exact hx⟩,st',fun b hb=>(hf b hb).1⟩⟩
 done:=by
  intro X hP hw hK hc i pins s σ H E I hf st hg
  subst hP hw hK
  obtain ⟨xs,hq,hx⟩:=hg
  obtain ⟨its,rv,p,hz⟩:=I.tuple hq
  obtain ⟨f0,f1,f2,f3,f4,f5⟩:=hf it (by simp)
  have hl:=rv.length
  exact wpAny_pyNext_tuple_end (I.ok.hd hc) st (show s.heap.IsTuple a its.toArray from p) (by simp;omega) fun h' eb=>⟨rfl,I.turned (t':=s.toks) (fun b o hb e=>eb b o hb e) f0 f1 f3 f4 f5⟩
 self:=fun _ _ _ _ _ st h=>wpAny_pyIter_tupleiter st h
theorem wL {P:Program} {w:World} {K:PySem.W.Frag} {tg:Expr} (it:Addr) (lo:Int) (n:Nat):Turn P w K tg (Itr lo n) [it] it (fun i h=>IsRangeIter h it (lo+(i:Nat)*1) ((n:Int) - (i:Nat)) 1) where
 mem:=by simp
 obj:=fun i h st b hb=>by
  have e:b=it:=by simpa using hb
  subst e
  exact ⟨_,st,fun v z=>by
   have z':Data.fields _=Data.cell v:=z
   cases z'⟩
 keep:=fun i h h' st k=>k it (by simp) _ st
 item:=by
  intro X hP hw hK hc i pins s σ H E I hf st hg
  subst hP hw hK
  obtain ⟨f0,f1,f2,f3,f4,f5⟩:=hf it (by simp)
  have W:=Walks.range (prog:=X.prog) (w:=X.w) (I.ok.hd hc) it lo 1 n
  refine W.item i s _ _ hg st fun v h' tk hv st' kk=>?_
  obtain ⟨t,rfl⟩:=hv
  have I1:Inv X pins σ H { s with heap:=h',toks:=tk }:=I.turned (fun b o hb e=>kk b o (by simpa using hb) e) f0 f1 f3 f4 f5
  refine ⟨_,rfl,zK (s:={ s with heap:=h',toks:=tk }) (n := "range_iterator") st' rfl rfl (by decide) ⟨.int (lo+i),H,I1,⟨t,?_⟩,⟨rfl,rfl⟩,st',fun b hb=>(hf b hb).1⟩⟩
  rw [Int.mul_one]
 done:=by
  intro X hP hw hK hc i pins s σ H E I hf st hg
  subst hP hw hK
  obtain ⟨f0,f1,f2,f3,f4,f5⟩:=hf it (by simp)
  exact wpAny_pyNext_range_end (I.ok.hd hc) st (by have:n≤i:=hg;omega) fun h' eb=>⟨rfl,I.turned (t':=s.toks) (fun b o hb e=>eb b o hb e) f0 f1 f3 f4 f5⟩
 self:=fun _ _ _ _ _ st h=>wpAny_pyIter_rangeiter st h
section
variable {X:Cx} {tg:Expr}
noncomputable def iList (K:PySem.W.Frag) (tl:TE):TI:=fun σ H R=>tl σ H fun x H1=>∃ a,x=.ref a∧(∃ xs,SqL K H1 a xs)∧R (Itl K a) H1
noncomputable def iTup (K:PySem.W.Frag) (tl:TE):TI:=fun σ H R=>tl σ H fun x H1=>∃ a,x=.ref a∧(∃ xs,SqT K H1 a xs)∧R (Itt K a) H1
theorem sO {l:Expr} {tl:TE} (hl:PE X l tl):PI X tg l (iList X.K tl):=by
 intro pins s σ H R I h
 refine thn (hl pins s σ H _ I h) fun v s1 ⟨x,H1,I1,r1,q1⟩=>?_
 obtain ⟨a,e,⟨xs,hq⟩,q⟩:=q1
 subst e
 cases r1
 obtain ⟨its,rv,p,hz⟩:=I1.list hq
 refine wpAny_pyIter_list p.isList ?_
 refine ⟨s1.heap.objs.size,[s1.heap.objs.size],_,_,H1,rfl,I1.kept (t':=s1.toks) fun b o e=>Heap.get?_push_of_some _ e,a0d a _,⟨_,Heap.get?_push_size _ rfl,rfl,rfl⟩,fun b hb=>?_,q⟩
 have e:b=s1.heap.objs.size:=by simpa using hb
 subst e
 exact I1.fpOk (Nat.le_refl _) (I1.hok.fresh (Nat.le_refl _))
theorem pi_tup {l:Expr} {tl:TE} (hl:PE X l tl):PI X tg l (iTup X.K tl):=by
 intro pins s σ H R I h
 refine thn (hl pins s σ H _ I h) fun v s1 ⟨x,H1,I1,r1,q1⟩=>?_
 obtain ⟨a,e,⟨xs,hq⟩,q⟩:=q1
 subst e
 cases r1
 obtain ⟨its,rv,p,hz⟩:=I1.tuple hq
 refine wpAny_pyIter_tuple (show s1.heap.IsTuple a its.toArray from p) ?_
 refine ⟨s1.heap.objs.size,[s1.heap.objs.size],_,_,H1,rfl,I1.kept (t':=s1.toks) fun b o e=>Heap.get?_push_of_some _ e,wK a _,⟨_,Heap.get?_push_size _ rfl,rfl,rfl⟩,fun b hb=>?_,q⟩
 have e:b=s1.heap.objs.size:=by simpa using hb
 subst e
 exact I1.fpOk (Nat.le_refl _) (I1.hok.fresh (Nat.le_refl _))
theorem a1H {pins:List (Addr×Obj)} {σ:St} {H:Hp} {s:Shared} {R:It→Hp→Prop} {E:Value→Shared→Prop} {lo hi:Int} {t u v:Tok} {tk:Nat} (I:Inv X pins σ H s) (h1:-(2 ^ 62)≤lo) (h2:lo<2 ^ 62) (h3:-(2 ^ 62)≤hi) (h4:hi<2 ^ 62)
  (q:R (Itr lo (hi - lo).toNat) H):wpAny (model X.prog X.w) X.A (pyIter (.ref s.heap.objs.size)) (PIE X pins σ tg R) E { s with heap:=s.heap.push { cls:=.type "range", data:=.fields #[.int lo t,.int hi u,.int 1 v] },toks:=tk }:=by
 refine wpAny_pyIter_range (IsRange.new ..) (small_one h1 h2 h3 h4) ?_
 have I1:Inv X pins σ H { s with heap:=s.heap.push { cls:=.type "range", data:=.fields #[.int lo t,.int hi u,.int 1 v] },toks:=tk }:=I.kept fun b o e=>Heap.get?_push_of_some _ e
 refine ⟨(s.heap.push { cls:=.type "range", data:=.fields #[.int lo t,.int hi u,.int 1 v] }).objs.size,[(s.heap.push { cls:=.type "range", data:=.fields #[.int lo t,.int hi u,.int 1 v] }).objs.size],_,_,H,rfl,
  I1.kept (t':=tk) fun b o e=>Heap.get?_push_of_some _ e,wL _ lo (hi - lo).toNat,?_,fun b hb=>?_,q⟩
 ·have e1:lo+((0:Nat):Int)*1=lo:=by simp
  have e2:(((hi - lo).toNat:Nat):Int) - ((0:Nat):Int)=Builtin.Range.rangeSize lo hi 1:=by rw [rangeSize_one];split<;>omega
  show IsRangeIter _ _ (lo+((0:Nat):Int)*1) ((((hi - lo).toNat:Nat):Int) - ((0:Nat):Int)) 1
  rw [e1,e2]
  exact Heap.get?_push_size _ rfl
 ·have e:b=(s.heap.push { cls:=.type "range", data:=.fields #[.int lo t,.int hi u,.int 1 v] }).objs.size:=by simpa using hb
  subst e
  exact I1.fpOk (Nat.le_refl _) (I1.hok.fresh (Nat.le_refl _))
noncomputable def iRng1 (ta:TA):TI:=fun σ H R=>ta σ H fun vs H1=>∃ j:Int,vs=[.int j]∧-(2 ^ 62)≤j∧j<2 ^ 62∧R (Itr 0 j.toNat) H1
theorem a0v {a:Expr} {ta:TA} {p pos:Pos} (hg:Gl X "range") (hm:X.mg "range" = none) (ha:PA X [a] ta) (hs:starEach [a] X.env=[(false,eval a X.env)]:=by rfl):PI X tg (.Call (.Name "range" p) [a] [] pos) (iRng1 ta):=by
 intro pins s σ H R I h
 refine Call_ (iG I hg hm boot_range (PyProof.Rows.callWith_type1 (thn (ha pos pins s σ H _ I h) fun us s1 ⟨vs,H1,I1,r1,q1⟩=>?_) hs rfl))
 obtain ⟨j,e,q1,q2,q⟩:=q1
 subst e
 cases r1 with
 | cons r rr=>
  cases rr
  obtain ⟨t,rfl⟩:=r
  exact call_range_1 (a1H I1 (by omega) (by omega) q1 q2 (by simpa using q))
noncomputable def tFor (wi:TI) (g:TG) (tb:TS):TS:=fun D σ H=>wi σ H fun J H1=>∃ W:Nat→Nat→St→Hp→Prop,(∃ m,W 0 m σ H1)∧∀ i m σ H,W i m σ H →
 (J.stop i H∧D.nx σ H)∨(J.go i H∧∃ N:St→Hp→Prop,(∀ σ' H',N σ' H'→∃ m',m'<m∧W (i+1) m' σ' H')∧∀ x H',J.yld i H x H'→g x σ H' fun σ2 H2=>tb { D with nx:=N,ct:=N,bk:=D.nx } σ2 H2)
noncomputable def kB (fp:List Addr) (h:Heap):List (Addr×Obj):=fp.filterMap fun b=>(h.get? b).map fun o=>(b,o)
theorem eY {fp:List Addr} {h:Heap} {b:Addr} {o:Obj} (hb:b∈fp) (e:h.get? b=some o):(b,o)∈kB fp h:=List.mem_filterMap.mpr ⟨b,hb,by rw [e];rfl⟩
theorem a0x {fp:List Addr} {h:Heap} {p:Addr×Obj} (hp:p∈kB fp h):p.1∈fp∧h.get? p.1=some p.2:=by
 obtain ⟨b,hb,e⟩:=List.mem_filterMap.mp hp
 cases q:h.get? b with
 | none=>rw [q] at e;cases e
 | some o=>
  rw [q] at e
  have e':(b,o)=p:=Option.some.inj e
  subst e'
  exact ⟨hb,q⟩
theorem Inv.pinned {pins:List (Addr×Obj)} {σ:St} {H:Hp} {s:Shared} {fp:List Addr} (I:Inv X pins σ H s) (hf:∀ b∈fp,lE X pins H b) (ho:∀ b∈fp,∃ o,s.heap.get? b=some o∧∀ v,o.data≠.cell v):Inv X (pins++kB fp s.heap) σ H s:=
 I.pins_of fun p hp=>(List.mem_append.mp hp).elim (fun z=>I.pin p (List.mem_append_right _ z)) fun z=>by
  obtain ⟨hb,e⟩:=a0x z
  obtain ⟨f0,f1,f2,_⟩:=hf p.1 hb
  obtain ⟨o,e',d⟩:=ho p.1 hb
  rw [e] at e';cases e'
  exact ⟨e,f0,f1,f2,d⟩
theorem Inv.unpinned {pins pl:List (Addr×Obj)} {σ:St} {H:Hp} {s:Shared} (I:Inv X (pins++pl) σ H s):Inv X pins σ H s:=I.pins_of fun p hp=>I.pin p (List.mem_append_right _ (List.mem_append_left _ hp))
theorem ps_for {iter:Expr} {body:List Stmt} {wi:TI} {g:TG} {tb:TS} {pos:Pos} (hp:PassesOwn (model X.prog X.w) X.A X.env X.xe) (hc:X.calm=true) (hi:PI X tg iter wi) (hg:PG X tg g) (hb:PSs X body tb)
  (hs:∀ x,foldedSetIterable iter X.env x=pure x:=by intro _;rfl):PS X (.For tg iter body [] pos) (tFor wi g tb):=by
 intro pins s σ H D I h
 refine wpAny_For (thn (hi pins s σ H _ I h) fun v s1 h1=>thn h1 fun itv s2 h2=>?_) hs
 obtain ⟨it,fp,tn,J,H2,e,I2,T,st2,f2,W,⟨m0,w0⟩,turn⟩:=h2
 subst e
 -- what stays true of the iterator's objects through the loop
 have stat:∀ {H':Hp},(∀ b∈fp,H' b=none)→∀ b∈fp,lE X pins H' b:=fun hn b hb=>⟨hn b hb,(f2 b hb).2⟩
 refine codeAny_forLoop_any (fun n s'=>∃ i σ' H',Inv X pins σ' H' s'∧tn i s'.heap∧(∀ b∈fp,H' b=none)∧W i n σ' H') ?_ m0 ⟨0,σ,H2,I2,st2,fun b hb=>(f2 b hb).1,w0⟩
 rintro n s3 ⟨i,σ3,H3,I3,st3,fr3,w3⟩
 rcases turn i n σ3 H3 w3 with ⟨stop,qn⟩ | ⟨go,N,hN,step⟩
 ·refine wpAny_passesOwn hp (thn (T.done X rfl rfl rfl hc i pins s3 σ3 H3 X.xe I3 (stat fr3) st3 stop) fun r s4 ⟨hr,I4⟩=>?_)
  subst hr
  exact wpAny_execs_nil ⟨σ3,H3,I4,qn⟩
 ·refine wpAny_passesOwn hp (thn (T.item X rfl rfl rfl hc i pins s3 σ3 H3 X.xe I3 (stat fr3) st3 go) fun r s4 ⟨u,hr,h4⟩=>?_)
  subst hr
  refine wpAny_passesOwn hp (thn h4 fun _ s5 ⟨x,H5,I5,r5,y5,st5,fr5⟩=>?_)
  have I5':=I5.pinned (stat fr5) (T.obj _ _ st5)
  refine wpAny_passesOwn hp (thn (hg _ s5 σ3 H5 x u _ I5' r5 (step x H5 y5)) fun _ s6 ⟨σ6,H6,I6,q6⟩=>?_)
  refine wpAny_passesOwn hp (thn (hb _ s6 σ6 H6 _ I6 q6) fun f s7 q7=>?_)
  have again:∀ {σ7:St} {H7:Hp},Inv X (pins++kB fp s5.heap) σ7 H7 s7→N σ7 H7→∃ m,m<n∧∃ i σ' H',Inv X pins σ' H' s7∧tn i s7.heap∧(∀ b∈fp,H' b=none)∧W i m σ' H':=fun {σ7 H7} I7 n7=>by
   obtain ⟨m',hm,w7⟩:=hN σ7 H7 n7
   refine ⟨m',hm,i+1,σ7,H7,I7.unpinned,T.keep _ _ _ st5 fun b hb o e=>(I7.pin (b,o) (List.mem_append_right _ (List.mem_append_right _ (eY hb e)))).1,fun b hb=>?_,w7⟩
   obtain ⟨o,e,d⟩:=T.obj _ _ st5 b hb
   exact (I7.pin (b,o) (List.mem_append_right _ (List.mem_append_right _ (eY hb e)))).2.1
  cases f with
  | next=>obtain ⟨σ7,H7,I7,n7⟩:=q7;exact again I7 n7
  | cont=>obtain ⟨σ7,H7,I7,n7⟩:=q7;exact again I7 n7
  | brk=>obtain ⟨σ7,H7,I7,q7⟩:=q7;exact ⟨σ7,H7,I7.unpinned,q7⟩
  | ret v=>obtain ⟨x7,σ7,H7,I7,r7,q7⟩:=q7;exact ⟨x7,σ7,H7,I7.unpinned,r7,q7⟩
end
noncomputable abbrev R2:=V→V→Hp→VK→Prop
noncomputable def OpR (X:Cx) (f:Value→Value→Sem Value) (r:R2):Prop:=
 ∀ (pins:List (Addr×Obj)) (s:Shared) (σ:St) (H:Hp) (x y:V) (v u:Value) (Q:VK),Inv X pins σ H s→RelV x v→RelV y u→r x y H Q →
  wpAny (model X.prog X.w) X.A (f v u) (EP X pins σ Q) X.xe s
noncomputable def UnR (X:Cx) (f:Value→Sem Value) (r:V→Hp→VK→Prop):Prop:=
 ∀ (pins:List (Addr×Obj)) (s:Shared) (σ:St) (H:Hp) (x:V) (v:Value) (Q:VK),Inv X pins σ H s→RelV x v→r x H Q →
  wpAny (model X.prog X.w) X.A (f v) (EP X pins σ Q) X.xe s
noncomputable def dP (X:Cx) (f:Value) (r:List V→Hp→VK→Prop):Prop:=
 ∀ (pins:List (Addr×Obj)) (s:Shared) (σ:St) (H:Hp) (xs:List V) (us:List Value) (Q:VK),Inv X pins σ H s→aR xs us→r xs H Q →
  wpAny (model X.prog X.w) X.A (call f us) (EP X pins σ Q) X.xe s
noncomputable def TruR (X:Cx) (r:V→Hp→(Bool→Hp→Prop)→Prop):Prop:=
 ∀ (pins:List (Addr×Obj)) (s:Shared) (σ:St) (H:Hp) (x:V) (v:Value) (Q:Bool→Hp→Prop),Inv X pins σ H s→RelV x v→r x H Q →
  wpAny (model X.prog X.w) X.A (truthy v) (TP X pins σ Q) X.xe s
noncomputable def tOp (r:R2) (ta tb:TE):TE:=fun σ H Q=>ta σ H fun x H1=>tb σ H1 fun y H2=>r x y H2 Q
noncomputable def tUn (r:V→Hp→VK→Prop) (ta:TE):TE:=fun σ H Q=>ta σ H fun x H1=>r x H1 Q
noncomputable def rI (C:Int→Int→Prop) (g:Int→Int→V):R2:=fun x y H Q=>∃ i j,x=.int i∧y=.int j∧C i j∧Q (g i j) H
noncomputable def rI0 (g:Int→Int→V):R2:=fun x y H Q=>∃ i j,x=.int i∧y=.int j∧Q (g i j) H
noncomputable def rU (g:Int→V):V→Hp→VK→Prop:=fun x H Q=>∃ i,x=.int i∧Q (g i) H
section
variable {X:Cx} {a b c:Expr} {ta tb tc:TE} {pos:Pos}
theorem binT (ha:PE X a ta) (hb:PE X b tb) {pins:List (Addr×Obj)} {s:Shared} {σ:St} {H:Hp} {R:V→V→Hp→Prop} (I:Inv X pins σ H s)
  (h:ta σ H fun x H1=>tb σ H1 fun y H2=>R x y H2) {Q:Value→Shared→Prop} {f:Value→Value→Sem Value}
  (hf:∀ v u s2 x y H2,Inv X pins σ H2 s2→RelV x v→RelV y u→R x y H2→wpAny (model X.prog X.w) X.A (f v u) Q X.xe s2) :
  wpAny (model X.prog X.w) X.A (eval a X.env) (fun v s₁=>wpAny (model X.prog X.w) X.A (eval b X.env) (fun u s₂=>wpAny (model X.prog X.w) X.A (f v u) Q X.xe s₂) X.xe s₁) X.xe s:=by
 refine thn (ha pins s σ H _ I h) fun v s1 ⟨x,H1,I1,r1,q1⟩=>?_
 refine thn (hb pins s1 σ H1 _ I1 q1) fun u s2 ⟨y,H2,I2,r2,q2⟩=>?_
 exact hf v u s2 x y H2 I2 r1 r2 q2
theorem pe_op {op:Operator} {r:R2} (ho:OpR X (binaryOp op) r) (ha:PE X a ta) (hb:PE X b tb):PE X (.BinOp a op b pos) (tOp r ta tb):=by
 intro pins s σ H Q I h
 exact wpAny_BinOp (binT ha hb I h fun v u s2 x y H2 I2 rx ry q=>ho pins s2 σ H2 x y v u Q I2 rx ry q)
theorem pe_un {op:UnaryOp} {r:V→Hp→VK→Prop} (ho:UnR X (unaryOp op) r) (ha:PE X a ta):PE X (.UnaryOp op a pos) (tUn r ta):=by
 intro pins s σ H Q I h
 exact UnaryOp_ (thn (ha pins s σ H _ I h) fun v s1 ⟨x,H1,I1,r1,q1⟩=>ho pins s1 σ H1 x v Q I1 r1 q1)
theorem opI {f:Value→Value→Sem Value} {C:Int→Int→Prop} {g:Int→Int→Int}
  (rule:∀ (i j:Int) (t u:Tok) (s:Shared) (Q:Value→Shared→Prop) (E:Value→Shared→Prop),C i j→Q (.int (g i j) s.toks) { s with toks:=s.toks+1 }→wpAny (model X.prog X.w) X.A (f (.int i t) (.int j u)) Q E s) :
  OpR X f (rI C fun i j=>.int (g i j)):=by
 intro pins s σ H x y v u Q I rx ry h
 obtain ⟨i,j,rfl,rfl,hc,q⟩:=h
 obtain ⟨t,rfl⟩:=rx
 obtain ⟨t',rfl⟩:=ry
 exact rule i j t t' s _ _ hc ⟨.int (g i j),H,I.tok _,⟨_,rfl⟩,q⟩
theorem opI0 {f:Value→Value→Sem Value} {g:Int→Int→Int}
  (rule:∀ (i j:Int) (t u:Tok) (s:Shared) (Q:Value→Shared→Prop) (E:Value→Shared→Prop),Q (.int (g i j) s.toks) { s with toks:=s.toks+1 }→wpAny (model X.prog X.w) X.A (f (.int i t) (.int j u)) Q E s) :
  OpR X f (rI0 fun i j=>.int (g i j)):=by
 intro pins s σ H x y v u Q I rx ry h
 obtain ⟨i,j,rfl,rfl,q⟩:=h
 obtain ⟨t,rfl⟩:=rx
 obtain ⟨t',rfl⟩:=ry
 exact rule i j t t' s _ _ ⟨.int (g i j),H,I.tok _,⟨_,rfl⟩,q⟩
theorem opB0 {f:Value→Value→Sem Value} {g:Int→Int→Bool}
  (rule:∀ (i j:Int) (t u:Tok) (s:Shared) (Q:Value→Shared→Prop) (E:Value→Shared→Prop),Q (.bool (g i j)) s→wpAny (model X.prog X.w) X.A (f (.int i t) (.int j u)) Q E s) :
  OpR X f (rI0 fun i j=>.bl (g i j)):=by
 intro pins s σ H x y v u Q I rx ry h
 obtain ⟨i,j,rfl,rfl,q⟩:=h
 obtain ⟨t,rfl⟩:=rx
 obtain ⟨t',rfl⟩:=ry
 exact rule i j t t' s _ _ ⟨.bl (g i j),H,I,rfl,q⟩
noncomputable def CDiv (i j:Int):Prop:=0<j∧j<1073741824
noncomputable def CMul (i j:Int):Prop:=(-(2 ^ 64)<i∧i<2 ^ 64)∨(-(2 ^ 64)<j∧j<2 ^ 64)
theorem CMul.ok {i j:Int} (h:CMul i j):IntMulOk i j:=by
 rcases h with ⟨h1,h2⟩ | ⟨h1,h2⟩
 ·exact .of_left (intBits_le_64 h1 h2)
 ·exact .of_right (intBits_le_64 h1 h2)
theorem op_add:OpR X (binaryOp .Add) (rI0 fun i j=>.int (i+j)):=opI0 fun _ _ _ _ _ _ _ q=>add_int q
theorem op_sub:OpR X (binaryOp .Sub) (rI0 fun i j=>.int (i - j)):=opI0 fun _ _ _ _ _ _ _ q=>sub_int q
theorem op_mul:OpR X (binaryOp .Mult) (rI CMul fun i j=>.int (i*j)):=opI fun _ _ _ _ _ _ _ hc q=>mul_int q hc.ok
theorem a4J:OpR X (binaryOp .FloorDiv) (rI CDiv fun i j=>.int (i / j)):=opI fun i j _ _ _ _ _ hc q=>by
 have h1:(0:Int)<j:=hc.1
 have h2:j<1073741824:=hc.2
 exact floordiv_int (by omega) (by rw [Int.fdiv_eq_ediv_of_nonneg i (by omega)];exact q) (.inl (PyProof.noPylong_small (by omega)))
theorem op_mod:OpR X (binaryOp .Mod) (rI (fun _ j=>0<j) fun i j=>.int (i % j)):=opI fun i j _ _ _ _ _ hc q=>by
 have h1:(0:Int)<j:=hc
 exact mod_int' (by omega) (by rw [Int.fmod_eq_emod_of_nonneg i (by omega)];exact q)
theorem unI {f:Value→Sem Value} {g:Int→Int}
  (rule:∀ (i:Int) (t:Tok) (s:Shared) (Q:Value→Shared→Prop) (E:Value→Shared→Prop),Q (.int (g i) s.toks) { s with toks:=s.toks+1 }→wpAny (model X.prog X.w) X.A (f (.int i t)) Q E s) :
  UnR X f (rU fun i=>.int (g i)):=by
 intro pins s σ H x v Q I rx h
 obtain ⟨i,rfl,q⟩:=h
 obtain ⟨t,rfl⟩:=rx
 exact rule i t s _ _ ⟨.int (g i),H,I.tok _,⟨_,rfl⟩,q⟩
theorem un_neg:UnR X (unaryOp .USub) (rU fun i=>.int (-i)):=unI fun _ _ _ _ _ q=>neg_int q
end
noncomputable def scal:V→V→Bool
 | .non,.non=>true | .non,.int _=>true | .int _,.non=>true | .non,.bl _=>true | .bl _,.non=>true | .non,.str _=>true | .str _,.non=>true
 | .int _,.int _=>true | .bl _,.bl _=>true | .str _,.str _=>true | .byt _,.byt _=>true
 | .int _,.str _=>true | .str _,.int _=>true | .bl _,.str _=>true | .str _,.bl _=>true
 | _,_=>false
noncomputable def rEq:R2:=fun x y H Q=>scal x y=true∧Q (.bl (decide (x=y))) H
noncomputable def rNe:R2:=fun x y H Q=>scal x y=true∧Q (.bl (!decide (x=y))) H
theorem zP {i j:Int}:decide (V.int i=V.int j)=(i==j):=by
 rw [Bool.eq_iff_iff]
 simp
theorem a3z {i j:Bool}:decide (V.bl i=V.bl j)=(i==j):=by
 rw [Bool.eq_iff_iff]
 simp
theorem zO {i j:Str}:decide (V.str i=V.str j)=(i==j):=by
 rw [Bool.eq_iff_iff]
 simp
theorem zQ {i j:Array UInt8}:decide (V.byt i=V.byt j)=(i.toList==j.toList):=by
 rw [Bool.eq_iff_iff]
 cases i
 cases j
 simp
section
variable {X:Cx} {a b c:Expr} {ta tb tc:TE} {pos:Pos}
theorem aT {pins:List (Addr×Obj)} {σ:St} {H:Hp} {s:Shared} {Q:VK} {k k':Bool} (I:Inv X pins σ H s) (q:Q (.bl k) H) (e:k=k'):EP X pins σ Q (.bool k') s:=by
 subst e
 exact ⟨.bl k,H,I,rfl,q⟩
theorem a2c:OpR X (compareOp .Eq) rEq:=by
 intro pins s σ H x y v u Q I rx ry h
 obtain ⟨hs,q⟩:=h
 cases x with
 | non=>
  cases rx
  cases y with
  | non=>cases ry;exact PySem.EqNone.eq_none_none (aT I q (by simp))
  | bl j=>cases ry;exact PySem.EqNone.eq_none_bool (aT I q (by simp))
  | int j=>obtain ⟨t',rfl⟩:=ry;exact PySem.EqNone.eq_none_int (aT I q (by simp))
  | str j=>obtain ⟨t',rfl⟩:=ry;exact PySem.EqNone.eq_none_str (aT I q (by simp))
  | _=>exact absurd (show false=true from hs) Bool.false_ne_true
 | bl i=>
  cases rx
  cases y with
  | non=>cases ry;exact PySem.EqNone.eq_bool_none (aT I q (by simp))
  | bl j=>cases ry;exact eq_bool (aT I q a3z)
  | str j=>obtain ⟨t',rfl⟩:=ry;exact PySem.EqMixed.eq_bool_str (aT I q (by simp))
  | _=>exact absurd (show false=true from hs) Bool.false_ne_true
 | int i=>
  obtain ⟨t,rfl⟩:=rx
  cases y with
  | non=>cases ry;exact PySem.EqNone.eq_int_none (aT I q (by simp))
  | int j=>obtain ⟨t',rfl⟩:=ry;exact eq_int (aT I q zP)
  | str j=>obtain ⟨t',rfl⟩:=ry;exact PySem.EqMixed.eq_int_str (aT I q (by simp))
  | _=>exact absurd (show false=true from hs) Bool.false_ne_true
 | str i=>
  obtain ⟨t,rfl⟩:=rx
  cases y with
  | non=>cases ry;exact PySem.EqNone.eq_str_none (aT I q (by simp))
  | bl j=>cases ry;exact PySem.EqMixed.eq_str_bool (aT I q (by simp))
  | int j=>obtain ⟨t',rfl⟩:=ry;exact PySem.EqMixed.eq_str_int (aT I q (by simp))
  | str j=>obtain ⟨t',rfl⟩:=ry;exact eq_str (aT I q zO)
  | _=>exact absurd (show false=true from hs) Bool.false_ne_true
 | byt i=>
  obtain ⟨t,rfl⟩:=rx
  cases y with
  | byt j=>obtain ⟨t',rfl⟩:=ry;exact PySem.W.eq_bytes (aT I q zQ)
  | _=>exact absurd (show false=true from hs) Bool.false_ne_true
 | _=>cases y<;>exact absurd (show false=true from hs) Bool.false_ne_true
theorem a2b:OpR X (compareOp .NotEq) rNe:=by
 intro pins s σ H x y v u Q I rx ry h
 obtain ⟨hs,q⟩:=h
 cases x with
 | non=>
  cases rx
  cases y with
  | non=>cases ry;exact PySem.EqNone.ne_none_none (aT I q (by simp))
  | bl j=>cases ry;exact PySem.EqNone.ne_none_bool (aT I q (by simp))
  | int j=>obtain ⟨t',rfl⟩:=ry;exact PySem.EqNone.ne_none_int (aT I q (by simp))
  | str j=>obtain ⟨t',rfl⟩:=ry;exact PySem.EqNone.ne_none_str (aT I q (by simp))
  | _=>exact absurd (show false=true from hs) Bool.false_ne_true
 | bl i=>
  cases rx
  cases y with
  | non=>cases ry;exact PySem.EqNone.ne_bool_none (aT I q (by simp))
  | bl j=>cases ry;exact ne_bool (aT I q (congrArg not a3z))
  | str j=>obtain ⟨t',rfl⟩:=ry;exact PySem.EqMixed.ne_bool_str (aT I q (by simp))
  | _=>exact absurd (show false=true from hs) Bool.false_ne_true
 | int i=>
  obtain ⟨t,rfl⟩:=rx
  cases y with
  | non=>cases ry;exact PySem.EqNone.ne_int_none (aT I q (by simp))
  | int j=>obtain ⟨t',rfl⟩:=ry;exact ne_int (aT I q (congrArg not zP))
  | str j=>obtain ⟨t',rfl⟩:=ry;exact PySem.EqMixed.ne_int_str (aT I q (by simp))
  | _=>exact absurd (show false=true from hs) Bool.false_ne_true
 | str i=>
  obtain ⟨t,rfl⟩:=rx
  cases y with
  | non=>cases ry;exact PySem.EqNone.ne_str_none (aT I q (by simp))
  | bl j=>cases ry;exact PySem.EqMixed.ne_str_bool (aT I q (by simp))
  | int j=>obtain ⟨t',rfl⟩:=ry;exact PySem.EqMixed.ne_str_int (aT I q (by simp))
  | str j=>obtain ⟨t',rfl⟩:=ry;exact ne_str (aT I q (congrArg not zO))
  | _=>exact absurd (show false=true from hs) Bool.false_ne_true
 | byt i=>
  obtain ⟨t,rfl⟩:=rx
  cases y with
  | byt j=>obtain ⟨t',rfl⟩:=ry;exact PySem.W.ne_bytes (aT I q (congrArg not zQ))
  | _=>exact absurd (show false=true from hs) Bool.false_ne_true
 | _=>cases y<;>exact absurd (show false=true from hs) Bool.false_ne_true
theorem op_lt:OpR X (compareOp .Lt) (rI0 fun i j=>.bl (decide (i<j))):=opB0 fun _ _ _ _ _ _ _ q=>lt_int q
theorem op_le:OpR X (compareOp .LtE) (rI0 fun i j=>.bl (decide (i≤j))):=opB0 fun _ _ _ _ _ _ _ q=>le_int q
theorem op_gt:OpR X (compareOp .Gt) (rI0 fun i j=>.bl (decide (j<i))):=opB0 fun _ _ _ _ _ _ _ q=>gt_int q
theorem op_isN:OpR X (compareOp .Is) (fun x y H Q=>y=.non∧Q (.bl (decide (x=.non))) H):=by
 intro pins s σ H x y v u Q I rx ry h
 obtain ⟨rfl,q⟩:=h
 cases ry
 refine is_none_gen (aT I q ?_)
 cases x<;>first
  | (cases rx;rfl)
  | (obtain ⟨t,rfl⟩:=rx;rfl)
theorem wY (b:Expr) {op:CmpOp} (h:op≠.In:=by decide) (h2:op≠.NotIn:=by decide):behindInMarks op b=false:=by
 have e1:(op==CmpOp.In)=false:=by cases op<;>first | rfl | exact absurd rfl h
 have e2:(op==CmpOp.NotIn)=false:=by cases op<;>first | rfl | exact absurd rfl h2
 cases b<;>simp [behindInMarks,e1,e2]
theorem a4D {op:CmpOp} {r:R2} (ho:OpR X (compareOp op) r) (ha:PE X a ta) (hb:PE X b tb) (hm:behindInMarks op b=false):PE X (.Compare a [op] [b] pos) (tOp r ta tb):=by
 intro pins s σ H Q I h
 exact wpAny_Compare1 (binT ha hb I h fun v u s2 x y H2 I2 rx ry q=>ho pins s2 σ H2 x y v u Q I2 rx ry q) hm
noncomputable def tTest (t:TE):TT:=fun σ H Q=>t σ H fun x H'=>∃ k,x=.bl k∧Q k H'
theorem yP {op:CmpOp} {r:R2} (ho:OpR X (compareOp op) r) (ha:PE X a ta) (hb:PE X b tb) (hm:behindInMarks op b=false):PT X (.Compare a [op] [b] pos) (tTest (tOp r ta tb)):=by
 intro pins s σ H Q I h
 refine wpAny_isTrue_Compare1 (thn (ha pins s σ H _ I h) fun v s1 ⟨x,H1,I1,r1,q1⟩=>thn (hb pins s1 σ H1 _ I1 q1) fun u s2 ⟨y,H2,I2,r2,q2⟩=>
  thn (ho pins s2 σ H2 x y v u _ I2 r1 r2 q2) fun c s3 ⟨z,H3,I3,r3,k,e,q3⟩=>?_) hm
 subst e
 cases r3
 exact wpAny_truthy_bool ⟨H3,I3,q3⟩
noncomputable def TruV (K:PySem.W.Frag) (x:V) (H:Hp) (k:Bool):Prop:=
 match x with
 | .non=>k=false
 | .bl b=>k=b
 | .int i=>k=(i != 0)
 | .str y=>y.length≤sizeLine∧k=((y.length:Int) != 0)
 | .byt y=>y.size≤sizeLine∧k=((y.size:Int) != 0)
 | .ref p=>(∃ xs,SqL K H p xs∧k=!xs.isEmpty)∨(∃ xs,SqT K H p xs∧k=!xs.isEmpty)∨∃ kvs,H p=some (.dK kvs)∧k=!kvs.isEmpty
 | _=>False
theorem xK {κ:Type} {kvs:List (κ×V)} {vs:List (κ×Value)} (r:KV kvs vs):(!vs.isEmpty)=!kvs.isEmpty:=by
 cases r<;>rfl
theorem oV {xs:List V} {its:List Value} (r:aR xs its):(!its.toArray.isEmpty)=!xs.isEmpty:=by
 cases r<;>simp
theorem lU:(sizeLine:Nat)<2 ^ 63:=by rw [sizeLine_eq];decide
theorem tru_ok:TruR X (fun x H Q=>∃ k,TruV X.K x H k∧Q k H):=by
 intro pins s σ H x v Q I rx h
 obtain ⟨k,e,q⟩:=h
 have hl:=lU
 have hs:sizeLine=16777216:=sizeLine_eq
 cases x with
 | non=>
  cases rx
  have e':k=false:=e
  subst e'
  exact truthy_none ⟨H,I,q⟩
 | bl b=>
  cases rx
  have e':k=b:=e
  subst e'
  exact wpAny_truthy_bool ⟨H,I,q⟩
 | int i=>
  obtain ⟨t,rfl⟩:=rx
  have e':k=(i != 0):=e
  subst e'
  exact PySem.P.truthy_int ⟨H,I,q⟩
 | str y=>
  obtain ⟨t,rfl⟩:=rx
  obtain ⟨hy,e'⟩:y.length≤sizeLine∧k=((y.length:Int) != 0):=e
  subst e'
  exact PySem.P.truthy_str (by omega) ⟨H,I.tok _,q⟩
 | byt y=>
  obtain ⟨t,rfl⟩:=rx
  obtain ⟨hy,e'⟩:y.size≤sizeLine∧k=((y.size:Int) != 0):=e
  subst e'
  exact PySem.W.truthy_bytes (by omega) ⟨H,I.tok _,q⟩
 | ref p=>
  cases rx
  have e':(∃ xs,SqL X.K H p xs∧k=!xs.isEmpty)∨(∃ xs,SqT X.K H p xs∧k=!xs.isEmpty)∨∃ kvs,H p=some (.dK kvs)∧k=!kvs.isEmpty:=e
  rcases e' with ⟨xs,hx,e'⟩ | ⟨xs,hx,e'⟩ | ⟨kvs,hx,e'⟩
  ·subst e'
   obtain ⟨its,r,pl,hz⟩:=I.list hx
   have hlen:=r.length
   exact wpAny_truthy_list pl.isList (by simp only [List.size_toArray];omega) ⟨H,I.tok _,by rw [oV r];exact q⟩
  ·subst e'
   obtain ⟨its,r,pl,hz⟩:=I.tuple hx
   have hlen:=r.length
   exact truthy_tuple pl (by simp only [List.size_toArray];omega) ⟨H,I.tok _,by rw [oV r];exact q⟩
  ·subst e'
   obtain ⟨hz,hS,vs,r,m⟩:kvs.length≤sizeLine∧(p==sysModules)=false∧∃ vs,KV kvs vs∧s.heap.DictOf (aP X.prog X.w) p vs:=I.hok p _ hx
   have hlen:kvs.length=vs.length:=Paired.length r
   exact wpAny_truthy_dict hS m (by omega) ⟨H,I.tok _,by rw [xK r];exact q⟩
 | _=>exact (show False from e).elim
theorem a1M (ha:PE X a ta) (he:∀ whole,isTrue a X.env whole=(do let v ←whole;standAt a.pos;holding [v] (truthy v))) :
  PT X a (fun σ H Q=>ta σ H fun x H'=>∃ k,TruV X.K x H' k∧Q k H'):=by
 intro pins s σ H Q I h
 exact isTrue_plain (thn (ha pins s σ H _ I h) fun v s1 ⟨x,H1,I1,r1,q1⟩=>tru_ok pins s1 σ H1 x v Q I1 r1 q1) (he _)
theorem wX:OpR X (binaryOp .Add) (fun x y H Q=>∃ i j,x=.str i∧y=.str j∧i.length+j.length≤sizeLine∧Q (.str (i++j)) H):=by
 intro pins s σ H x y v u Q I rx ry h
 obtain ⟨i,j,rfl,rfl,hz,q⟩:=h
 obtain ⟨t,rfl⟩:=rx
 obtain ⟨t',rfl⟩:=ry
 exact add_str (fun t' tk=>⟨.str (i++j),H,I.tok _,⟨_,rfl⟩,q⟩) hz
theorem vals1 {x:V} {us:List Value} (r:aR [x] us):∃ u,us=[u]∧RelV x u:=by
 cases r with
 | cons r1 r2=>cases r2;exact ⟨_,rfl,r1⟩
theorem vals2 {x y:V} {us:List Value} (r:aR [x,y] us):∃ u w',us=[u,w']∧RelV x u∧RelV y w':=by
 cases r with
 | cons r1 r2=>
  cases r2 with
  | cons r3 r4=>cases r4;exact ⟨_,_,rfl,r1,r3⟩
theorem a1a (hc:X.calm=true):dP X (.builtin "max") (fun xs H Q=>∃ i j,xs=[.int i,.int j]∧Q (.int (if j > i then j else i)) H):=by
 intro pins s σ H xs us Q I r h
 obtain ⟨i,j,rfl,q⟩:=h
 obtain ⟨u,w',rfl,⟨t,rfl⟩,⟨t',rfl⟩⟩:=vals2 r
 refine max_two_ints (I.ok.hd hc) fun h' tk k=>⟨_,H,I.kept k,?_,q⟩
 by_cases hj:j > i
 ·rw [if_pos hj,if_pos hj];exact ⟨_,rfl⟩
 ·rw [if_neg hj,if_neg hj];exact ⟨_,rfl⟩
theorem a0Y (hc:X.calm=true):dP X (.builtin "min") (fun xs H Q=>∃ i j,xs=[.int i,.int j]∧Q (.int (if j<i then j else i)) H):=by
 intro pins s σ H xs us Q I r h
 obtain ⟨i,j,rfl,q⟩:=h
 obtain ⟨u,w',rfl,⟨t,rfl⟩,⟨t',rfl⟩⟩:=vals2 r
 refine min_two_ints (I.ok.hd hc) fun h' tk k=>⟨_,H,I.kept k,?_,q⟩
 by_cases hj:j<i
 ·rw [if_pos hj,if_pos hj];exact ⟨_,rfl⟩
 ·rw [if_neg hj,if_neg hj];exact ⟨_,rfl⟩
end
section
variable {prog:Program} {w:World} {A:Around} {E:Value→Shared→Prop} {s:Shared} {K:PySem.W.Frag} {x dx C f:Addr} {mA:Str→Option Value} {name:Str} {v:Value}
end
section
variable {P:Program} {w:World} {H H':Hp} {h h':Heap} {a C dx:Addr} {fs fs':List (Str×V)}
end
section
variable {X:Cx} {pins:List (Addr×Obj)} {σ:St} {H:Hp} {s:Shared} {a C dx:Addr} {fs:List (Str×V)} {f:Str} {v:V} {A:Around} {E:Value→Shared→Prop}
end
section
variable {X:Cx} {o e value:Expr} {f:Str} {pos pos' tpos:Pos} {ta tv:TE}
end
section
variable {X:Cx} {pins:List (Addr×Obj)} {σ:St} {H:Hp} {s:Shared} {A:Around} {E:Value→Shared→Prop} {Q:Value→Shared→Prop} {c:Value} {b:Bool}
end
structure Room (k:Nat) (A:Around):Prop where
 hd:A.handled=none
 dp:A.depth+3*k+5<recursionLimit
 un:A.units+16*k+200<cLine
theorem Room.mono {j k:Nat} {A:Around} (r:Room k A) (h:j≤k):Room j A:=⟨r.hd,by have:=r.dp;omega,by have:=r.un;omega⟩
theorem Room.deeper {k:Nat} {A:Around} (r:Room (k+1) A) (env:Env):Room k (A.deeper env):=
 ⟨r.hd,by have:=r.dp;show A.depth+1+3*k+5<_;omega,by have:=r.un;show A.units+3+16*k+200<_;omega⟩
theorem Room.in1 {k:Nat} {A:Around} (r:Room (k+1) A):Room k A.in1:=
 ⟨r.hd,by have:=r.dp;show A.depth+3*k+5<_;omega,by have:=r.un;show A.units+1+16*k+200<_;omega⟩
theorem Room.depth {k:Nat} {A:Around} (r:Room k A):A.depth<recursionLimit:=by have:=r.dp;omega
theorem Room.units {k:Nat} {A:Around} (r:Room k A):A.units+64<cLine:=by have:=r.un;omega
noncomputable def tNil:TA:=fun _ H Q=>Q [] H
noncomputable def a6a (ta:TE) (tr:TA):TA:=fun σ H Q=>ta σ H fun x H1=>tr σ H1 fun xs H2=>Q (x::xs) H2
section
variable {X:Cx} {e:Expr} {es:List Expr} {te:TE} {t:TA} {pos:Pos}
theorem iZ:PA X [] tNil:=fun _ _ _ _ H Q I h=>Calls.spliced_nil ⟨[],H,I,.nil,h⟩
theorem dR (ha:PE X e te) (hr:PA X es t) (hs:starEach (e::es) X.env=(false,eval e X.env)::starEach es X.env:=by rfl):PA X (e::es) (a6a te t):=by
 intro pos pins s σ H Q I h
 rw [hs]
 show wpAny _ _ (spliced ((false,eval e X.env)::backTo pos (starEach es X.env))) _ _ s
 refine Calls.spliced_cons (thn (ha pins s σ H _ I h) fun u s1 ⟨x,H1,I1,r1,q1⟩=>?_)
 exact thn (hr pos pins s1 σ H1 _ I1 q1) fun us s2 ⟨xs,H2,I2,r2,q2⟩=>⟨x::xs,H2,I2,.cons r1 r2,q2⟩
noncomputable def tTup (t:TA):TE:=fun σ H Q=>t σ H fun xs H1=>xs.length≤sizeLine∧∀ p,H1 p=none→Q (.ref p) (upd H1 p (.tup xs))
noncomputable def tLst (t:TA):TE:=fun σ H Q=>t σ H fun xs H1=>xs.length≤sizeLine∧∀ p,H1 p=none→Q (.ref p) (upd H1 p (.lst xs))
theorem pe_tup {x1} (h:PA X es t):PE X (.Tuple es x1 pos) (tTup t):=by
 intro pins s σ H Q I hq
 refine wpAny_Tuple_spliced (thn (h pos pins s σ H _ I hq) fun us s1 ⟨xs,H1,I1,r,z,q⟩=>⟨by rw [←r.length];exact z,?_⟩)
 have hf:H1 s1.heap.objs.size=none:=I1.hok.fresh (Nat.le_refl _)
 refine ⟨.ref s1.heap.objs.size,upd H1 s1.heap.objs.size (.tup xs),I1.laid (t':=s1.toks) (fun b u e=>Heap.get?_push_of_some _ e) (Nat.le_refl _) ?_,rfl,q _ hf⟩
 exact ⟨z,us,r,⟨_,Heap.get?_push_size _ rfl,rfl,_,rfl⟩⟩
theorem a1W (h:PA X es t):PE X (.List es pos) (tLst t):=by
 intro pins s σ H Q I hq
 refine wpAny_List_spliced (thn (h pos pins s σ H _ I hq) fun us s1 ⟨xs,H1,I1,r,z,q⟩=>⟨by rw [←r.length];exact z,?_⟩)
 have hf:H1 s1.heap.objs.size=none:=I1.hok.fresh (Nat.le_refl _)
 refine ⟨.ref s1.heap.objs.size,upd H1 s1.heap.objs.size (.lst xs),I1.laid (t':=s1.toks) (fun b u e=>Heap.get?_push_of_some _ e) (Nat.le_refl _) ?_,rfl,q _ hf⟩
 exact ⟨z,us,0,r,Heap.get?_push_size _ rfl⟩
end
noncomputable abbrev Sp:=List V→Hp→VK→XK→Prop
noncomputable abbrev CXT:=List Env→Hp→Shared→XK→Value→Shared→Prop
structure Env0 (P:Program) (w:World) (K:PySem.W.Frag) (mg:Str→Option Value) (base:Heap) (A:Around) (outer:List Env) (s:Shared) (H:Hp):Prop where
 frames:A.frames=some outer
 mod:Mod K mg base
 bs:∀ b o,base.get? b=some o→s.heap.get? b=some o∧H b=none
 bsz:base.objs.size≤s.heap.objs.size
 funs:s.heap.FunFrames base outer
 frf:∀ b∈frs outer,H b=none
 hok:HOk P w H s.heap
 bare:AllBare s.gens
noncomputable def CE (outer:List Env) (P:Program) (w:World) (H:Hp) (s:Shared) (Q:VK) (u:Value) (s':Shared):Prop:=
 ∃ v H',s'.os=s.os∧AllBare s'.gens∧Un (frs outer) [] H H' s.heap s'.heap∧HOk P w H' s'.heap∧RelV v u∧Q v H'
noncomputable def CR (CX:CXT) (outer:List Env) (P:Program) (w:World) (H:Hp) (s:Shared) (Q:VK) (E:XK) (r:Result) (s':Shared):Prop:=
 match r with
 | .ok (.ret u)=>CE outer P w H s Q u s'
 | .ok _=>False
 | .error e=>CX outer H s E e s'
structure FnOk (P:Program) (w:World) (K:PySem.W.Frag) (mg:Str→Option Value) (base:Heap) (CX:CXT) (k:Nat) (f:Addr) (fd:FuncData) (ps:List Str) (sp:Sp):Prop where
 len:∀ vs H Q E,sp vs H Q E→vs.length=ps.length
 run:∀ (A:Around) (outer:List Env) (s:Shared) (H:Hp) (args:Args) (us:List Value) (vs:List V) (Q:VK) (E:XK),Room k A→Env0 P w K mg base A outer s H→BindsTo s fd args (ps.zip us)→aR vs us→sp vs H Q E →
  codeAny (model P w) A (.call (.ref f) args) (CR CX outer P w H s Q E) s
theorem Env0.in1 {P:Program} {w:World} {K:PySem.W.Frag} {mg:Str→Option Value} {base:Heap} {A:Around} {outer:List Env} {s:Shared} {H:Hp} (e:Env0 P w K mg base A outer s H) :
  Env0 P w K mg base A.in1 outer s H:=⟨e.frames,e.mod,e.bs,e.bsz,e.funs,e.frf,e.hok,e.bare⟩
section
variable {X:Cx} {pins:List (Addr×Obj)} {σ:St} {H:Hp} {s s':Shared}
theorem Inv.env0 (I:Inv X pins σ H s):Env0 X.prog X.w X.K X.mg X.base X.A X.stack s H:=
 ⟨I.ok.frames,I.ok.mod,I.bs,Nat.le_trans I.ok.bsz I.sz,I.stack,I.stkFree,I.hok,I.bare⟩
theorem Inv.after {Q:VK} {u:Value} (I:Inv X pins σ H s) (h:CE X.stack X.prog X.w H s Q u s'):EP X pins σ Q u s':=by
 obtain ⟨v,H',os,bare,un,hok,r,q⟩:=h
 obtain ⟨hh,g,d,t,os'⟩:=s'
 obtain rfl:os'=s.os:=os
 exact ⟨v,H',I.call (h':=hh) (g':=g) (d':=d) (t':=t) (ch:=[]) un hok bare (fun b z=>absurd z (by simp)),r,q⟩
end
noncomputable def tCall (sp:Sp) (dvs:List V) (E:XK) (t:TA):TE:=fun σ H Q=>t σ H fun vs H1=>sp (vs++dvs) H1 Q E
noncomputable def Binds (K:PySem.W.Frag) (fd:FuncData) (ps:List Str) (ds:List Value):Prop:=
 ∀ (s:Shared) (us:List Value),K.In s.heap→(us++ds).length=ps.length→BindsTo s fd ⟨us,[]⟩ (ps.zip (us++ds))
theorem Binds.all {K:PySem.W.Frag} {fd:FuncData} {ps:List Str} (h:∀ us:List Value,us.length=ps.length→bindArgs fd ⟨us,[]⟩=pure (ps.zip us)):Binds K fd ps []:=fun s us _ hl=>by
 rw [List.append_nil] at hl ⊢
 exact .of_eq (h us hl)
noncomputable def yG (CX:CXT) (X:Cx) (E:XK):Prop:=∀ (pins:List (Addr×Obj)) (σ:St) (H:Hp) (s:Shared) (e:Value) (s':Shared),Inv X pins σ H s→CX X.stack H s E e s'→X.xe e s'
section
variable {X:Cx} {CX:CXT} {k:Nat} {f C:Addr} {fd:FuncData} {ps:List Str} {sp:Sp} {dvs:List V} {ds:List Value} {E:XK} {x m:Str} {p pos apos:Pos} {e o:Expr} {es:List Expr} {ta:TE} {t:TA}
theorem run_fn {pins:List (Addr×Obj)} {σ:St} {H:Hp} {s:Shared} {Q:VK} {us:List Value} {vs:List V} (F:FnOk X.prog X.w X.K X.mg X.base CX k f fd ps sp) (hr:Room k X.A) (hb:Binds X.K fd ps ds) (hd:aR dvs ds) (hx:yG CX X E)
  (I:Inv X pins σ H s) (r:aR vs us) (h:sp (vs++dvs) H Q E):wpAny (model X.prog X.w) X.A (call (.ref f) us) (EP X pins σ Q) X.xe s:=by
 have r2:aR (vs++dvs) (us++ds):=r.append hd
 have hl:(us++ds).length=ps.length:=by rw [←r2.length];exact F.len _ _ _ _ h
 refine wpAny_call (codeAny_mono (F.run X.A X.stack s H ⟨us,[]⟩ (us++ds) (vs++dvs) Q E hr I.env0 (hb s us I.kIn hl) r2 h) fun r s' hq=>?_)
 cases r with
 | error e=>exact hx pins σ H s e s' I hq
 | ok fl=>
  cases fl with
  | ret u=>exact I.after hq
  | next=>exact False.elim hq
  | brk=>exact False.elim hq
  | cont=>exact False.elim hq
theorem yU (F:FnOk X.prog X.w X.K X.mg X.base CX k f fd ps sp) (hr:Room k X.A) (hg:Gl X x) (hm:X.mg x=some (.ref f)) (hk:PySem.W.keepIn X.K (.ref f)=true) (hb:Binds X.K fd ps ds) (hd:aR dvs ds) (hx:yG CX X E)
  (ha:PA X (e::es) t) (hdb:(x==("__debug__" : Str))=false:=by decide) (he:starEach (e::es) X.env=(false,eval e X.env)::starEach es X.env:=by rfl) (hpl:(backTo pos (starEach es X.env)).any (·.1)=false:=by rfl) :
  PE X (.Call (.Name x p) (e::es) [] pos) (tCall sp dvs E t):=by
 intro pins s σ H Q I h
 refine wpAny_Call_Name_kw (kK I hg hm ?_ hdb)
 refine PySem.W.callWith_K (h₀:=X.base) I.ok.mod.kin hk (thn (ha pos pins s σ H _ I h) fun us s1 ⟨vs,H1,I1,r,q⟩=>⟨I1.kIn,?_⟩) he hpl
 exact run_fn F hr hb hd hx I1 r q
end
noncomputable def PK (X:Cx) (kws:List Keyword) (t:TA):Prop:=
 ∀ (pos:Pos) (pins:List (Addr×Obj)) (s:Shared) (σ:St) (H:Hp) (Q:List V→Hp→Prop),Inv X pins σ H s→t σ H Q→wpAny (model X.prog X.w) X.A (evalAll ((backToKw pos (keywordEach kws X.env)).map (·.2))) (AP X pins σ Q) X.xe s
section
variable {X:Cx} {CX:CXT} {k:Nat} {f C:Addr} {fd:FuncData} {ps ks:List Str} {sp:Sp} {E:XK} {x m:Str} {p pos apos kpos:Pos} {e o:Expr} {es:List Expr} {kws:List Keyword} {te ta:TE} {t tk:TA} {nm:Option Str}
theorem pk_nil:PK X [] tNil:=fun _ _ _ _ H Q I h=>wpAny_evalAll_nil ⟨[],H,I,.nil,h⟩
theorem a4w (ha:PE X e te) (hr:PK X kws t):PK X (⟨nm,e,kpos⟩::kws) (a6a te t):=by
 intro pos pins s σ H Q I h
 show wpAny _ _ (evalAll ((do let v ←eval e X.env;standAt pos;pure v)::(backToKw pos (keywordEach kws X.env)).map (·.2))) _ _ s
 refine wpAny_evalAll_cons (wpAny_bind (thn (ha pins s σ H _ I h) fun u s1 ⟨x,H1,I1,r1,q1⟩=>wpAny_bind (wpAny_standAt (wpAny_pure ?_))))
 exact thn (hr pos pins s1 σ H1 _ I1 q1) fun us s2 ⟨xs,H2,I2,r2,q2⟩=>⟨x::xs,H2,I2,.cons r1 r2,q2⟩
variable {g:List Value→List Value→List Value} {gV:List V→List V→List V}
end
structure FnScope (N P:List Str) (sc:Scope):Prop where
 kind:sc.kind=.function
 co:sc.isCoroutine=false
 gen:sc.isGenerator=false
 nd:N.Nodup
 pre:N.take P.length=P
 par:∀ x∈P,sc.names.lookup x=some .local∨sc.names.lookup x=some .cell
 nofree:∀ y∈sc.names,y.2≠.free
theorem rN {kindOf:Str→Option NameKind} {x:Str}:∀ {binds:List (Str×Value)} {m:Str→Option Value},(∀ v,(x,v)∉binds)→bindL kindOf binds m x=m x
 | [],_,_=>rfl
 | (n,v)::r,m,h=>by
  unfold bindL
  rw [rN fun w hw=>h w (List.mem_cons_of_mem _ hw)]
  split
  ·have:x≠n:=by rintro rfl;exact h v List.mem_cons_self
   simp [this]
  ·rfl
theorem rQ {kindOf:Str→Option NameKind} {x:Str}:∀ {binds:List (Str×Value)} {m:Str→Option Value},(∀ v,(x,v)∉binds)→bindC kindOf binds m x=m x
 | [],_,_=>rfl
 | (n,v)::r,m,h=>by
  unfold bindC
  rw [rQ fun w hw=>h w (List.mem_cons_of_mem _ hw)]
  split
  ·rfl
  ·have:x≠n:=by rintro rfl;exact h v List.mem_cons_self
   simp [this]
theorem rP {kindOf:Str→Option NameKind} {x:Str} {v:Value}:∀ {P:List Str} {vs:List Value} {i:Nat} {m:Str→Option Value},P.Nodup→P[i]?=some x→vs[i]?=some v→kindOf x=some .local →
  bindL kindOf (P.zip vs) m x=some v
 | [],_,_,_,_,h,_,_=>by simp at h
 | _::_,[],_,_,_,_,h,_=>by simp at h
 | p::P,w::vs,0,m,nd,h1,h2,hk=>by
  simp at h1 h2;subst h1;subst h2
  show bindL kindOf ((p,w)::P.zip vs) m p=_
  unfold bindL
  rw [rN fun v hv=>(List.nodup_cons.mp nd).1 (List.of_mem_zip hv).1,if_pos hk]
  simp
 | p::P,w::vs,i+1,m,nd,h1,h2,hk=>by
  show bindL kindOf ((p,w)::P.zip vs) m x=_
  unfold bindL
  exact rP (i:=i) (List.nodup_cons.mp nd).2 (by simpa using h1) (by simpa using h2) hk
theorem rR {kindOf:Str→Option NameKind} {x:Str} {v:Value}:∀ {P:List Str} {vs:List Value} {i:Nat} {m:Str→Option Value},P.Nodup→P[i]?=some x→vs[i]?=some v→kindOf x≠some .local →
  bindC kindOf (P.zip vs) m x=some v
 | [],_,_,_,_,h,_,_=>by simp at h
 | _::_,[],_,_,_,_,h,_=>by simp at h
 | p::P,w::vs,0,m,nd,h1,h2,hk=>by
  simp at h1 h2;subst h1;subst h2
  show bindC kindOf ((p,w)::P.zip vs) m p=_
  unfold bindC
  rw [rQ fun v hv=>(List.nodup_cons.mp nd).1 (List.of_mem_zip hv).1,if_neg hk]
  simp
 | p::P,w::vs,i+1,m,nd,h1,h2,hk=>by
  show bindC kindOf ((p,w)::P.zip vs) m x=_
  unfold bindC
  exact rR (i:=i) (List.nodup_cons.mp nd).2 (by simpa using h1) (by simpa using h2) hk
noncomputable def start (N:List Str) (vs:List V):St:=vs.map some++List.replicate (N.length - vs.length) none
noncomputable def vR (CX:CXT) (P:Program) (w:World) (K:PySem.W.Frag) (mg:Str→Option Value) (base:Heap) (N:List Str) (qual:Str) (scope:Scope) (f:Addr) (cd:Value) (A:Around) (outer:List Env) (s:Shared) (H:Hp) (E:XK):Cx where
 prog:=P
 w:=w
 K:=K
 mg:=mg
 base:=base
 A:=A.deeper (envOfC qual scope s.heap.objs.size f cd)
 N:=N
 s₀:=s
 H₀:=H
 env:=envOfC qual scope s.heap.objs.size f cd
 outer:=outer
 stack:=envOfC qual scope s.heap.objs.size f cd::outer
 ex:=[]
 calm:=true
 fn:=fun _=>true
 pn:=[]
 xe:=fun e s'=>wpAny (model P w) (A.deeper (envOfC qual scope s.heap.objs.size f cd)) (leaving (envOfC qual scope s.heap.objs.size f cd) e) (fun _ s''=>CX outer H s E e s'') (fun e' s''=>CX outer H s E e' s'') s'
theorem kW {sc:Scope} {n:Nat} {x:Str} (h:sc.names.lookup x=some .cell):∃ c,(cellsFrom n sc.names []).lookup x=some c:=by
 have q:=PySem.W.cellsFrom_some sc.names n [] (.inl h)
 exact Option.isSome_iff_exists.mp q
theorem rD {CX:CXT} {P:Program} {w:World} {K:PySem.W.Frag} {mg:Str→Option Value} {base:Heap} {N ps:List Str} {qual:Str} {scope:Scope} {f:Addr} {cd:Value} {A:Around} {outer:List Env} {s s1:Shared} {H:Hp} {E:XK} {us:List Value} {vs:List V}
  (S:FnScope N ps scope) (hd:A.handled=none) (e0:Env0 P w K mg base A outer s H) (hl:vs.length=ps.length) (r:aR vs us)
  (x:InCallC s s.heap.objs.size (bindL (envOfC qual scope s.heap.objs.size f cd).kindOf (ps.zip us) fun _=>none) (cellsFrom (s.heap.objs.size+1) scope.names []) (bindC (envOfC qual scope s.heap.objs.size f cd).kindOf (ps.zip us) fun _=>none) s1) :
  Inv (vR CX P w K mg base N qual scope f cd A outer s H E) [] (start N vs) H s1:=by
 have hpl:ps.length≤N.length:=by have:=congrArg List.length S.pre;rw [List.length_take] at this;omega
 obtain ⟨h1,tk,rfl,hk⟩:=x.done
 have noA:∀ b:Addr,b∉(vR CX P w K mg base N qual scope f cd A outer s H E).ex:=fun b z=>absurd (show b∈([]:List Addr) from z) (by simp)
 refine ⟨⟨e0.mod,S.kind,rfl,rfl,Nat.le_refl _,fun y z c h1 h2=>?_,fun y hy=>?_,fun y c _ h=>?_,fun _=>hd,Around.frames_deeper e0.frames,.inr ⟨rfl,rfl⟩,fun b z=>absurd z (noA b),e0.bs,e0.bsz,fun b _ _=>noA b,fun b z=>absurd z (noA b),e0.funs,e0.frf⟩,
  rfl,e0.bare,Un.kept hk,⟨_,x.toInCall.ns,fun i y v h1 h2 h3=>?_⟩,fun y c h=>⟨_,x.cell y c h⟩,e0.hok.fresh (Nat.le_refl _),fun y c h=>?_,fun p hp=>absurd (show p∈([]:List (Addr×Obj)) from hp) (by simp),e0.hok.kept hk,?_⟩
 ·exact name_of_addr x.apart (PySem.mem_of_lookup h1) (PySem.mem_of_lookup h2)
 ·have hy:scope.names.lookup y=some .cell∨scope.names.lookup y=some .free:=hy
  rcases hy with hy | hy
  ·exact kW hy
  ·exact absurd rfl (S.nofree _ (PySem.mem_of_lookup hy))
 ·exact Nat.le_of_lt (x.above y c (PySem.mem_of_lookup h))
 ·have hi:i<vs.length:=by
   unfold start at h2
   by_cases hi:i<vs.length
   ·exact hi
   ·rw [List.getElem?_append_right (by simpa using hi)] at h2
    rw [List.getElem?_replicate] at h2
    split at h2<;>cases h2
  have ha:vs[i]?=some v:=by
   unfold start at h2
   rw [List.getElem?_append_left (by simpa using hi),List.getElem?_map] at h2
   cases e:vs[i]? with
   | none=>rw [e] at h2;cases h2
   | some a=>rw [e] at h2;cases h2;rfl
  obtain ⟨u,hu,rv⟩:=r.get ha
  have hp:ps[i]?=some y:=by
   rw [←S.pre,List.getElem?_take_of_lt (by omega)];exact h1
  have ndP:ps.Nodup:=by rw [←S.pre];exact S.nd.sublist (List.take_sublist _ _)
  refine ⟨u,rv,?_⟩
  rcases S.par y (List.mem_of_getElem? hp) with k | k
  ·exact .inl ⟨k,rP ndP hp hu k⟩
  ·obtain ⟨c,e⟩:=kW (n:=s.heap.objs.size+1) k
   refine .inr ⟨.inl k,c,e,?_⟩
   have q:=x.cell y c e
   rw [rR ndP hp hu (by show scope.names.lookup y≠_;rw [k];decide)] at q
   exact q
 ·exact e0.hok.fresh (Nat.le_of_lt (x.above y c (PySem.mem_of_lookup h)))
 ·unfold start
  show _=N.length
  rw [List.length_append,List.length_map,List.length_replicate]
  omega
theorem a3c {CX:CXT} {P:Program} {w:World} {K:PySem.W.Frag} {mg:Str→Option Value} {base:Heap} {k:Nat} {f:Addr} {name qual:Str} {params:Arguments} {body:List Stmt} {scope:Scope} {dV kV doc pm cdv ct oc:Value} {an od:Option Addr}
  {osl:Array (Option Value)} {N ps:List Str} {sp:Sp} (lk:K.lookup f=some ⟨oc,od,.func (PySem.W.fnOf name qual params body scope dV kV doc pm an cdv ct),osl⟩) (hcd:PySem.W.codeIn K cdv qual=true) (S:FnScope N ps scope)
  (len:∀ vs H Q E,sp vs H Q E→vs.length=ps.length)
  (hbody:∀ (A:Around) (outer:List Env) (s:Shared) (H:Hp) (vs:List V) (Q:VK) (E:XK),Room k (A.deeper (envOfC qual scope s.heap.objs.size f cdv))→sp vs H Q E →
   ∃ t,PSs (vR CX P w K mg base N qual scope f cdv A outer s H E) body t∧t { nx:=fun _ H'=>Q .non H',rt:=Q } (start N vs) H) :
  FnOk P w K mg base CX (k+1) f (PySem.W.fnOf name qual params body scope dV kV doc pm an cdv ct) ps sp:=by
 refine ⟨len,fun A outer s H args us vs Q E hr e0 hb r hsp=>?_⟩
 have hl:=len _ _ _ _ hsp
 have KX:K.In s.heap:=e0.mod.kin.keeps fun b o e=>(e0.bs b o e).1
 have lim:s.heap.NoLimit:=e0.mod.nolimit.keeps fun b o e=>(e0.bs b o e).1
 have hkind:∀ y∈ps.zip us,scope.names.lookup y.1=some .local∨(scope.names.lookup y.1=some .cell∧((cellsFrom (s.heap.objs.size+1) scope.names []).lookup y.1).isSome=true):=fun ⟨n,v⟩ hy=>by
  rcases S.par n (List.of_mem_zip hy).1 with q | q
  ·exact .inl q
  ·exact .inr ⟨q,PySem.W.cellsFrom_some _ _ _ (.inl q)⟩
 refine codeAny_call_function hr.depth (KX _ _ lk) rfl S.co S.gen rfl (PySem.W.codeRec_of KX hcd) (hb _ _ _ _ ?_)
 refine wpAny_newFunctionEnv_cells S.kind hkind fun env he s1 x=>?_
 subst he
 refine ⟨lim.keeps x.toInCall.keep,codeAny_func ?_⟩
 obtain ⟨t,ht,hq⟩:=hbody A outer s H vs Q E (hr.deeper _) hsp
 have I:Inv (vR CX P w K mg base N qual scope f cdv A outer s H E) [] (start N vs) H s1:=rD S hr.hd e0 hl r x
 refine wpAny_mono (ht [] s1 (start N vs) H _ I hq) (fun fl s' hs=>?_) fun e s' hs=>hs
 have fin:∀ {σ':St} {H':Hp} {v:V} {u:Value},Inv (vR CX P w K mg base N qual scope f cdv A outer s H E) [] σ' H' s'→RelV v u→Q v H'→CE outer P w H s Q u s':=
  fun {σ' H' v u} J rv q=>⟨v,H',J.os,J.bare,J.base,J.hok,rv,q⟩
 cases fl with
 | ret u=>
  obtain ⟨v,σ',H',J,rv,q⟩:=hs
  exact fin J rv q
 | next=>
  obtain ⟨σ',H',J,q⟩:=hs
  exact fin (v:=V.non) (u:=Value.none) J rfl q
 | brk=>
  obtain ⟨_,_,_,q⟩:=hs
  exact False.elim q
 | cont=>
  obtain ⟨_,_,_,q⟩:=hs
  exact False.elim q
section
variable {X:Cx} {x:Str} {p pos:Pos} {e:Expr} {es:List Expr} {t:TA} {id T:String} {r:List V→Hp→VK→Prop}
noncomputable def tCB (r:List V→Hp→VK→Prop) (t:TA):TE:=fun σ H Q=>t σ H fun vs H1=>r vs H1 Q
theorem oJ (hc:dP X (.builtin id) r) (hg:Gl X x) (hm:X.mg x=none) (hv:bootBuiltins x=some (.builtin id)) (ha:PA X (e::es) t) (hn:x ≠ "__name__":=by decide) (hdb:(x==("__debug__" : Str))=false:=by decide)
  (he:starEach (e::es) X.env=(false,eval e X.env)::starEach es X.env:=by rfl) (hpl:(backTo pos (starEach es X.env)).any (·.1)=false:=by rfl):PE X (.Call (.Name x p) (e::es) [] pos) (tCB r t):=by
 intro pins s σ H Q I h
 refine wpAny_Call_Name_kw (iG I hg hm hv ?_ hn hdb)
 exact PyProof.Rows.callWith_builtin1 (thn (ha pos pins s σ H _ I h) fun us s1 ⟨vs,H1,I1,r1,q1⟩=>hc pins s1 σ H1 vs us Q I1 r1 q1) he hpl
theorem lR (hc:dP X (.type T) r) (hg:Gl X x) (hm:X.mg x=none) (hv:bootBuiltins x=some (.type T)) (ha:PA X (e::es) t) (hn:x ≠ "__name__":=by decide) (hdb:(x==("__debug__" : Str))=false:=by decide)
  (he:starEach (e::es) X.env=(false,eval e X.env)::starEach es X.env:=by rfl) (hpl:(backTo pos (starEach es X.env)).any (·.1)=false:=by rfl):PE X (.Call (.Name x p) (e::es) [] pos) (tCB r t):=by
 intro pins s σ H Q I h
 refine wpAny_Call_Name_kw (iG I hg hm hv ?_ hn hdb)
 exact PyProof.Rows.callWith_type1 (thn (ha pos pins s σ H _ I h) fun us s1 ⟨vs,H1,I1,r1,q1⟩=>hc pins s1 σ H1 vs us Q I1 r1 q1) he hpl
end
end L2
namespace HT
open PySem PyProof.Rows
section
open PySem.SeqAt
open PySem.AutoSeq1 (wpAny_loadPart')
open PySem.MeetsSeq PySem.MeetsSeq2 PySem.MeetsSeq3
end
section
variable {prog:Program} {w:World} {A:Around} {E:Value→Shared→Prop} {s:Shared}
theorem cat_tup {t b:Addr} {vs ws:List Value} {Q:Value→Shared→Prop} (ht:IsTup s.heap t vs.toArray) (hb:IsTup s.heap b ws.toArray) (hv:vs≠[])
  (h1:ws=[]→Q (.ref t) s) (h2:ws≠[]→Q (.ref s.heap.objs.size) { s with heap:=s.heap.push { cls:=.type "tuple", data:=.seq (vs++ws).toArray } })
  (hsz:vs.length+ws.length≤sizeLine):wpAny (model prog w) A (binaryOp .Add (.ref t) (.ref b)) Q E s:=by
 obtain ⟨⟨cls,dd,data,sl⟩,ho,hc,n,hd⟩:=id ht
 obtain ⟨⟨cls2,dd2,data2,sl2⟩,ho2,hc2,n2,hd2⟩:=id hb
 simp only at hc hd hc2 hd2
 subst hc hd hc2 hd2
 have e:vs.toArray++ws.toArray=(vs++ws).toArray:=by simp
 by_cases hw:ws=[]
 ·exact concat_meets ⟨_,ho,rfl⟩ ⟨_,ho2,rfl⟩ noFill_tuple_add seq_tuple_add PySem.F.slot_tuple_add PySem.F.entry_tuple_add (PySem.F.args_tuple_add_2 _ _)
   (tuple_addW1 t b vs.toArray ws.toArray n n2 dd dd2 sl sl2 (by simpa using hv) (by simp [hw])) ⟨ho,ho2,h1 hw⟩
 ·refine concat_meets ⟨_,ho,rfl⟩ ⟨_,ho2,rfl⟩ noFill_tuple_add seq_tuple_add PySem.F.slot_tuple_add PySem.F.entry_tuple_add (PySem.F.args_tuple_add_2 _ _)
   (tuple_addW2 t b vs.toArray ws.toArray n n2 dd dd2 sl sl2 (by simpa using hv) (by simpa using hw) (by rw [List.size_toArray,List.size_toArray];exact hsz)) ⟨ho,ho2,?_⟩
  rw [e]
  exact h2 hw
noncomputable def sIx (n d:Nat):Option Int→Nat
 | none=>d
 | some v=>if v<0 then (v+(n:Int)).toNat else min v.toNat n
theorem sIx_nat (n d k:Nat):sIx n d (some (k:Int))=min k n:=by
 show (if (k:Int)<0 then ((k:Int)+(n:Int)).toNat else min (k:Int).toNat n)=min k n
 rw [if_neg (by omega),Int.toNat_natCast]
theorem sIx_le (n d:Nat) (hd:d≤n) (o:Option Int):sIx n d o≤n:=by
 cases o with
 | none=>exact hd
 | some v=>
  show (if v<0 then (v+(n:Int)).toNat else min v.toNat n)≤n
  by_cases hv:v<0
  ·rw [if_pos hv];omega
  ·rw [if_neg hv];exact Nat.min_le_right _ _
theorem zV (v:Int) (n d:Nat):(if v<0 then max (v+(n:Int)) 0 else min v (n:Int))=((sIx n d (some v):Nat):Int):=by
 show (if v<0 then max (v+(n:Int)) 0 else min v (n:Int))=(((if v<0 then (v+(n:Int)).toNat else min v.toNat n):Nat):Int)
 by_cases hv:v<0
 ·simp only [if_pos hv];omega
 ·simp only [if_neg hv];omega
theorem yF (lo hi:Option Int) (n:Nat):Builtin.Slice.sliceAdjust lo hi 1 (n:Int)=(((sIx n 0 lo:Nat):Int),((sIx n n hi:Nat):Int)):=by
 have h1:¬((1:Int)<0):=by omega
 unfold Builtin.Slice.sliceAdjust
 simp only [h1,if_false]
 refine Prod.ext ?_ ?_
 ·cases lo with
  | none=>rfl
  | some v=>exact zV v n 0
 ·cases hi with
  | none=>rfl
  | some v=>exact zV v n n
theorem wV (i j:Nat):Builtin.Slice.slicePlaces (i:Int) (j:Int) 1=j - i:=by
 unfold Builtin.Slice.slicePlaces
 have h1:(1:Int) > 0:=by omega
 simp only [h1,if_true,Int.ediv_one]
 split<;>omega
theorem nX {v:Value} {o:Option Int} {Q:Option Int→Shared→Prop} (p:IsPart v o) (h:Q o s):wpAny (model prog w) A (Builtin.Slice.slicePartIndex v) Q E s:=by
 cases p with
 | none=>exact slicePart_none h
 | int i t=>exact slicePart_int h
theorem lL {sl:Addr} {vl vu:Value} {lo hi:Option Int} {n:Nat} {Q:Int×Int×Nat→Shared→Prop} (hs:s.heap.IsSliceOf sl vl vu .none) (pl:IsPart vl lo) (pu:IsPart vu hi)
  (h:Q (((sIx n 0 lo:Nat):Int),1,sIx n n hi - sIx n 0 lo) s):wpAny (model prog w) A (Builtin.Slice.sliceApplied (.ref sl) (pure (n:Int))) Q E s:=by
 obtain ⟨os,hos,hcs,hds⟩:=id hs
 unfold Builtin.Slice.sliceApplied Builtin.Slice.sliceFields
 refine wpAny_bind (wpAny_bind (wpAny_field hos hds (x:=vl) rfl (wpAny_bind (wpAny_field hos hds (x:=vu) rfl (wpAny_bind (wpAny_field hos hds (x:=.none) rfl (wpAny_pure ?_)))))))
 refine wpAny_bind (slicePart_none ?_)
 show wpAny _ _ (if ((1:Int)==0)=true then _ else _) _ _ s
 rw [if_neg (by decide)]
 refine wpAny_bind (nX pl (wpAny_bind (nX pu (wpAny_bind (wpAny_pure ?_)))))
 show wpAny _ _ (match Builtin.Slice.sliceAdjust lo hi 1 (n:Int) with | (lo,hi)=>pure (lo,(1:Int),Builtin.Slice.slicePlaces lo hi 1)) _ _ s
 rw [yF lo hi n]
 show wpAny _ _ (pure (((sIx n 0 lo:Nat):Int),(1:Int),Builtin.Slice.slicePlaces ((sIx n 0 lo:Nat):Int) ((sIx n n hi:Nat):Int) 1)) _ _ s
 rw [wV]
 exact wpAny_pure h
theorem a1Q (xs:Array Value) (i k:Nat):((List.range k).filterMap fun (m:Nat)=>xs[((i:Int)+(m:Int)*1).toNat]?).toArray=((xs.toList.drop i).take k).toArray:=by
 have e:(fun (m:Nat)=>xs[((i:Int)+(m:Int)*1).toNat]?)=fun m=>xs[i+m]?:=by
  funext m
  have:((i:Int)+(m:Int)*1).toNat=i+m:=by omega
  rw [this]
 rw [e]
 have:=pick_run xs i k
 rw [List.filterMap_map] at this
 have e2:((fun x=>xs[x]?)∘fun x=>i+x)=fun m=>xs[i+m]?:=rfl
 rw [e2] at this
 rw [this]
theorem getItem_tuple_cut {t sl:Addr} {items:Array Value} {vl vu:Value} {lo hi:Option Int} {Q:Value→Shared→Prop} (ht:IsTup s.heap t items) (hs:s.heap.IsSliceOf sl vl vu .none) (pl:IsPart vl lo) (pu:IsPart vu hi)
  (hw:¬(sIx items.size 0 lo=0∧sIx items.size items.size hi=items.size))
  (h:Q (.ref s.heap.objs.size) { s with heap:=s.heap.push { cls:=.type "tuple", data:=.seq ((items.toList.drop (sIx items.size 0 lo)).take (sIx items.size items.size hi - sIx items.size 0 lo)).toArray } })
  (hsz:items.size≤sizeLine):wpAny (model prog w) A (getItem (.ref t) (.ref sl)) Q E s:=by
 have htake:sizeOk (.seq ((items.toList.drop (sIx items.size 0 lo)).take (sIx items.size items.size hi - sIx items.size 0 lo)).toArray):=by
  show ((items.toList.drop (sIx items.size 0 lo)).take (sIx items.size items.size hi - sIx items.size 0 lo)).toArray.size≤sizeLine
  rw [List.size_toArray,List.length_take,List.length_drop,Array.length_toList]
  omega
 have hj:sIx items.size items.size hi≤items.size:=sIx_le _ _ (Nat.le_refl _) hi
 obtain ⟨os,hos,hcs,hds⟩:=id hs
 have hTs:s.TypeIs (.ref sl) "slice" := ⟨os,hos,hcs⟩
 unfold getItem
 try with_reducible refine wpAny_holding ?_
 first | refine wpAny_bind (wpAny_pure ?_) | skip
 refine wpAny_bind (wpAny_sequenceKey ht.typeIs (by decide) ?_)
 refine wpAny_bind (wpAny_callSpecial?_slot (name:=Str.ofString "__getitem__") ht.typeIs PyProof.Rows.slot_tuple_getitem
  (wpAny_call_entry PyProof.Rows.slot_tuple_getitem ht.typeIs entry_tuple_getitem ?_ (args_tuple_getitem _ _)))
 show wpAny _ _ (Builtin.Tuple.tupleItemsOf (.ref t)>>=_) _ _ s
 refine wpAny_bind (tupleItemsOf_ ht ?_)
 refine wpAny_bind (wpAny_typeOf hTs ?_)
 rw [if_pos (by decide)]
 refine wpAny_bind (lL hs pl pu ?_)
 have hno:¬((((sIx items.size 0 lo:Nat):Int)==0&&(1:Int)==1&&(sIx items.size items.size hi - sIx items.size 0 lo)==items.size)=true):=by
  intro q
  rw [Bool.and_eq_true,Bool.and_eq_true] at q
  have q1:((sIx items.size 0 lo:Nat):Int)=0:=eq_of_beq q.1.1
  have q2:sIx items.size items.size hi - sIx items.size 0 lo=items.size:=eq_of_beq q.2
  exact hw ⟨by omega,by omega⟩
 show wpAny _ _ (if (((sIx items.size 0 lo:Nat):Int)==0&&(1:Int)==1&&(sIx items.size items.size hi - sIx items.size 0 lo)==items.size)=true then _ else _) _ _ s
 rw [if_neg hno,a1Q]
 first
  | exact wpAny_bind (m:=Builtin.Tuple.tupleExact _) (wpAny_newObj_type (wpAny_pure ⟨_,rfl,wpAny_pure h⟩) htake)
  | exact wpAny_bind (m:=Builtin.Tuple.tupleExact _) (wpAny_newObj_type (wpAny_bind (wpAny_pure (wpAny_pure ⟨_,rfl,wpAny_pure h⟩))) htake)
  | exact wpAny_bind (wpAny_bind (m:=Builtin.Tuple.tupleExact _) (wpAny_newObj_type (wpAny_pure (wpAny_pure ⟨_,rfl,wpAny_pure h⟩)) htake))
  | exact wpAny_bind (wpAny_bind (m:=Builtin.Tuple.tupleExact _) (wpAny_newObj_type (wpAny_pure ⟨_,rfl,wpAny_pure h⟩) htake))
end
end HT
namespace L2
open PySem PySem.Spec PyProof.Rows
noncomputable abbrev TO:=St→Hp→(Option Int→Hp→Prop)→Prop
noncomputable def PO (X:Cx) (e:Option Expr) (t:TO):Prop:=
 ∀ (pins:List (Addr×Obj)) (s:Shared) (σ:St) (H:Hp) (Q:Option Int→Hp→Prop),Inv X pins σ H s→t σ H Q →
  wpAny (model X.prog X.w) X.A (evalPart e X.env) (fun u s'=>∃ o H',Inv X pins σ H' s'∧IsPart u o∧Q o H') X.xe s
noncomputable def a4c:TO:=fun _ H Q=>Q none H
noncomputable def tPart (t:TE):TO:=fun σ H Q=>t σ H fun x H1=>∃ i,x=.int i∧Q (some i) H1
theorem intsAre_of {ns:List Int}:∀ {us:List Value},aR (ns.map V.int) us→IntsAre us ns:=by
 induction ns with
 | nil=>intro us r;rw [List.map_nil] at r;cases r;exact .nil
 | cons n ns ih=>
  intro us r
  rw [List.map_cons] at r
  cases r with
  | cons r1 r2=>
   obtain ⟨t,e⟩:=r1
   subst e
   exact .cons n t (ih r2)
section
variable {X:Cx} {e:Expr} {te:TE} {lo hi:Option Expr} {tl th:TO} {pos p2:Pos}
theorem a4v:PO X none a4c:=by
 intro pins s σ H Q I h
 rw [evalPart_none]
 exact wpAny_pure ⟨none,H,I,.none,h⟩
theorem a4u (h:PE X e te):PO X (some e) (tPart te):=by
 intro pins s σ H Q I hw
 rw [evalPart_some]
 refine thn (h pins s σ H _ I hw) fun u s1 ⟨x,H1,I1,r1,q1⟩=>?_
 obtain ⟨i,rfl,q⟩:=q1
 obtain ⟨t,rfl⟩:=r1
 exact ⟨some i,H1,I1,.int i t,q⟩
noncomputable def SlR (X:Cx) (r:V→Option Int→Option Int→Hp→VK→Prop):Prop:=
 ∀ (pins:List (Addr×Obj)) (s:Shared) (σ:St) (H:Hp) (x:V) (v vl vu:Value) (lo hi:Option Int) (sl:Addr) (Q:VK),Inv X pins σ H s→RelV x v→s.heap.IsSliceOf sl vl vu .none→IsPart vl lo→IsPart vu hi→r x lo hi H Q →
  ∃ T id,typeLookup (.type T) "__getitem__" = pure (some (.builtin id))∧s.TypeIs v T∧wpAny (model X.prog X.w) X.A (getItem v (.ref sl)) (EP X pins σ Q) X.xe s
theorem SlR.or {r r':V→Option Int→Option Int→Hp→VK→Prop} (h:SlR X r) (h':SlR X r'):SlR X (fun x lo hi H Q=>r x lo hi H Q∨r' x lo hi H Q):=by
 intro pins s σ H x v vl vu lo hi sl Q I rx hs pl pu q
 rcases q with q | q
 ·exact h pins s σ H x v vl vu lo hi sl Q I rx hs pl pu q
 ·exact h' pins s σ H x v vl vu lo hi sl Q I rx hs pl pu q
noncomputable def tSl (r:V→Option Int→Option Int→Hp→VK→Prop) (te:TE) (tl th:TO):TE:=fun σ H Q=>te σ H fun x H1=>tl σ H1 fun l H2=>th σ H2 fun u H3=>r x l u H3 Q
theorem a1U {r:V→Option Int→Option Int→Hp→VK→Prop} (hr:SlR X r) (he:PE X e te) (hl:PO X lo tl) (hu:PO X hi th):PE X (.Subscript e (.Slice lo hi none p2) pos) (tSl r te tl th):=by
 intro pins s σ H Q I h
 refine Subscript_ (thn (he pins s σ H _ I h) fun v s1 ⟨x,H1,I1,r1,q1⟩=>?_)
 refine wpAny_Slice (thn (hl pins s1 σ H1 _ I1 q1) fun vl s2 ⟨l,H2,I2,pl,q2⟩=>thn (hu pins s2 σ H2 _ I2 q2) fun vu s3 ⟨u,H3,I3,pu,q3⟩=>?_)
 rw [evalPart_none]
 refine wpAny_pure ?_
 have I4:Inv X pins σ H3 { s3 with heap:=s3.heap.push { cls:=.type "slice", data:=.fields #[vl,vu,.none] } }:=I3.kept (t':=s3.toks) fun b ob q=>Heap.get?_push_of_some _ q
 obtain ⟨T,id,hT,ht,hg⟩:=hr pins { s3 with heap:=s3.heap.push { cls:=.type "slice", data:=.fields #[vl,vu,.none] } } σ H3 x v vl vu l u s3.heap.objs.size Q I4 r1 (Heap.IsSliceOf.new ..) pl pu q3
 show wpAny (model X.prog X.w) X.A (subscriptTail e (.Slice lo hi none p2) v (.ref s3.heap.objs.size)) (EP X pins σ Q) X.xe { s3 with heap:=s3.heap.push { cls:=.type "slice", data:=.fields #[vl,vu,.none] } }
 exact tail_any (ops:=[.ref s3.heap.objs.size,v]) ht hT hg (by with_unfolding_all rfl)
noncomputable def vS (xs:List V) (lo hi:Option Int):List V:=(xs.drop (HT.sIx xs.length 0 lo)).take (HT.sIx xs.length xs.length hi - HT.sIx xs.length 0 lo)
theorem mQ (xs:List V) (lo hi:Option Int):(vS xs lo hi).length≤xs.length:=by
 unfold vS
 rw [List.length_take,List.length_drop]
 omega
noncomputable def rSlT (K:PySem.W.Frag):V→Option Int→Option Int→Hp→VK→Prop:=fun x lo hi H Q=>∃ a xs,x=.ref a∧SqT K H a xs ∧
 ¬(HT.sIx xs.length 0 lo=0∧HT.sIx xs.length xs.length hi=xs.length)∧∀ p,H p=none→Q (.ref p) (upd H p (.tup (vS xs lo hi)))
theorem sl_tup:SlR X (rSlT X.K):=by
 intro pins s σ H x v vl vu lo hi sl Q I rx hs pl pu h
 obtain ⟨a,xs,rfl,hx,hw,q⟩:=h
 cases rx
 obtain ⟨its,r,ht,hz⟩:=I.tuple hx
 have hlen:its.toArray.size=xs.length:=by rw [List.size_toArray];exact r.length.symm
 refine ⟨"tuple", _,PyProof.Rows.slot_tuple_getitem.lookup,ht.typeIs,?_⟩
 refine HT.getItem_tuple_cut ht hs pl pu (by rw [hlen];exact hw) ?_ (by rw [hlen];exact hz)
 rw [hlen]
 refine ⟨.ref s.heap.objs.size,_,I.laid (t':=s.toks) (o:=.tup (vS xs lo hi)) (fun b ob q=>Heap.get?_push_of_some _ q) (Nat.le_refl _) ?_,rfl,q _ (I.hok.fresh (Nat.le_refl _))⟩
 exact ⟨Nat.le_trans (mQ xs lo hi) hz,_,(r.drop (HT.sIx xs.length 0 lo)).take (HT.sIx xs.length xs.length hi - HT.sIx xs.length 0 lo),IsTup.new _ _⟩
noncomputable def rCatT (K:PySem.W.Frag):R2:=fun x y H Q=>∃ a b xs ys,x=.ref a∧y=.ref b∧SqT K H a xs∧SqT K H b ys∧xs≠[]∧xs.length+ys.length≤sizeLine ∧
 (ys=[]→Q (.ref a) H)∧(ys≠[]→∀ p,H p=none→Q (.ref p) (upd H p (.tup (xs++ys))))
theorem aR.nil_iff {xs:List V} {us:List Value} (r:aR xs us):us=[]↔xs=[]:=by
 cases r with
 | nil=>simp
 | cons _ _=>simp
theorem a4L:OpR X (binaryOp .Add) (rCatT X.K):=by
 intro pins s σ H x y v u Q I rx ry h
 obtain ⟨a,b,xs,ys,rfl,rfl,ha,hb,hx,hz,q1,q2⟩:=h
 cases rx
 cases ry
 obtain ⟨its,r1,p1,_⟩:=I.tuple ha
 obtain ⟨its2,r2,p2,_⟩:=I.tuple hb
 refine HT.cat_tup p1 p2 (fun z=>hx (r1.nil_iff.mp z)) (fun z=>⟨.ref a,H,I,rfl,q1 (r2.nil_iff.mp z)⟩) (fun z=>?_) (by rw [←r1.length,←r2.length];exact hz)
 refine ⟨.ref s.heap.objs.size,_,I.laid (t':=s.toks) (o:=.tup (xs++ys)) (fun b ob q=>Heap.get?_push_of_some _ q) (Nat.le_refl _) ?_,rfl,q2 (fun w=>z (r2.nil_iff.mpr w)) _ (I.hok.fresh (Nat.le_refl _))⟩
 exact ⟨by rw [List.length_append];exact hz,_,r1.append r2,IsTup.new _ _⟩
end
noncomputable def ixN (n:Nat) (i:Int):Option Nat:=if 0≤i then (if i<n then some i.toNat else none) else if -(n:Int)≤i then some (i+n).toNat else none
noncomputable def atI {α:Type} (xs:List α) (i:Int):Option α:=(ixN xs.length i).bind fun j=>xs[j]?
theorem a5j {n:Nat} {i:Int} {j:Nat} (h:ixN n i=some j):seqIndex? i n=some j∧j<n∧-(n:Int)≤i∧i<n:=by
 unfold ixN at h
 by_cases h0:0≤i
 ·rw [if_pos h0] at h
  by_cases h1:i<n
  ·rw [if_pos h1] at h
   have e:i.toNat=j:=Option.some.inj h
   exact ⟨by rw [seqIndex_of h0 h1,e],by omega,by omega,h1⟩
  ·rw [if_neg h1] at h;cases h
 ·rw [if_neg h0] at h
  by_cases h1:-(n:Int)≤i
  ·rw [if_pos h1] at h
   have e:(i+n).toNat=j:=Option.some.inj h
   exact ⟨by rw [seqIndex_neg (by omega) h1,e],by omega,h1,by omega⟩
  ·rw [if_neg h1] at h;cases h
theorem uA {α:Type} {xs:List α} {i:Int} {v:α} (h:atI xs i=some v):∃ j,seqIndex? i xs.length=some j∧xs[j]?=some v∧j<xs.length∧-(xs.length:Int)≤i∧i<xs.length:=by
 unfold atI at h
 cases e:ixN xs.length i with
 | none=>rw [e] at h;cases h
 | some j=>
  rw [e] at h
  obtain ⟨h1,h2,h3,h4⟩:=a5j e
  exact ⟨j,h1,h,h2,h3,h4⟩
theorem a5R {α:Type} {xs:List α} {j:Nat} {v:α} (h:xs[j]?=some v):atI xs (j:Int)=some v:=by
 have hj:j<xs.length:=(List.getElem?_eq_some_iff.mp h).1
 have e:ixN xs.length (j:Int)=some j:=by
  unfold ixN
  rw [if_pos (by omega),if_pos (by omega)];simp
 unfold atI;rw [e];exact h
noncomputable def uD (b:Expr):Prop:=∀ o i,subscripted b false o i=operate [o,i] (getItem o i)
noncomputable def IxR (X:Cx) (r:R2):Prop:=
 ∀ (value slice:Expr) (pins:List (Addr×Obj)) (s:Shared) (σ:St) (H:Hp) (x y:V) (v u:Value) (Q:VK),Inv X pins σ H s→RelV x v→RelV y u→r x y H Q →
  subscripted slice false v u=operate [v,u] (getItem v u)→wpAny (model X.prog X.w) X.A (subscriptTail value slice v u) (EP X pins σ Q) X.xe s
noncomputable def MtR (X:Cx) (id:String) (r:V→List V→Hp→VK→Prop):Prop:=
 ∀ (pins:List (Addr×Obj)) (s:Shared) (σ:St) (H:Hp) (x:V) (xs:List V) (v:Value) (us:List Value) (Q:VK),Inv X pins σ H s→RelV x v→aR xs us→r x xs H Q →
  wpAny (model X.prog X.w) X.A (call (.builtin id) (v::us)) (EP X pins σ Q) X.xe s
section
variable {X:Cx} {a b:Expr} {ta tb:TE} {pos:Pos}
theorem IxR.or {r r':R2} (h:IxR X r) (h':IxR X r'):IxR X (fun x y H Q=>r x y H Q∨r' x y H Q):=by
 intro value slice pins s σ H x y v u Q I rx ry q hs
 rcases q with q | q
 ·exact h value slice pins s σ H x y v u Q I rx ry q hs
 ·exact h' value slice pins s σ H x y v u Q I rx ry q hs
theorem a6f {r:R2} (hr:IxR X r) (ha:PE X a ta) (hb:PE X b tb) (hs:uD b):PE X (.Subscript a b pos) (tOp r ta tb):=by
 intro pins s σ H Q I h
 exact Subscript_ (binT ha hb I h fun v u s2 x y H2 I2 rx ry q=>hr a b pins s2 σ H2 x y v u Q I2 rx ry q (hs _ _))
noncomputable def rIxL (K:PySem.W.Frag):R2:=fun x y H Q=>∃ p xs i v,x=.ref p∧y=.int i∧SqL K H p xs∧atI xs i=some v∧Q v H
noncomputable def rIxT (K:PySem.W.Frag):R2:=fun x y H Q=>∃ p xs i v,x=.ref p∧y=.int i∧SqT K H p xs∧atI xs i=some v∧Q v H
noncomputable def rIxS:R2:=fun x y H Q=>∃ z i c,x=.str z∧y=.int i∧z.length≤sizeLine∧atI z.cps.toList i=some c∧Q (.str ⟨#[c]⟩) H
theorem a5h:IxR X (rIxL X.K):=by
 intro value slice pins s σ H x y v u Q I rx ry h hs
 obtain ⟨p,xs,i,z,rfl,rfl,hq,he,q⟩:=h
 cases rx
 obtain ⟨t,rfl⟩:=ry
 obtain ⟨its,r,pl,hz⟩:=I.list hq
 obtain ⟨j,h1,h2,h3,h4,h5⟩:=uA he
 obtain ⟨w,ew,rw'⟩:=r.get h2
 have hl:=r.length
 have hn:=lU
 have fin:EP X pins σ Q w s:=⟨z,H,I,rw',q⟩
 by_cases h0:0≤i
 ·have hj:i.toNat=j:=by
   rw [seqIndex_of h0 h5] at h1
   exact Option.some.inj h1
  exact item_listR pl.isList h0 (by omega) (by rw [hj];simpa using ew) fin hs
 ·have hj:(i+(its.toArray.size:Int)).toNat=j:=by
   rw [seqIndex_neg (by omega) h4] at h1
   rw [List.size_toArray,←hl]
   exact Option.some.inj h1
  exact subscriptTail_builtinR (x:=w) pl.isList.typeIs slot_list_getitem.lookup
   (wpAny_getItem_list_neg (Q:=fun r s'=>r=w∧EP X pins σ Q r s') pl.isList (by omega) (by rw [List.size_toArray]<;>omega) (by omega) (by rw [hj];simpa using ew) ⟨rfl,fin⟩) hs
theorem ix_tup:IxR X (rIxT X.K):=by
 intro value slice pins s σ H x y v u Q I rx ry h hs
 obtain ⟨p,xs,i,z,rfl,rfl,hq,he,q⟩:=h
 cases rx
 obtain ⟨t,rfl⟩:=ry
 obtain ⟨its,r,pl,hz⟩:=I.tuple hq
 obtain ⟨j,h1,h2,h3,h4,h5⟩:=uA he
 obtain ⟨w,ew,rw'⟩:=r.get h2
 have hl:=r.length
 have hn:=lU
 have fin:EP X pins σ Q w s:=⟨z,H,I,rw',q⟩
 exact subscriptTail_builtinR (x:=w) pl.typeIs slot_tuple_getitem.lookup
  (getItem_tuple (j:=j) (Q:=fun r s'=>r=w∧EP X pins σ Q r s') pl (by omega) (by omega) (by rw [List.size_toArray,←hl];exact h1) (by simpa using ew) ⟨rfl,fin⟩) hs
theorem ix_str:IxR X rIxS:=by
 intro value slice pins s σ H x y v u Q I rx ry h hs
 obtain ⟨z,i,c,rfl,rfl,hz,he,q⟩:=h
 obtain ⟨t,rfl⟩:=rx
 obtain ⟨t',rfl⟩:=ry
 obtain ⟨j,h1,h2,h3,h4,h5⟩:=uA he
 have hl:z.cps.toList.length=z.length:=by simp [Str.length]
 rw [hl] at h1 h4 h5
 have hn:=lU
 exact tail_any (typeIs_str s z t) slot_str_getitem.lookup (getItem_str (c:=c) (by
  have e1:decide (i < -(2 ^ 63:Int))=false:=decide_eq_false (by omega)
  have e2:decide (i≥2 ^ 63)=false:=decide_eq_false (by omega)
  rw [e1,e2,Bool.or_false]) (by rw [h1];simpa using h2) ⟨.str ⟨#[c]⟩,H,I.tok _,⟨_,rfl⟩,q⟩) hs
noncomputable def rIx (K:PySem.W.Frag):R2:=fun x y H Q=>rIxL K x y H Q∨rIxT K x y H Q∨rIxS x y H Q
theorem ix_seq:IxR X (rIx X.K):=a5h.or (ix_tup.or ix_str)
theorem sJ (lo hi:Option Int) (n:Nat):(sliceBounds lo hi none n).1=((HT.sIx n 0 lo:Nat):Int)∧(sliceBounds lo hi none n).2.1=((HT.sIx n n hi:Nat):Int)∧(sliceBounds lo hi none n).2.2=1:=by
 refine ⟨?_,?_,rfl⟩
 ·cases lo with
  | none=>simp [sliceBounds,HT.sIx]
  | some i=>
   simp only [sliceBounds,HT.sIx,Option.getD_none,show (1:Int) > 0 by decide,if_true]
   by_cases h:i<0
   ·simp only [h,if_true]<;>omega
   ·simp only [h,if_false]<;>omega
 ·cases hi with
  | none=>simp [sliceBounds,HT.sIx]
  | some i=>
   simp only [sliceBounds,HT.sIx,Option.getD_none,show (1:Int) > 0 by decide,if_true]
   by_cases h:i<0
   ·simp only [h,if_true]<;>omega
   ·simp only [h,if_false]<;>omega
theorem pQ (its:List Value) (lo hi:Option Int):slicePick its.toArray lo hi none=((its.drop (HT.sIx its.length 0 lo)).take (HT.sIx its.length its.length hi - HT.sIx its.length 0 lo)).toArray:=by
 obtain ⟨h1,h2,h3⟩:=sJ lo hi its.toArray.size
 unfold slicePick
 rw [h1,h2,h3]
 simp only [sliceRange_one,pick_run,List.size_toArray]<;>rfl
noncomputable def rSlL (K:PySem.W.Frag):V→Option Int→Option Int→Hp→VK→Prop:=fun x lo hi H Q=>∃ a xs,x=.ref a∧SqL K H a xs∧∀ p,H p=none→Q (.ref p) (upd H p (.lst (vS xs lo hi)))
theorem a4h:SlR X (rSlL X.K):=by
 intro pins s σ H x v vl vu lo hi sl Q I rx hs pl pu h
 obtain ⟨a,xs,rfl,hx,q⟩:=h
 cases rx
 obtain ⟨its,r,ht,hz⟩:=I.list hx
 have hlen:=r.length
 refine ⟨"list", _,slot_list_getitem.lookup,ht.isList.typeIs,?_⟩
 refine wpAny_getItem_list_slice ht.isList hs pl pu .none (by simp) ?_ (by rw [List.size_toArray]<;>omega)
 rw [pQ,←hlen]
 refine ⟨.ref s.heap.objs.size,_,I.laid (t':=s.toks) (o:=.lst (vS xs lo hi)) (fun b ob q=>Heap.get?_push_of_some _ q) (Nat.le_refl _) ?_,rfl,q _ (I.hok.fresh (Nat.le_refl _))⟩
 exact ⟨Nat.le_trans (mQ xs lo hi) hz,_,0,(r.drop (HT.sIx xs.length 0 lo)).take (HT.sIx xs.length xs.length hi - HT.sIx xs.length 0 lo),Heap.get?_push_size _ rfl⟩
theorem kY:dP X (.builtin "len") (fun xs H Q=>∃ p ys,xs=[.ref p]∧(SqL X.K H p ys∨SqT X.K H p ys)∧Q (.int ys.length) H):=by
 intro pins s σ H xs us Q I r h
 obtain ⟨p,ys,rfl,hq,q⟩:=h
 obtain ⟨u,rfl,rx⟩:=vals1 r
 cases rx
 have hn:=lU
 rcases hq with hq | hq
 ·obtain ⟨its,r',pl,hz⟩:=I.list hq
  have hlen:=r'.length
  exact Calls.call_len_list pl.isList (by simp only [List.size_toArray]<;>omega) ⟨.int ys.length,H,I.tok _,⟨s.toks+1,by rw [List.size_toArray,hlen]⟩,q⟩
 ·obtain ⟨its,r',pl,hz⟩:=I.tuple hq
  have hlen:=r'.length
  exact len_tuple pl (by simp only [List.size_toArray]<;>omega) ⟨.int ys.length,H,I.tok _,⟨s.toks+1,by rw [List.size_toArray,hlen]⟩,q⟩
theorem tT:dP X (.builtin "len") (fun xs H Q=>∃ z,xs=[.str z]∧z.length≤sizeLine∧Q (.int z.length) H):=by
 intro pins s σ H xs us Q I r h
 obtain ⟨z,rfl,hz,q⟩:=h
 obtain ⟨u,rfl,t,rfl⟩:=vals1 r
 have hn:=lU
 exact len_str (by omega) ⟨.int z.length,H,I.tok _,⟨_,rfl⟩,q⟩
theorem kX:dP X (.type "list") (fun xs H Q=>∃ p ys,xs=[.ref p]∧(SqL X.K H p ys∨SqT X.K H p ys)∧∀ l,H l=none→Q (.ref l) (upd H l (.lst ys))):=by
 intro pins s σ H xs us Q I r h
 obtain ⟨p,ys,rfl,hq,q⟩:=h
 obtain ⟨u,rfl,rx⟩:=vals1 r
 cases rx
 have fin:∀ (its:List Value),aR ys its→ys.length≤sizeLine→∀ (h':Heap) (c':Nat),(∀ b o',s.heap.get? b=some o'→h'.get? b=some o') →
   h'.get? s.heap.objs.size=some { cls:=.type "list", dict:=none,data:=.seq its.toArray c',slots:=#[] }→EP X pins σ Q (.ref s.heap.objs.size) { s with heap:=h' }:=fun its r' hz h' c' kp e=>
  ⟨.ref s.heap.objs.size,_,I.laid (t':=s.toks) kp (Nat.le_refl _) (show bR X.prog X.w _ h' _ (.lst ys) from ⟨hz,its,c',r',e⟩),rfl,q _ (I.hok.fresh (Nat.le_refl _))⟩
 rcases hq with hq | hq
 ·obtain ⟨its,r',pl,hz⟩:=I.list hq
  have hlen:=r'.length
  obtain ⟨o,ho,hc,n,hd⟩:=pl.isList
  exact call_list_seq p (.inl rfl) ho hc hd (fun h' c' kp e=>fin its r' hz h' c' kp e) (by simp only [List.size_toArray]<;>omega)
 ·obtain ⟨its,r',pl,hz⟩:=I.tuple hq
  have hlen:=r'.length
  obtain ⟨o,ho,hc,n,hd⟩:=pl
  exact call_list_seq p (.inr rfl) ho hc hd (fun h' c' kp e=>fin its r' hz h' c' kp e) (by simp only [List.size_toArray]<;>omega)
theorem jV:dP X (.type "tuple") (fun xs H Q=>∃ p ys,xs=[.ref p]∧((SqL X.K H p ys∧∀ l,H l=none→Q (.ref l) (upd H l (.tup ys)))∨(SqT X.K H p ys∧Q (.ref p) H))):=by
 intro pins s σ H xs us Q I r h
 obtain ⟨p,ys,rfl,h⟩:=h
 obtain ⟨u,rfl,rx⟩:=vals1 r
 cases rx
 rcases h with ⟨hq,q⟩ | ⟨hq,q⟩
 ·obtain ⟨its,r',pl,hz⟩:=I.list hq
  have hlen:=r'.length
  refine call_tuple_list pl.isList (fun h' kp=>?_) (by simp only [List.size_toArray]<;>omega)
  have I1:Inv X pins σ H { s with heap:=h' }:=I.kept (t':=s.toks) kp
  have I2:Inv X pins σ (upd H h'.objs.size (.tup ys)) { s with heap:=h'.push { cls:=.type "tuple", data:=.seq its.toArray } }:=
   I1.laid (t':=s.toks) (fun b o e=>Heap.get?_push_of_some _ e) (Nat.le_refl _) (show bR X.prog X.w _ _ _ (.tup ys) from ⟨hz,its,r',IsTup.new _ _⟩)
  exact ⟨.ref h'.objs.size,_,I2,rfl,q _ (I1.hok.fresh (Nat.le_refl _))⟩
 ·obtain ⟨its,r',pl,hz⟩:=I.tuple hq
  exact call_tuple_same pl ⟨.ref p,H,I,rfl,q⟩
noncomputable def tyV (K:PySem.W.Frag) (T:String) (x:V) (H:Hp):Prop:=match x with
 | .str _=>T = "str"
 | .int _=>T = "int"
 | .ref p=>(T = "list" ∧ ∃ xs,SqL K H p xs)∨(T = "tuple" ∧ ∃ o,K.lookup p=some o∧o.cls=.type "tuple" ∧ o.dict=none) ∨
   (T = "dict" ∧ ((∃ kvs,H p=some (.dK kvs))∨∃ kvs,H p=some (.dT kvs)))∨(T = "set" ∧ ∃ S n,H p=some (.set S n))
 | _=>False
theorem tyV_is {pins:List (Addr×Obj)} {σ:St} {H:Hp} {s:Shared} {T:String} {x:V} {v:Value} (I:Inv X pins σ H s) (r:RelV x v) (ty:tyV X.K T x H) :
  s.TypeIs v T∧∀ a,v=.ref a→∃ ob,s.heap.get? a=some ob∧ob.dict=none:=by
 cases x with
 | str z=>
  obtain ⟨t,rfl⟩:=r
  cases (show T = "str" from ty)
  exact ⟨typeIs_str s z t,fun _ e=>nomatch e⟩
 | int i=>
  obtain ⟨t,rfl⟩:=r
  cases (show T = "int" from ty)
  exact ⟨typeIs_int s i t,fun _ e=>nomatch e⟩
 | ref p=>
  cases r
  rcases ty with ⟨rfl,xs,hq⟩ | ⟨rfl,o,hk,hc,hd⟩ | ⟨rfl,hk⟩ | ⟨rfl,S,n,hk⟩
  ·obtain ⟨its,_,pl,_⟩:=I.list hq
   refine ⟨pl.isList.typeIs,fun a e=>?_⟩
   cases e
   obtain ⟨o,n,e,c,hd,_⟩:=pl
   exact ⟨o,e,hd⟩
  ·refine ⟨⟨o,I.kIn p o hk,hc⟩,fun a e=>?_⟩
   cases e
   exact ⟨o,I.kIn _ o hk,hd⟩
  ·have z:∃ o,s.heap.get? p=some o∧o.ExactDict:=by
    rcases hk with ⟨kvs,hk⟩ | ⟨kvs,hk⟩
    ·obtain ⟨_,_,_,_,o,_,_,e,ex,_⟩:=I.hok p _ hk
     exact ⟨o,e,ex⟩
    ·obtain ⟨_,_,_,_,o,_,_,e,ex,_⟩:=I.hok p _ hk
     exact ⟨o,e,ex⟩
   obtain ⟨o,e,ex⟩:=z
   refine ⟨⟨o,e,ex.1⟩,fun a e2=>?_⟩
   cases e2
   exact ⟨o,e,ex.2.1⟩
  ·obtain ⟨o,_,_,_,e,ex,_⟩:=I.hok p _ hk
   refine ⟨⟨o,e,ex.1⟩,fun a e2=>?_⟩
   cases e2
   exact ⟨o,e,ex.2.1⟩
 | _=>exact False.elim ty
noncomputable def tBM (K:PySem.W.Frag) (T:String) (r:V→List V→Hp→VK→Prop) (to:TE) (t:TA):TE:=fun σ H Q=>to σ H fun x H1=>tyV K T x H1∧t σ H1 fun xs H2=>r x xs H2 Q
variable {o e:Expr} {es:List Expr} {to:TE} {t:TA} {name:Str} {apos cpos:Pos} {T id:String} {r:V→List V→Hp→VK→Prop}
theorem a1X (pa:PlainAttrs T) (slot:Slot T name id) (hty:typeOf (.builtin id)=pure (.type "method_descriptor")) (hm:MtR X id r) (ho:PE X o to) (ha:PA X (e::es) t)
  (hbase:attributeBase o name X.env (eval o X.env)=eval o X.env:=by rfl)
  (hfew:((backTo cpos (starEach (e::es) X.env)).all (fun x=>!x.1)&&(backToKw cpos (keywordEach [] X.env)).all (fun x=>x.1.isSome)
   && decide ((e::es).length+([]:List Keyword).length+(if ([]:List Keyword).isEmpty then 0 else 1)<30))=true:=by rfl)
  (hline:(apos.endLine==cpos.line)=true:=by rfl) (hs:starEach (e::es) X.env=(false,eval e X.env)::starEach es X.env:=by rfl) (hplain:(backTo cpos (starEach es X.env)).any (·.1)=false:=by rfl) :
  PE X (.Call (.Attribute o name apos) (e::es) [] cpos) (tBM X.K T r to t):=by
 intro pins s σ H Q I h
 refine wpAny_Call_method_late hbase hfew hline rfl (thn (ho pins s σ H _ I h) fun v s1 ⟨x,H1,I1,r1,ty,q1⟩=>?_)
 obtain ⟨h1,h2⟩:=tyV_is I1 r1 ty
 refine ⟨T,id,pa,slot,hty,h1,h2,?_⟩
 have hA:=ha cpos pins s1 σ H1 _ I1 q1
 rw [hs] at hA ⊢
 refine Calls.callWith_builtin (by show (false || (backTo cpos (starEach es X.env)).any (·.1))=false;rw [hplain]<;>rfl) (Calls.evalArgs_plain ?_)
 exact thn hA fun us s2 ⟨vs,H2,I2,r2,q2⟩=>hm pins s2 σ H2 x vs v us Q I2 r1 r2 q2
end
noncomputable def MtM (X:Cx) (id:String) (r:V→List V→Hp→VK→Prop):Prop:=
 ∀ (pins:List (Addr×Obj)) (s:Shared) (σ:St) (H:Hp) (x:V) (xs:List V) (v:Value) (us:List Value) (Q:VK),Inv X pins σ H s→RelV x v→aR xs us→r x xs H Q →
  wpAny (model X.prog X.w) X.A (call (.builtin id) (v::us)) (EP X pins σ Q) X.xe s
theorem aR.one:∀ {x:V} {us:List Value},aR [x] us→∃ u,us=[u]∧RelV x u
 | _,_,.cons r .nil=>⟨_,rfl,r⟩
section
variable {X:Cx} {pins:List (Addr×Obj)} {σ:St} {H:Hp} {s:Shared} {l b:Addr} {xs ys zs:List V}
theorem Inv.lset {its its':List Value} {n:Nat} {f:Array Value→Array Value} {t':Nat} (I:Inv X pins σ H s) (hH:H l=some (.lst xs))
  (e:s.heap.get? l=some { cls:=.type "list", data:=.seq its.toArray n }) (hf:f its.toArray=its'.toArray) (hv:aR ys its') (hz:ys.length≤sizeLine) :
  Inv X pins σ (upd H l (.lst ys)) { s with heap:=s.heap.update l (Obj.mapSeq f),toks:=t' }:=by
 have q:=PySem.IsL.update e f
 rw [hf] at q
 refine I.write (x:=l) (e:=l) (by rw [hH];exact trivial) (.inl rfl) (fun b' u hb hu=>(Heap.get?_update_other s.heap (Obj.mapSeq f) (Ne.symm hb)).trans hu) ⟨_,q⟩ ?_
 exact ⟨hz,its',_,hv,q⟩
theorem Inv.lnew {its:List Value} {t':Nat} (I:Inv X pins σ H s) (hv:aR ys its) (hz:ys.length≤sizeLine) :
  Inv X pins σ (upd H s.heap.objs.size (.lst ys)) { s with heap:=s.heap.push { cls:=.type "list", data:=.seq its.toArray },toks:=t' }:=
 I.laid (fun _ _ q=>Heap.get?_push_of_some _ q) (Nat.le_refl _) ⟨hz,its,0,hv,Heap.get?_push_size _ rfl⟩
theorem Inv.fresh (I:Inv X pins σ H s):H s.heap.objs.size=none:=I.hok.fresh (Nat.le_refl _)
theorem Inv.lstM (I:Inv X pins σ H s) (hH:H l=some (.lst xs)):xs.length≤sizeLine∧∃ (its:List Value) (n:Nat),aR xs its∧xs.length=its.length∧s.heap.get? l=some { cls:=.type "list", data:=.seq its.toArray n }:=by
 obtain ⟨z,its,n,r,e⟩:=I.hok l _ hH
 exact ⟨z,its,n,r,r.length,e⟩
theorem a2f {n:Nat} (h:n≤sizeLine):Builtin.List.listTooLong n=false:=by
 unfold Builtin.List.listTooLong
 exact decide_eq_false (by omega)
end
section
variable {X:Cx}
noncomputable def a4q:V→List V→Hp→VK→Prop:=fun x vs H Q=>∃ l xs y,x=.ref l∧vs=[y]∧H l=some (.lst xs)∧xs.length<sizeLine∧Q .non (upd H l (.lst (xs++[y])))
theorem qP:MtM X "list.append" a4q:=by
 intro pins s σ H x vs v us Q I rx rv h
 obtain ⟨l,xs,y,rfl,rfl,hH,hz,q⟩:=h
 cases rx
 obtain ⟨u,rfl,ru⟩:=rv.one
 obtain ⟨z,its,n,r,hl,e⟩:=I.lstM hH
 refine call_meets F.slot_list_append ⟨_,e,rfl⟩ F.entry_list_append (F.args_list_append_2 _ _) (PySem.list_append l its.toArray n u (by rw [List.size_toArray];omega)) ⟨e,?_⟩
 refine ⟨.non,_,I.lset (its':=its++[u]) hH e (by simp) (r.append (.cons ru .nil)) ?_,rfl,q⟩
 rw [List.length_append,List.length_singleton]
 omega
end
section
variable {prog:Program} {w:World} {A:Around} {E:Value→Shared→Prop} {s:Shared}
end
section
variable {X:Cx}
end
end L2
namespace Att
open PySem PySem.W PySem.Calls PyProof.Rows
theorem mV {P:Params} {h:Heap}:∀ (ns:List Int) (vs:List Value),WellAll P h vs (ns.map WData.int)→IntsAre vs ns:=by
 intro ns
 induction ns with
 | nil=>
  intro vs w
  rw [List.map_nil] at w
  cases w
  exact .nil
 | cons n ns ih=>
  intro vs w
  rw [List.map_cons] at w
  cases w with
  | cons a b=>
   cases a
   exact .cons _ _ (ih _ b)
theorem a0p {l:OpenLaw} {n:Nat} (hn:l.most=some n) {P:Params} {h:Heap} {args:List WData} {vals:List Value}
  (hpre:l.row.toRowW.claim.pre args=true) (hwl:WellAll P h vals args) :
  ∃ a vs ns,vals=[Value.ref a]∧args=[WData.list (ns.map WData.int)]∧h.get? a=some { cls:=.type "list", data:=.seq vs.toArray }∧IntsAre vs ns∧ns.length≤n:=by
 have hsh:WShape.hasAll [] args [.list .int]=true:=(pre_splitW hpre).1
 have hc:l.pre.holds [] { args:=args }=true:=(pre_splitW hpre).2
 obtain ⟨d,r,rfl,h1,h2⟩:=hasAllW_cons hsh
 obtain rfl:=hasAllW_nil h2
 obtain ⟨xs,rfl,h3⟩:=hasW_list h1
 obtain ⟨ns,rfl⟩:=items_int h3
 have hlen:ns.length≤n:=by
  unfold OpenLaw.pre at hc
  have h4:(WTm.not (.lt (.lit (.int (n:Int))) (.len (.arg 0)))).holds [] { args:=[.list (ns.map .int)] }=true:=by
   have h4:=(holds_andW hc).1
   rw [hn] at h4
   exact h4
  have h5:=condW_of h4 (w_not (w_lt w_lit (w_len_list (w_arg rfl))))
  rw [List.length_map] at h5
  refine Nat.le_of_not_lt fun q=>?_
  have q':(n:Int)<((ns.length:Nat):Int):=by omega
  first
   | (rw [decide_eq_true q'] at h5;exact absurd h5 (by decide))
   | (simp at h5;omega)
 cases hwl with
 | cons w1 w2=>
  cases w2
  cases w1 with
  | list ho hall=>exact ⟨_,_,ns,rfl,rfl,ho,mV ns _ hall,hlen⟩
theorem a0u (l:OpenLaw) (args:List WData):l.row.toRowW.claim.post args (.bool true) args=true:=
 postW_of (r:=l.row.toRowW) (X:=(true==true))
  (show WShape.has [] (.bool true) .bool=true by first | rfl | decide | simp [WShape.has,WShape.arms,WShape.armsAll])
  (show (WTm.eq .res (.lit (.bool true))).value [] { args:=args,res:=some (.bool true),after:=args }=some (.bool (true==true)) from w_eq_bool (w_res rfl) w_lit) rfl
theorem attach_call {l:OpenLaw} {n:Nat} {q:Program} {loose:List Str} {XP:(Str→Option Value)→Heap→Prop} {YP:World→Heap→Prop} {d:DefRec}
  (hn:l.most=some n) (hdf:d.params.defaults=[])
  (call:∀ (w:World) (s₀ s₁:Shared) (mg mb:Str→Option Value) (fa:Addr) (o:Obj) (pm cd doc:Value) (a:Addr) (vs:List Value) (ns:List Int),
   Ground q loose [] XP w s₀ mg mb s₁.heap→YP w s₁.heap →
   s₁.heap.get? fa=some o→o.data=.func (docDef d.name d.params d.body d.scope pm cd doc)→s₁.heap.CodeRec cd d.name→mg d.name=some (.ref fa) →
   s₁.heap.get? a=some { cls:=.type "list", data:=.seq vs.toArray }→IntsAre vs ns→ns.length≤n→s₁.gens=#[] →
   codeAny (model l.prog w) callerA (.call (.ref fa) ⟨[.ref a],[]⟩) (fun r s'=>r=.ok (.ret (.bool true))∧OldK s₁.heap s'.heap∧s'.os=s₁.os∧AllBare s'.gens) s₁) :
  WalkO q loose XP YP l.row.toRowW d [] (fun f vs=>PySem.call f vs):=by
 intro w s₀ s₁ mg mb G Y fa o pm cd doc dV kV ho hd hcd hD hmg hg args vals as hpre hlay hrd hwl hlo
 obtain rfl:dV=.none:=Dflts.none hD hdf
 obtain rfl:kV=.none:=Dflts.noKw hD
 obtain ⟨a,vs,ns,rfl,rfl,hobj,hints,hlen⟩:=a0p hn hpre hwl
 refine enter_call (codeAny_mono (call w s₀ s₁ mg mb fa o pm cd doc a vs ns G Y ho (fd_plain hd) hcd hmg hobj hints hlen hg) fun r s' hq=>?_)
 obtain ⟨rfl,h2,h3,h4⟩:=hq
 exact ⟨.inl ⟨.bool true,.bool true,[],rfl,fun _=>rfl,.bool true,a0u l _,fun _=>⟨List.Pairwise.nil,fun _ hm=>(nomatch hm)⟩⟩,h2,h3,h4⟩
section
variable {prog:Program} {w:World} {A:Around} {E:Value→Shared→Prop} {s:Shared} {K:Frag}
end
end Att
namespace L2
open PySem PySem.Spec PyProof.Rows
theorem qA:∀ {vs:List Value} {ns:List Int},IntsAre vs ns→aR (ns.map V.int) vs
 | _,_,.nil=>.nil
 | _,_,.cons n t h=>.cons ⟨t,rfl⟩ (qA h)
noncomputable def Only (H:Hp):Prop:=∀ b,H b=none∨∃ o xs,H b=some (.frz o (.lst xs))
noncomputable def cR (s:Stmt):Arguments:=match s with
 | .FunctionDef _ a _ _ _ _ _ _ _ _=>a
 | _=>{ posonlyargs:=[],args:=[],vararg:=none,kwonlyargs:=[],kw_defaults:=[],kwarg:=none,defaults:=[] }
noncomputable def bG (s:Stmt):List Stmt:=match s with
 | .FunctionDef _ _ b _ _ _ _ _ _ _=>b
 | _=>[]
noncomputable def aE (s:Stmt):Scope:=match s with
 | .FunctionDef _ _ _ _ _ _ sc _ _ _=>sc
 | _=>{ kind:=.function,names:=[],isGenerator:=false,isCoroutine:=false }
noncomputable abbrev CX0:CXT:=fun _ _ _ _ _ _=>False
noncomputable abbrev E0:XK:=fun _ _ _=>False
theorem a6g {X:Cx}:yG CX0 X E0:=fun _ _ _ _ _ _ _ h=>h.elim
structure Fun (K:PySem.W.Frag) (x qual:Str) (st:Stmt) (f:Addr) (fd:FuncData):Prop where
 ex:∃ (oc:Value) (od:Option Addr) (kV doc pm:Value) (an:Option Addr) (cdv ct:Value) (osl:Array (Option Value)),
  fd=PySem.W.fnOf x qual (cR st) (bG st) (aE st) .none kV doc pm an cdv ct∧K.lookup f=some ⟨oc,od,.func fd,osl⟩∧PySem.W.codeIn K cdv qual=true
 kp:PySem.W.keepIn K (.ref f)=true
section
variable {P:Program} {w:World} {K:PySem.W.Frag} {mg:Str→Option Value} {base:Heap}
theorem Fun.ok {x qual:Str} {st:Stmt} {f:Addr} {fd:FuncData} {N ps:List Str} {k:Nat} {sp:Sp} (F:Fun K x qual st f fd) (S:FnScope N ps (aE st)) (len:∀ vs H Q E,sp vs H Q E→vs.length=ps.length)
  (hbody:∀ (cdv:Value) (A:Around) (outer:List Env) (s:Shared) (H:Hp) (vs:List V) (Q:VK) (E:XK),Room k (A.deeper (envOfC qual (aE st) s.heap.objs.size f cdv))→sp vs H Q E →
   ∃ t,PSs (vR CX0 P w K mg base N qual (aE st) f cdv A outer s H E).nox (bG st) t∧t { nx:=fun _ H'=>Q .non H',rt:=Q } (start N vs) H):FnOk P w K mg base CX0 (k+1) f fd ps sp:=by
 obtain ⟨oc,od,kV,doc,pm,an,cdv,ct,osl,rfl,lk,hcd⟩:=F.ex
 refine a3c lk hcd S len fun A outer s H vs Q E hr hsp=>?_
 obtain ⟨t,h,q⟩:=hbody cdv A outer s H vs Q E hr hsp
 exact ⟨t,h.nox,q⟩
theorem Fun.binds {x qual:Str} {st:Stmt} {f:Addr} {fd:FuncData} {ps:List Str} (F:Fun K x qual st f fd)
  (h:∀ (kV doc pm:Value) (an:Option Addr) (cdv ct:Value) (us:List Value),us.length=ps.length→bindArgs (PySem.W.fnOf x qual (cR st) (bG st) (aE st) .none kV doc pm an cdv ct) ⟨us,[]⟩=pure (ps.zip us)):Binds K fd ps []:=by
 obtain ⟨oc,od,kV,doc,pm,an,cdv,ct,osl,rfl,lk,hcd⟩:=F.ex
 exact .all (h kV doc pm an cdv ct)
theorem a2Z {x qual:Str} {st:Stmt} {f:Addr} {oc:Value} {od an:Option Addr} {osl:Array (Option Value)} {kV doc pm cdv ct:Value} (l:K.lookup f=some ⟨oc,od,.func (PySem.W.fnOf x qual (cR st) (bG st) (aE st) .none kV doc pm an cdv ct),osl⟩)
  (c:PySem.W.codeIn K cdv qual=true) (k:PySem.W.keepIn K (.ref f)=true):Fun K x qual st f (PySem.W.fnOf x qual (cR st) (bG st) (aE st) .none kV doc pm an cdv ct):=⟨⟨oc,od,kV,doc,pm,an,cdv,ct,osl,rfl,l,c⟩,k⟩
end
theorem qF {n:Nat} (h:n≤1000):n<sizeLine:=Nat.lt_of_le_of_lt h (by decide)
section
variable {X:Cx}
theorem pv (i:Nat) {x:Str} {pos:Pos} (hN:X.N[i]?=some x:=by rfl) (hv:Vis X.env.scope x:=by first | exact Or.inl rfl | exact Or.inr (Or.inl rfl) | exact Or.inr (Or.inr rfl)) (hd:(x==("__debug__" : Str))=false:=by decide)
  (hcd:(x==("__classdict__" : Str))=false:=by decide):PE X (.Name x pos) (tVar i):=eF hN hv hd hcd
end
noncomputable def aS (H H':Hp):Prop:=∀ b o,H b=some o→H' b=some o
theorem aS.refl (H:Hp):aS H H:=fun _ _ h=>h
theorem aS.trans {H H1 H2:Hp} (a:aS H H1) (b:aS H1 H2):aS H H2:=fun c o h=>b c o (a c o h)
theorem aS.free {H H':Hp} (e:aS H H') {l:Addr} (h:H' l=Option.none):H l=Option.none:=by
 cases q:H l with
 | none=>rfl
 | some o=>
  rw [e l o q] at h
  cases h
theorem aS.seq {K:PySem.W.Frag} {H H':Hp} {a:Addr} {xs:List V} (e:aS H H') (h:SqL K H a xs):SqL K H' a xs:=by
 rcases h with (h | ⟨o,h⟩) | h
 ·exact .inl (.inl (e _ _ h))
 ·exact .inl (.inr ⟨o,e _ _ h⟩)
 ·exact .inr h
theorem xO {α β:Type} {l:List α} {f:α→β→Sem (ForInStep β)} {g:α→β→β}:∀ (c:β),(∀ x∈l,∀ c,f x c=pure (.yield (g x c)))→(forIn l c f:Sem β)=pure (l.foldl (fun c x=>g x c) c):=by
 induction l with
 | nil=>intro c _;rfl
 | cons x r ih=>
  intro c h
  rw [List.forIn_cons,h x List.mem_cons_self]
  exact ih _ fun y hy=>h y (List.mem_cons_of_mem _ hy)
noncomputable def gK (env:Env) (p:Str×NameKind) (cs:List (Str×Addr)):List (Str×Addr):=
 if p.2=.free then (match env.cells.lookup p.1 with | some a=>(p.1,a)::cs | none=>cs) else cs
noncomputable def pK (scope:Scope) (env:Env):List (Str×Addr):=scope.names.foldl (fun cs p=>gK env p cs) []
theorem kU {scope:Scope} {env:Env} (h:∀ p∈scope.names,p.2=.free→∃ c,env.cells.lookup p.1=some c):closureFor scope env=pure (pK scope env):=by
 simp only [closureFor]
 rw [xO (g:=gK env) [] (fun x hx c=>by
  obtain ⟨n,kind⟩:=x
  by_cases hk:kind=.free
  ·subst hk
   obtain ⟨a,e⟩:=h _ hx rfl
   have e':env.cells.lookup n=some a:=e
   simp [gK,e',cellOf]
   try rfl
  ·have hb:(kind==NameKind.free)=false:=by simpa using hk
   simp [gK,hb,hk])]
 rfl
theorem cl_go {env:Env}:∀ (names:List (Str×NameKind)) (cs:List (Str×Addr)),(∀ x c,(x,c)∈cs→env.cells.lookup x=some c) →
  ∀ x c,(x,c)∈names.foldl (fun cs p=>gK env p cs) cs→env.cells.lookup x=some c
 | [],cs,h=>h
 | p::r,cs,h=>by
  refine cl_go r _ ?_
  intro x c hx
  unfold gK at hx
  dsimp only at hx
  split at hx
  ·split at hx
   ·rename_i a e
    rcases List.mem_cons.mp hx with z | z
    ·cases z;exact e
    ·exact h x c z
   ·exact h x c hx
  ·exact h x c hx
theorem zW {env:Env} {q:Str×Addr}:∀ (names:List (Str×NameKind)) (cs:List (Str×Addr)),q∈cs→q∈names.foldl (fun cs p=>gK env p cs) cs
 | [],_,h=>h
 | p::r,cs,h=>by
  refine zW r _ ?_
  unfold gK
  dsimp only
  split
  ·split
   ·exact List.mem_cons_of_mem _ h
   ·exact h
  ·exact h
theorem a3E {env:Env} {x:Str} {c:Addr} (e:env.cells.lookup x=some c):∀ (names:List (Str×NameKind)) (cs:List (Str×Addr)),(x,NameKind.free)∈names→(x,c)∈names.foldl (fun cs p=>gK env p cs) cs
 | [],_,h=>by simp at h
 | p::r,cs,h=>by
  rcases List.mem_cons.mp h with z | z
  ·subst z
   refine zW r _ ?_
   unfold gK
   dsimp only
   rw [if_pos rfl,e]
   exact List.mem_cons_self
  ·exact a3E e r _ z
theorem fA {α:Type} {x:Str} {c:α}:∀ {l:List (Str×α)},(x,c)∈l→∃ c',l.lookup x=some c'
 | [],h=>by simp at h
 | (y,d)::r,h=>by
  by_cases e:x=y
  ·subst e;exact ⟨d,by simp [List.lookup_cons]⟩
  ·have hb:(x==y)=false:=by simpa using e
   rcases List.mem_cons.mp h with z | z
   ·cases z;exact absurd rfl e
   ·obtain ⟨c',q⟩:=fA z
    exact ⟨c',by simp [List.lookup_cons,hb,q]⟩
theorem zX {scope:Scope} {env:Env} {x:Str} {c:Addr} (h:(pK scope env).lookup x=some c):env.cells.lookup x=some c:=
 cl_go scope.names [] (fun _ _ z=>by simp at z) x c (PySem.mem_of_lookup h)
theorem vV {scope:Scope} {env:Env} {x:Str} {c:Addr} (hx:(x,NameKind.free)∈scope.names) (e:env.cells.lookup x=some c):(pK scope env).lookup x=some c:=by
 obtain ⟨c',q⟩:=fA (a3E e scope.names [] hx)
 have:=zX (scope:=scope) q
 rw [e] at this
 cases this
 exact q
theorem eK {env:Env} (hf:env.scope.kind=.function):∀ {names:List (Str×NameKind)} {x:Str},names.lookup x=some .free→env.kindOf x=some .cell →
  (names.map fun (n,k)=>if (k==NameKind.free&&env.scope.kind==.function&&env.kindOf n==some .cell) then (n,NameKind.cell) else (n,k)).lookup x=some .cell
 | [],_,h,_=>by simp at h
 | (n,k)::r,x,h,hk=>by
  have ih:=@eK env hf r x
  show List.lookup x ((if (k==NameKind.free&&env.scope.kind==.function&&env.kindOf n==some .cell)=true then (n,NameKind.cell) else (n,k))::_)=_
  cases hx:x==n with
  | true=>
   simp only [List.lookup_cons,hx] at h
   have e:x=n:=by simpa using hx
   subst e
   cases h
   have hc:(NameKind.free==NameKind.free&&env.scope.kind==.function&&env.kindOf x==some NameKind.cell)=true:=by rw [hf,hk];rfl
   rw [if_pos hc]
   simp [List.lookup_cons]
  | false=>
   simp only [List.lookup_cons,hx] at h
   by_cases hc:(k==NameKind.free&&env.scope.kind==.function&&env.kindOf n==some .cell)=true
   ·rw [if_pos hc];simp only [List.lookup_cons,hx];exact ih h hk
   ·rw [if_neg hc];simp only [List.lookup_cons,hx];exact ih h hk
theorem eT:∀ (names:List (Str×NameKind)) (n:Nat) (acc cl:List (Str×Addr)),cellsFrom n names (acc++cl)=cellsFrom n names acc++cl
 | [],_,_,_=>rfl
 | (x,k)::r,n,acc,cl=>by
  unfold cellsFrom
  split
  ·exact eT r (n+1) ((x,n)::acc) cl
  ·exact eT r n acc cl
theorem dA (names:List (Str×NameKind)) (n:Nat) (cl:List (Str×Addr)) {x:Str} {c:Addr} (h:(cellsFrom n names cl).lookup x=some c) :
  (cellsFrom n names []).lookup x=some c∨((cellsFrom n names []).lookup x=none∧cl.lookup x=some c):=by
 have e:=eT names n [] cl
 rw [List.nil_append] at e
 rw [e,List.lookup_append] at h
 cases q:(cellsFrom n names []).lookup x with
 | some d=>rw [q] at h;exact .inl h
 | none=>rw [q] at h;exact .inr ⟨rfl,h⟩
theorem vW (names:List (Str×NameKind)) (n:Nat) (cl:List (Str×Addr)) {x:Str} {c:Addr} (h:cl.lookup x=some c):∃ d,(cellsFrom n names cl).lookup x=some d:=by
 have e:=eT names n [] cl
 rw [List.nil_append] at e
 rw [e,List.lookup_append]
 cases q:(cellsFrom n names []).lookup x with
 | some d=>exact ⟨d,rfl⟩
 | none=>exact ⟨c,h⟩
theorem vX (names:List (Str×NameKind)) (n:Nat) (cl:List (Str×Addr)) {x:Str} {c:Addr} (h0:(cellsFrom n names []).lookup x=none) (h:cl.lookup x=some c):(cellsFrom n names cl).lookup x=some c:=by
 have e:=eT names n [] cl
 rw [List.nil_append] at e
 rw [e,List.lookup_append,h0]
 exact h
theorem vY (names:List (Str×NameKind)) (n:Nat) (cl:List (Str×Addr)) {x:Str} {c:Addr} (h:(cellsFrom n names []).lookup x=some c):(cellsFrom n names cl).lookup x=some c:=by
 have e:=eT names n [] cl
 rw [List.nil_append] at e
 rw [e,List.lookup_append,h]
 rfl
theorem mE:∀ (names:List (Str×NameKind)) (n:Nat) (acc:List (Str×Addr)) {x:Str} {c:Addr},(x,c)∈cellsFrom n names acc→(x,c)∈acc∨(x,NameKind.cell)∈names
 | [],_,_,_,_,h=>.inl h
 | (y,k)::r,n,acc,x,c,h=>by
  unfold cellsFrom at h
  split at h
  ·rename_i hk
   have hk':k=.cell:=by simpa using hk
   rcases mE r (n+1) ((y,n)::acc) h with z | z
   ·rcases List.mem_cons.mp z with z | z
    ·cases z;subst hk';exact .inr List.mem_cons_self
    ·exact .inl z
   ·exact .inr (List.mem_cons_of_mem _ z)
  ·rcases mE r n acc h with z | z
   ·exact .inl z
   ·exact .inr (List.mem_cons_of_mem _ z)
theorem a5P {M:Model} {A:Around} {E:Value→Shared→Prop} {s:Shared} {scope:Scope} {globals:Addr} {cl:List (Str×Addr)} {qual:Str} {env:Env} {Q:Env→Shared→Prop}
  (hQ:Q (newEnv scope s.heap.objs.size globals (cellsFrom (s.heap.objs.size+1) scope.names cl) qual none .none (some env) builtinsNs) { s with heap:=pushCells (s.heap.push { cls:=.type "dict", data:=.dict #[] }) scope.names }) :
  wpAny M A (newFunctionEnv scope globals cl [] qual none .none (some env)) Q E s:=by
 simp only [newFunctionEnv,Option.isSome_some,if_true]
 refine wpAny_bind (wpAny_alloc ?_)
 refine wpAny_bind (wpAny_layCells _ (fun name kind cells=>by cases hkc:kind==NameKind.cell<;>simp [hkc]) _ _ _ _ ?_)
 rw [show ({ s with heap:=s.heap.push { cls:=.type "dict", data:=.dict #[] } }:Shared).heap.objs.size=s.heap.objs.size+1 from Heap.size_push ..]
 refine wpAny_bind (wpAny_pure ?_)
 exact wpAny_pure hQ
structure Blk (X:Cx) (scope:Scope) (N':List Str) (cap:List (Option Nat)):Prop where
 kind:scope.kind=.function
 cells:∀ y∈scope.names,y.2=.cell→scope.names.lookup y.1=some .cell
 names:∀ y∈scope.names,y.2=.local→scope.names.lookup y.1=some .local
 free:∀ y∈scope.names,y.2=.free→X.env.kindOf y.1=some .cell
 caps:∀ (i j:Nat),cap[i]?=some (some j)→∃ x,N'[i]?=some x∧X.N[j]?=some x∧scope.names.lookup x=some .free
 len:cap.length=N'.length
 nd:N'.Nodup
noncomputable def eL (cap:List (Option Nat)) (σ:St):St:=cap.map fun o=>match o with
 | some j=>(σ[j]?).getD none
 | none=>none
noncomputable def aV (X:Cx) (scope:Scope) (N':List Str) (C:Addr) (s₃:Shared) (H₃:Hp) (fp:List Addr):Cx:=
 { X with env:=compEnvC scope (cellsFrom (C+1) scope.names (pK scope X.env)) C X.env,N:=N',s₀:=s₃,H₀:=H₃,outer:=X.stack,ex:=fp,fn:=fun x=>decide (scope.names.lookup x=some .cell),pn:=[],xe:=fun _ _=>False }
theorem a5O {X:Cx} {scope:Scope} {N':List Str} {cap:List (Option Nat)} {pins:List (Addr×Obj)} {σ:St} {H:Hp} {s:Shared} {fp:List Addr} {h':Heap} {tk:Nat} {m':Str→Option Value}
  (B:Blk X scope N' cap) (I:Inv X pins σ H s) (hf:∀ b∈fp,lE X pins H b) (hlt:∀ b∈fp,b<s.heap.objs.size)
  (hn:h'.Ns s.heap.objs.size m') (hk:∀ b o,s.heap.get? b=some o→h'.get? b=some o) (ow:CellsOk h' (s.heap.objs.size+1) (cellsFrom (s.heap.objs.size+1) scope.names [])) :
  Inv (aV X scope N' s.heap.objs.size s H fp) [] (eL cap σ) H { s with heap:=h',toks:=tk }:=by
 have cl:∀ x c,(pK scope X.env).lookup x=some c→X.env.cells.lookup x=some c:=fun x c h=>zX h
 have hsz:∀ x c,X.env.cells.lookup x=some c→c<s.heap.objs.size:=fun x c e=>by
  obtain ⟨v,q⟩:=I.cell x c e
  exact q.lt
 have own:∀ x c,(cellsFrom (s.heap.objs.size+1) scope.names []).lookup x=some c→h'.IsCell c none∧s.heap.objs.size<c:=fun x c e=>by
  obtain ⟨q1,q2⟩:=ow.empty x c (PySem.mem_of_lookup e)
  exact ⟨q1,Nat.lt_of_lt_of_le (Nat.lt_succ_self _) q2⟩
 refine ⟨⟨I.ok.mod,B.kind,I.ok.glob,I.ok.blt,Nat.le_refl _,?_,?_,?_,I.ok.hd,I.ok.frames,.inl rfl,?_,I.bs,Nat.le_trans I.ok.bsz I.sz,?_,?_,I.stack,I.stkFree⟩,
  rfl,I.bare,Un.kept hk,⟨m',hn,?_⟩,?_,I.hok.fresh (Nat.le_refl _),?_,?_,I.hok.kept hk,?_⟩
 ·intro x y c h1 h2
  rcases dA _ _ _ h1 with a1 | ⟨_,a1⟩<;>rcases dA _ _ _ h2 with a2 | ⟨_,a2⟩
  ·exact name_of_addr ow.apart (PySem.mem_of_lookup a1) (PySem.mem_of_lookup a2)
  ·exact absurd (hsz y c (cl y c a2)) (Nat.not_lt_of_lt (own x c a1).2)
  ·exact absurd (hsz x c (cl x c a1)) (Nat.not_lt_of_lt (own y c a2).2)
  ·exact I.ok.inj x y c (cl x c a1) (cl y c a2)
 ·intro x hx
  have hx:(relabel scope X.env).names.lookup x=some .cell∨(relabel scope X.env).names.lookup x=some .free:=hx
  have key:∃ k,(relabel scope X.env).names.lookup x=some k∧(k=.cell∨k=.free):=by
   rcases hx with h | h
   ·exact ⟨_,h,.inl rfl⟩
   ·exact ⟨_,h,.inr rfl⟩
  obtain ⟨k,hk1,hk2⟩:=key
  obtain ⟨⟨n,k0⟩,hm,he⟩:=List.mem_map.mp (PySem.mem_of_lookup hk1)
  have fr:(k0=.free∨k0=.cell)∧n=x:=by
   dsimp only at he
   by_cases hc:(k0==NameKind.free&&X.env.scope.kind==.function&&X.env.kindOf n==some .cell)=true
   ·rw [if_pos hc] at he
    cases he
    simp only [Bool.and_eq_true] at hc
    exact ⟨.inl (by simpa using hc.1.1),rfl⟩
   ·rw [if_neg hc] at he
    cases he
    rcases hk2 with z | z
    ·exact ⟨.inr z,rfl⟩
    ·exact ⟨.inl z,rfl⟩
  obtain ⟨hk0,rfl⟩:=fr
  rcases hk0 with rfl | rfl
  ·obtain ⟨c,e⟩:=I.ok.has n (.inl (B.free _ hm rfl))
   exact vW _ _ _ (vV hm e)
  ·obtain ⟨c,e⟩:=kW (sc:=scope) (n:=s.heap.objs.size+1) (B.cells _ hm rfl)
   exact ⟨c,vY _ _ _ e⟩
 ·intro x c hx e
  have hx:scope.names.lookup x=some .cell:=of_decide_eq_true hx
  rcases dA _ _ _ e with e | ⟨n0,_⟩
  ·exact Nat.le_of_lt (own x c e).2
  ·obtain ⟨d,q⟩:=kW (sc:=scope) (n:=s.heap.objs.size+1) hx
   rw [q] at n0;cases n0
 ·intro b hb
  refine ⟨Nat.ne_of_lt (hlt b hb),fun x c e=>?_⟩
  rcases dA _ _ _ e with e | ⟨_,e⟩
  ·exact fun z=>absurd (hlt b hb) (Nat.not_lt_of_lt (by rw [←z];exact (own x c e).2))
  ·exact (hf b hb).2.2.2.2.1 x c (cl x c e)
 ·intro b o e hb
  rcases (hf b hb).2.2.2.1 with z | z
  ·exact I.ok.noex b o e z
  ·exact absurd (Nat.lt_of_lt_of_le (Heap.lt_size e) (Nat.le_trans I.ok.bsz z)) (Nat.lt_irrefl _)
 ·intro b hb hfs
  rcases List.mem_cons.mp (I.stkSub b hfs) with z | z
  ·exact (hf b hb).2.1 z
  ·exact (hf b hb).2.2.1 z
 ·intro i x v e1 e2 _
  have e1:N'[i]?=some x:=e1
  have e2:(eL cap σ)[i]?=some (some v):=e2
  unfold eL at e2
  rw [List.getElem?_map] at e2
  cases hc:cap[i]? with
  | none=>rw [hc] at e2;cases e2
  | some o=>
   rw [hc] at e2
   cases o with
   | none=>cases e2
   | some j=>
    have e3:(σ[j]?).getD none=some v:=Option.some.inj e2
    have e4:σ[j]?=some (some v):=by
     cases q:σ[j]? with
     | none=>rw [q] at e3;cases e3
     | some w'=>rw [q] at e3;have:w'=some v:=e3;rw [this]
    obtain ⟨y,h1,h2,h3⟩:=B.caps i j hc
    rw [e1] at h1
    cases h1
    have hcell:X.env.kindOf x=some .cell:=B.free _ (PySem.mem_of_lookup h3) rfl
    obtain ⟨m,_,hl⟩:=I.loc
    obtain ⟨u,r,l⟩:=hl j x v h2 e4 (.inr (.inl hcell))
    refine ⟨u,r,?_⟩
    rcases l with ⟨k,_⟩ | ⟨_,c,e,z⟩
    ·rw [hcell] at k;cases k
    ·refine .inr ⟨.inl ?_,c,vX _ _ _ ?_ (vV (PySem.mem_of_lookup h3) e),?_⟩
     ·exact eK I.ok.kind h3 hcell
     ·cases q:(cellsFrom (s.heap.objs.size+1) scope.names []).lookup x with
      | none=>rfl
      | some d=>
       rcases mE _ _ _ (PySem.mem_of_lookup q) with z | z
       ·cases z
       ·rw [B.cells _ z rfl] at h3;cases h3
     ·obtain ⟨o,q1,q2⟩:=z
      exact ⟨o,hk c o q1,q2⟩
 ·intro x c e
  rcases dA _ _ _ e with e | ⟨_,e⟩
  ·exact ⟨none,(own x c e).1⟩
  ·obtain ⟨v,o,q1,q2⟩:=I.cell x c (cl x c e)
   exact ⟨v,o,hk c o q1,q2⟩
 ·intro x c e
  rcases dA _ _ _ e with e | ⟨_,e⟩
  ·exact I.hok.fresh (Nat.le_of_lt (own x c e).2)
  ·exact I.freeC x c (cl x c e)
 ·intro p hp
  exact absurd (show p∈([]:List (Addr×Obj)) from hp) (by simp)
 ·show (eL cap σ).length=N'.length
  unfold eL
  rw [List.length_map]
  exact B.len
noncomputable def PTs (X:Cx) (ifs:List Expr) (t:TT):Prop:=
 ∀ (pins:List (Addr×Obj)) (s:Shared) (σ:St) (H:Hp) (Q:Bool→Hp→Prop),Inv X pins σ H s→t σ H Q →
  wpAny (model X.prog X.w) X.A (forIn ifs true fun c r=>if r=true then do let ok ←isTrue c X.env (eval c X.env);pure (ForInStep.yield ok) else pure (ForInStep.yield r)) (TP X pins σ Q) X.xe s
noncomputable def tAll:TT:=fun _ H Q=>Q true H
theorem a4s {X:Cx}:PTs X [] tAll:=fun _ _ _ H _ I h=>wpAny_tests_nil ⟨H,I,h⟩
theorem a4r {X:Cx} {c:Expr} {t:TT} (h:PT X c t):PTs X [c] t:=fun pins s σ H Q I hw=>wpAny_tests_one (h pins s σ H Q I hw)
noncomputable def lD (J:It) (g:TG) (tc:TT) (te:TE) (σ₀:St) (H:Hp) (Q:VK):Prop:=
 ∃ W:Addr→Nat→Nat→List V→St→Hp→Prop,∀ D,H D=none→(∃ m,W D 0 m [] σ₀ (upd H D (.lst [])))∧∀ i m ys σ1 H1,W D i m ys σ1 H1→H1 D=some (.lst ys) →
  (J.stop i H1∧Q (.ref D) H1)∨(J.go i H1∧∀ x H2,J.yld i H1 x H2→g x σ1 H2 fun σ3 H3=>tc σ3 H3 fun b H4=>
   if b=true then te σ3 H4 fun v H5=>H5 D=some (.lst ys)∧ys.length<sizeLine∧∃ m',m'<m∧W D (i+1) m' (ys++[v]) σ3 (upd H5 D (.lst (ys++[v])))
   else H4 D=some (.lst ys)∧∃ m',m'<m∧W D (i+1) m' ys σ3 H4)
theorem a0V {X:Cx} (XE:Addr→Shared→Hp→List Addr→Value→Shared→Prop) {elt iter tg:Expr} {ifs:List Expr} {scope:Scope} {pos:Pos} {N':List Str} {cap:List (Option Nat)} {pins:List (Addr×Obj)} {σ:St} {H:Hp} {s:Shared} {J:It} {it:Addr} {fp:List Addr} {tn:Nat→Heap→Prop}
  {g:TG} {tc:TT} {te:TE} {Q:VK} {RR:Value→Addr→Result→Shared→Prop} (hc:X.calm=true) (B:Blk X scope N' cap) (I:Inv X pins σ H s) (T:Turn X.prog X.w X.K tg J fp it tn) (st:tn 0 s.heap) (hf:∀ b∈fp,lE X pins H b)
  (hg:∀ C s₃ H₃ fp,PG (aV X scope N' C s₃ H₃ fp) tg g) (ht:∀ C s₃ H₃ fp,PTs (aV X scope N' C s₃ H₃ fp) ifs tc) (he:∀ C s₃ H₃ fp,PE ((aV X scope N' C s₃ H₃ fp).wish (XE C s₃ H₃ fp)) elt te)
  (w:lD J g tc te (eL cap σ) H Q)
  (hx:∀ D s₃ H₃ e s',Inv X pins σ H₃ s₃→(∀ b∈fp,lE X pins H₃ b)→H D=none→H₃=upd H D (.lst [])→s.heap.objs.size≤s₃.heap.objs.size→XE s₃.heap.objs.size s₃ H₃ fp e s' →
   notedBy (model X.prog X.w) X.A (compEnvC scope (cellsFrom (s₃.heap.objs.size+1) scope.names (pK scope X.env)) s₃.heap.objs.size X.env) (fun x s'=>RR (.ref D) s₃.heap.objs.size (.error x) s') e s')
  (fin:∀ D C s' H' m',s.heap.get? C=none→s.heap.objs.size≤C→s'.heap.Ns C m'→H' C=none→Inv X pins σ H' s'→Q (.ref D) H'→RR (.ref D) C (.ok .next) s') :
  wpAny (model X.prog X.w) X.A (newList []) (fun acc s₃=>wpAny (model X.prog X.w) X.A (newFunctionEnv scope X.env.globals (pK scope X.env) [] X.env.qual none .none (some X.env)) (fun cenv s₄=>
   cenv.frame=X.env.frame∧codeAny (model X.prog X.w) X.A (.compStart (.ListComp elt [⟨tg,iter,ifs,0⟩] scope pos) 0 (.ref it) acc { cenv with scope:=relabel scope X.env }) (RR acc cenv.locals) s₄) X.xe s₃) X.xe s:=by
 refine wpAny_newObj_type (a5P ?_)
 dsimp only
 obtain ⟨W,hW⟩:=w
 have hD:H s.heap.objs.size=none:=I.hok.fresh (Nat.le_refl _)
 obtain ⟨⟨m0,w0⟩,turn⟩:=hW s.heap.objs.size hD
 have I3:Inv X pins σ (upd H s.heap.objs.size (.lst [])) { s with heap:=s.heap.push { cls:=.type "list", data:=.seq ([]:List Value).toArray } }:=I.lnew (its:=[]) (ys:=[]) (t':=s.toks) .nil (Nat.zero_le _)
 generalize hH2:s.heap.push { cls:=.type "list", dict:=none,data:=.seq ([]:List Value).toArray }=H2 at I3 ⊢
 have hC:H2.objs.size=s.heap.objs.size+1:=by rw [←hH2,Heap.size_push]
 have lt3:∀ b∈fp,b<s.heap.objs.size:=fun b hb=>by
  obtain ⟨o,e,_⟩:=T.obj 0 _ st b hb
  exact Heap.lt_size e
 have hf3:∀ b∈fp,lE X pins (upd H s.heap.objs.size (.lst [])) b:=fun b hb=>by
  refine ⟨?_,(hf b hb).2⟩
  rw [aD (Nat.ne_of_lt (lt3 b hb))]
  exact (hf b hb).1
 have ow:CellsOk (pushCells (H2.push { cls:=.type "dict", data:=.dict #[] }) scope.names) (H2.objs.size+1) (cellsFrom (H2.objs.size+1) scope.names []):=by
  have ok:=cellsFrom_ok scope.names (H2.push { cls:=.type "dict", data:=.dict #[] }) (H2.objs.size+1) [] ⟨fun _ _ hm=>(nomatch hm),List.Pairwise.nil⟩ (by rw [Heap.size_push];exact Nat.le_refl _)
  rw [Heap.size_push] at ok
  exact ok
 have hns₁:(pushCells (H2.push { cls:=.type "dict", data:=.dict #[] }) scope.names).Ns H2.objs.size fun _=>none:=(Heap.Ns.new H2 (.type "dict")).keeps (pushCells_keeps _ _)
 have keep:∀ b o,H2.get? b=some o→(pushCells (H2.push { cls:=.type "dict", data:=.dict #[] }) scope.names).get? b=some o:=fun b o e=>pushCells_keeps _ _ b o (Heap.get?_push_of_some _ e)
 generalize pushCells (H2.push { cls:=.type "dict", data:=.dict #[] }) scope.names=h₁ at ow hns₁ keep ⊢
 have I4:Inv (aV X scope N' H2.objs.size { s with heap:=H2 } (upd H s.heap.objs.size (.lst [])) fp) [] (eL cap σ) (upd H s.heap.objs.size (.lst [])) { s with heap:=h₁ }:=
  a5O (s:={ s with heap:=H2 }) B I3 hf3 (fun b hb=>by show b<H2.objs.size;rw [hC];exact Nat.lt_succ_of_lt (lt3 b hb)) hns₁ keep ow
 have st4:tn 0 h₁:=T.keep 0 _ _ st fun b hb o e=>keep b o (by rw [←hH2];exact Heap.get?_push_of_some _ e)
 have loop:∀ s₅:Shared,s₅={ s with heap:=h₁ } →
   codeAny (model X.prog X.w) X.A (.compLoop (.ListComp elt [⟨tg,iter,ifs,0⟩] scope pos) 0 (.ref it) (.ref s.heap.objs.size) (compEnvC scope (cellsFrom (H2.objs.size+1) scope.names (pK scope X.env)) H2.objs.size X.env))
    (RR (.ref s.heap.objs.size) H2.objs.size) s₅:=by
  rintro s₅ rfl
  refine codeAny_loop rfl (fun n s'=>∃ i ys σ' H',Inv (aV X scope N' H2.objs.size { s with heap:=H2 } (upd H s.heap.objs.size (.lst [])) fp) [] σ' H' s'∧tn i s'.heap∧(∀ b∈fp,H' b=none)∧H' s.heap.objs.size=some (.lst ys)∧W s.heap.objs.size i n ys σ' H') ?_ m0
   ⟨0,[],_,_,I4,st4,fun b hb=>(hf3 b hb).1,aF,w0⟩
  rintro n s6 ⟨i,ys,σ6,H6,I6,st6,fr6,hD6,w6⟩
  show wpAny _ X.A ((compTurn (.ListComp elt [⟨tg,iter,ifs,0⟩] scope pos) 0 (.ref it) (.ref s.heap.objs.size) (compEnvC scope (cellsFrom (H2.objs.size+1) scope.names (pK scope X.env)) H2.objs.size X.env)).onRaise (fun x=>do noteFrame x (compEnvC scope (cellsFrom (H2.objs.size+1) scope.names (pK scope X.env)) H2.objs.size X.env);theTreesLotGoes x)) _ _ s6
  refine wpAny_noted ?_
  rw [compTurn_list]
  have stat:∀ {H':Hp},(∀ b∈fp,H' b=none)→∀ b∈fp,lE (aV X scope N' H2.objs.size { s with heap:=H2 } (upd H s.heap.objs.size (.lst [])) fp) [] H' b:=fun hn b hb=>
   ⟨hn b hb,Nat.ne_of_lt (by show b<H2.objs.size;rw [hC];exact Nat.lt_succ_of_lt (lt3 b hb)),I4.ok.exfs b hb,.inl hb,fun x c e=>(I4.ok.exf b hb).2 x c e,fun p hp=>absurd (show p∈([]:List (Addr×Obj)) from hp) (by simp)⟩
  rcases turn i n ys σ6 H6 w6 hD6 with ⟨stop,qn⟩ | ⟨go,step⟩
  ·refine wpAny_bind (wpAny_standAt (wpAny_bind (thn (T.done (aV X scope N' H2.objs.size { s with heap:=H2 } (upd H s.heap.objs.size (.lst [])) fp) rfl rfl rfl hc i [] s6 _ H6 _ I6 (stat fr6) st6 stop) fun r s7 ⟨hr,I7⟩=>?_)))
   subst hr
   refine wpAny_pure ?_
   obtain ⟨m7,hn7,_⟩:=I7.loc
   refine fin _ _ s7 H6 m7 ?_ ?_ hn7 I7.free ?_ qn
   ·exact Heap.get?_none_of_le (by rw [hC];exact Nat.le_succ _)
   ·rw [hC];exact Nat.le_succ _
   ·refine I3.call' (ch:=fp) ?_ ?_ I7.hok I7.bare fun b hb=>?_
    ·exact I7.os
    ·exact I7.base
    ·obtain ⟨f0,f1,f2,f3,f4,f5⟩:=hf3 b hb
     exact ⟨f3,f1,f4,f5⟩
  ·refine wpAny_bind (wpAny_standAt (wpAny_bind (thn (T.item (aV X scope N' H2.objs.size { s with heap:=H2 } (upd H s.heap.objs.size (.lst [])) fp) rfl rfl rfl hc i [] s6 _ H6 _ I6 (stat fr6) st6 go) fun r s7 ⟨u,hr,h7⟩=>?_)))
   subst hr
   refine wpAny_bind (thn h7 fun _ s8 ⟨x,H8,I8,r8,y8,st8,fr8⟩=>?_)
   have I8':=I8.pinned (stat fr8) (T.obj _ _ st8)
   have bad:∀ {α:Type} {t:Sem α} {Q':α→Shared→Prop} {s':Shared} {E:Value→Shared→Prop},wpAny (model X.prog X.w) X.A t Q' (fun _ _=>False) s'→wpAny (model X.prog X.w) X.A t Q' E s':=fun h=>wpAny_mono h (fun _ _ q=>q) fun _ _ z=>z.elim
   refine wpAny_bind (bad (thn (hg _ _ _ _ _ s8 _ H8 x u _ I8' r8 (step x H8 y8)) fun _ s9 ⟨σ9,H9,I9,q9⟩=>?_))
   refine wpAny_bind (bad (thn (ht _ _ _ _ _ s9 σ9 H9 _ I9 q9) fun ok s10 ⟨H10,I10,q10⟩=>?_))
   have again:∀ {σ':St} {H':Hp} {ys':List V} {s':Shared} {m':Nat},Inv (aV X scope N' H2.objs.size { s with heap:=H2 } (upd H s.heap.objs.size (.lst [])) fp) ([]++kB fp s8.heap) σ' H' s'→H' s.heap.objs.size=some (.lst ys') →
     m'<n→W s.heap.objs.size (i+1) m' ys' σ' H' →
     ∃ m,m<n∧∃ i ys σ' H',Inv (aV X scope N' H2.objs.size { s with heap:=H2 } (upd H s.heap.objs.size (.lst [])) fp) [] σ' H' s'∧tn i s'.heap∧(∀ b∈fp,H' b=none)∧H' s.heap.objs.size=some (.lst ys)∧W s.heap.objs.size i m ys σ' H':=fun {σ' H' ys' s' m'} J' hD' hm' w'=>by
    refine ⟨m',hm',i+1,ys',σ',H',J'.unpinned,T.keep _ _ _ st8 fun b hb o e=>(J'.pin (b,o) (List.mem_append_right _ (List.mem_append_right _ (eY hb e)))).1,fun b hb=>?_,hD',w'⟩
    obtain ⟨o,e,d⟩:=T.obj _ _ st8 b hb
    exact (J'.pin (b,o) (List.mem_append_right _ (List.mem_append_right _ (eY hb e)))).2.1
   cases ok with
   | false=>
    obtain ⟨hD10,m',hm',w'⟩:=q10
    exact wpAny_pure ⟨rfl,again I10 hD10 hm' w'⟩
   | true=>
    refine wpAny_bind (wpAny_bind (wpAny_mono (he _ _ _ _ _ s10 σ9 H10 _ (I10.wish _) q10) (fun y s11 ⟨v,H11,I11w,r11,hD11,hlen,m',hm',w'⟩=>?_) fun e s' z=>hx _ { s with heap:=H2 } _ e s' I3 hf3 hD rfl (by show s.heap.objs.size≤H2.objs.size;rw [hC];exact Nat.le_succ _) z))
    have I11:=I11w.unwish
    refine wpAny_bind (bad <| thn (qP (X:=aV X scope N' H2.objs.size { s with heap:=H2 } (upd H s.heap.objs.size (.lst [])) fp) _ s11 σ9 H11 (.ref s.heap.objs.size) [v] (.ref s.heap.objs.size) [y] (fun _ H'=>H'=upd H11 s.heap.objs.size (.lst (ys++[v]))) I11 rfl (.cons r11 .nil) ⟨_,_,_,rfl,rfl,hD11,hlen,rfl⟩) fun _ s12 ⟨_,H12,I12,_,e12⟩=>?_)
    subst e12
    exact wpAny_pure (wpAny_pure ⟨rfl,again I12 aF hm' w'⟩)
 exact ⟨rfl,codeAny_compStart_list (loop _ rfl) (T.self _ 0 _ _ _ st4 (loop _ rfl))⟩
theorem vU {X:Cx} {elt iter tg:Expr} {ifs:List Expr} {scope:Scope} {pos:Pos} {N':List Str} {cap:List (Option Nat)} {pins:List (Addr×Obj)} {σ:St} {H:Hp} {s:Shared} {J:It} {it:Addr} {fp:List Addr} {tn:Nat→Heap→Prop}
  {g:TG} {tc:TT} {te:TE} {Q:VK} {RR:Value→Addr→Result→Shared→Prop} (hc:X.calm=true) (B:Blk X scope N' cap) (I:Inv X pins σ H s) (T:Turn X.prog X.w X.K tg J fp it tn) (st:tn 0 s.heap) (hf:∀ b∈fp,lE X pins H b)
  (hg:∀ C s₃ H₃ fp,PG (aV X scope N' C s₃ H₃ fp) tg g) (ht:∀ C s₃ H₃ fp,PTs (aV X scope N' C s₃ H₃ fp) ifs tc) (he:∀ C s₃ H₃ fp,PE (aV X scope N' C s₃ H₃ fp) elt te)
  (w:lD J g tc te (eL cap σ) H Q)
  (fin:∀ D C s' H' m',s.heap.get? C=none→s.heap.objs.size≤C→s'.heap.Ns C m'→H' C=none→Inv X pins σ H' s'→Q (.ref D) H'→RR (.ref D) C (.ok .next) s') :
  wpAny (model X.prog X.w) X.A (newList []) (fun acc s₃=>wpAny (model X.prog X.w) X.A (newFunctionEnv scope X.env.globals (pK scope X.env) [] X.env.qual none .none (some X.env)) (fun cenv s₄=>
   codeAny (model X.prog X.w) X.A (.compStart (.ListComp elt [⟨tg,iter,ifs,0⟩] scope pos) 0 (.ref it) acc { cenv with scope:=relabel scope X.env }) (RR acc cenv.locals) s₄) X.xe s₃) X.xe s:=
 wpAny_mono (a0V (fun _ _ _ _ _ _=>False) hc B I T st hf hg ht he w (fun _ _ _ _ _ _ _ _ _ _ z=>z.elim) fin) (fun _ _ h=>wpAny_mono h (fun _ _ z=>z.2) fun _ _ z=>z) fun _ _ z=>z
noncomputable def a6b (wi:TI) (cap:List (Option Nat)) (g:TG) (tc:TT) (te:TE):TE:=fun σ H Q=>wi σ H fun J H1=>lD J g tc te (eL cap σ) H1 Q
section
variable {X:Cx} {elt iter tg:Expr} {ifs:List Expr} {scope:Scope} {pos spos:Pos} {N':List Str} {cap:List (Option Nat)} {wi:TI} {g:TG} {tc:TT} {te:TE}
theorem nB (hc:X.calm=true) (B:Blk X scope N' cap) (hi:PI X tg iter wi)
  (hg:∀ C s₃ H₃ fp,PG (aV X scope N' C s₃ H₃ fp) tg g) (ht:∀ C s₃ H₃ fp,PTs (aV X scope N' C s₃ H₃ fp) ifs tc) (he:∀ C s₃ H₃ fp,PE (aV X scope N' C s₃ H₃ fp) elt te)
  (hs:∀ x,foldedSetIterable iter X.env x=pure x:=by intro _;rfl):PE X (.ListComp elt [⟨tg,iter,ifs,0⟩] scope pos) (a6b wi cap g tc te):=by
 intro pins s σ H Q I h
 rw [eval_ListComp]
 refine wpAny_comprehension_free (use:=none) rfl hs (kU fun p hp hk=>I.ok.has p.1 (.inl (B.free p hp hk))) B.kind B.names ?_
 refine thn (hi pins s σ H _ I h) fun v s1 h1=>thn h1 fun itv s2 ⟨it,fp,tn,J,H2,e,I2,T,st2,f2,w⟩=>?_
 subst e
 refine vU (RR:=fun acc C=>compPost (model X.prog X.w) X.A X.xe none (EP X pins σ Q) acc C) hc B I2 T st2 f2 hg ht he w ?_
 intro D C s' H' m' hC hCs hn hCf I' q
 refine ⟨m',hn,fun h'' hs''=>⟨.ref D,H',?_,rfl,q⟩⟩
 refine I'.turned (t':=s'.toks) (it:=C) (fun b o hb e=>hs''.extBut b o hb e) hCf ?_ (.inr (Nat.le_trans I2.sz hCs)) ?_ ?_
 ·exact Nat.ne_of_gt (Nat.lt_of_lt_of_le I2.lt hCs)
 ·intro x c e z
  obtain ⟨v,q⟩:=I2.cell x c e
  exact absurd (Nat.lt_of_lt_of_le q.lt (by rw [z];exact hCs)) (Nat.lt_irrefl _)
 ·intro p hp z
  exact absurd (Nat.lt_of_lt_of_le (Heap.lt_size (I2.pin p hp).1) (by rw [z];exact hCs)) (Nat.lt_irrefl _)
theorem yS {i:Nat} {x:Str} {pos':Pos} (hN:X.N.Nodup) (hxi:X.N[i]?=some x) (hx:X.env.scope.names.lookup x=some .local) (hc:X.calm=true) (B:Blk X scope N' cap) (hi:PI X tg iter wi)
  (hg:∀ C s₃ H₃ fp,PG (aV X scope N' C s₃ H₃ fp) tg g) (ht:∀ C s₃ H₃ fp,PTs (aV X scope N' C s₃ H₃ fp) ifs tc) (he:∀ C s₃ H₃ fp,PE (aV X scope N' C s₃ H₃ fp) elt te)
  (hsw:swapsWith (.ListComp elt [⟨tg,iter,ifs,0⟩] scope pos) (some (.Name x pos')) spos.line X.env=pure true)
  (hs:∀ x,foldedSetIterable iter X.env x=pure x:=by intro _;rfl) :
  PS X (.Assign [.Name x pos'] (.ListComp elt [⟨tg,iter,ifs,0⟩] scope pos) spos) (tAsg (a6b wi cap g tc te) (a2Y i)):=by
 intro pins s σ H Dn I h
 rw [exec_Assign_Name_used _ _ _ _ hsw]
 refine wpAny_bind (wpAny_standAt (wpAny_bind ?_))
 show wpAny _ X.A (do let _ ←comprehension (.ListComp elt [⟨tg,iter,ifs,0⟩] scope pos) scope X.env _ (newList []) false (eval iter X.env) (some (assign (.Name x pos') X.env))) _ _ s
 refine wpAny_bind (wpAny_mono (wpAny_comprehension_free (use:=some (assign (.Name x pos') X.env)) (Q:=fun _ s'=>SP X pins Dn .next s') rfl hs (kU fun p hp hk=>I.ok.has p.1 (.inl (B.free p hp hk))) B.kind B.names ?_) (fun _ s' hq=>wpAny_pure (wpAny_pure hq)) fun _ _ e=>e)
 refine thn (hi pins s σ H _ I h) fun v s1 h1=>thn h1 fun itv s2 ⟨it,fp,tn,J,H2,e,I2,T,st2,f2,w⟩=>?_
 subst e
 refine vU (RR:=fun acc C=>compPost (model X.prog X.w) X.A X.xe (some (assign (.Name x pos') X.env)) (fun _ s'=>SP X pins Dn .next s') acc C) hc B I2 T st2 f2 hg ht he w ?_
 intro D C s' H' m' hC hCs hn hCf I' q
 have nL:C≠X.env.locals:=Nat.ne_of_gt (Nat.lt_of_lt_of_le I2.lt hCs)
 have nC:∀ y c,X.env.cells.lookup y=some c→c≠C:=fun y c e z=>by
  obtain ⟨v,q⟩:=I2.cell y c e
  exact absurd (Nat.lt_of_lt_of_le q.lt (by rw [z];exact hCs)) (Nat.lt_irrefl _)
 show wpAny _ X.A (assign (.Name x pos') X.env (.ref D)) _ _ _
 refine wpAny_assign_Name (qC (v:=.ref D) I' hN hxi (.inl hx) rfl (fun s3 I3 ⟨a,hsb,ha⟩=>?_) (.inr hx))
 have ne:C≠a:=by
  rcases ha with z | z
  ·rw [z];exact nL
  ·exact fun y=>nC x a z y.symm
 refine ⟨m',hn.sameBut hsb ne,fun h'' hs''=>⟨_,H',?_,q⟩⟩
 refine I3.turned (t':=s3.toks) (it:=C) (fun b o hb e=>hs''.extBut b o hb e) hCf nL (.inr (Nat.le_trans I2.sz hCs)) nC ?_
 intro p hp z
 exact absurd (Nat.lt_of_lt_of_le (Heap.lt_size (I2.pin p hp).1) (by rw [z];exact hCs)) (Nat.lt_irrefl _)
end
end L2
namespace L2.L3
open PySem PySem.Spec PyProof.Rows PySem.W
noncomputable def eP (K:Frag) (c:Str):Option Addr:=match nsIn K mainGlobals c with
 | some (some (.ref C))=>some C
 | _=>none
theorem tL {K:Frag} {c:Str} {C:Addr} (h:eP K c=some C):nsIn K mainGlobals c=some (some (.ref C)):=by
 unfold eP at h
 split at h
 ·rename_i e;cases h;exact e
 ·cases h
structure ExO (h:Heap) (a C:Addr) (ox:Obj):Prop where
 at_:h.get? a=some ox
 cls:ox.cls=.ref C
theorem ExO.type {h:Heap} {a C:Addr} {ox:Obj} {M:Model} (I:ExO h a C ox):Looks M h (typeOf (.ref a)) (.ref C):=I.cls▸(Looks.ld I.at_).andThen .now
end L2.L3
namespace L2.L3
open PySem PySem.Spec PyProof.Rows
noncomputable def cE:Key→PyData
 | .inl i=>.int i
 | .inr x=>.str x
mutual
inductive Rep (K:PySem.W.Frag) (G:Hp):V→PyData→Prop
 | none:Rep K G .non .none
 | bool (b:Bool):Rep K G (.bl b) (.bool b)
 | int (i:Int):Rep K G (.int i) (.int i)
 | str (x:Str):Rep K G (.str x) (.str x)
 | list {a:Addr} {xs:List V} {ds:List PyData}:SqL K G a xs→RepAll K G xs ds→Rep K G (.ref a) (.list ds)
 | tuple {a:Addr} {xs:List V} {ds:List PyData}:SqT K G a xs→RepAll K G xs ds→Rep K G (.ref a) (.tuple ds)
 | dict {a:Addr} {kvs:List (Key×V)} {D:List (PyData×PyData)}:Rd G a (.dK kvs)→D.map (·.1)=kvs.map (fun p=>cE p.1)→RepAll K G (kvs.map (·.2)) (D.map (·.2))→Rep K G (.ref a) (.dict D)
inductive RepAll (K:PySem.W.Frag) (G:Hp):List V→List PyData→Prop
 | nil:RepAll K G [] []
 | cons {v:V} {vs:List V} {d:PyData} {ds:List PyData}:Rep K G v d→RepAll K G vs ds→RepAll K G (v::vs) (d::ds)
end
theorem nA {H H':Hp} {a:Addr} {u:HO} (e:aS H H') (h:Rd H a u):Rd H' a u:=h.imp (e _ _) fun ⟨o,h⟩=>⟨o,e _ _ h⟩
theorem iC {K:PySem.W.Frag} {H H':Hp} {a:Addr} {xs:List V} (e:aS H H') (h:SqT K H a xs):SqT K H' a xs:=by
 rcases h with (h | ⟨o,h⟩) | h
 ·exact .inl (.inl (e _ _ h))
 ·exact .inl (.inr ⟨o,e _ _ h⟩)
 ·exact .inr h
section
variable {K:PySem.W.Frag} {G G':Hp}
mutual
theorem Rep.mono (s:aS G G'):∀ {v:V} {d:PyData},Rep K G v d→Rep K G' v d
 | _,_,.none=>.none
 | _,_,.bool b=>.bool b
 | _,_,.int i=>.int i
 | _,_,.str x=>.str x
 | _,_,.list h r=>.list (s.seq h) (RepAll.mono s r)
 | _,_,.tuple h r=>.tuple (iC s h) (RepAll.mono s r)
 | _,_,.dict h e r=>.dict (nA s h) e (RepAll.mono s r)
theorem RepAll.mono (s:aS G G'):∀ {vs:List V} {ds:List PyData},RepAll K G vs ds→RepAll K G' vs ds
 | _,_,.nil=>.nil
 | _,_,.cons r t=>.cons (Rep.mono s r) (RepAll.mono s t)
end
theorem RepAll.length:∀ {vs:List V} {ds:List PyData},RepAll K G vs ds→vs.length=ds.length
 | _,_,.nil=>rfl
 | _,_,.cons _ t=>by simp [RepAll.length t]
theorem RepAll.get:∀ {vs:List V} {ds:List PyData} {i:Nat} {d:PyData},RepAll K G vs ds→ds[i]?=some d→∃ v,vs[i]?=some v∧Rep K G v d
 | _,_,_,_,.nil,e=>by simp at e
 | _,_,0,_,.cons r _,e=>by simp at e;subst e;exact ⟨_,rfl,r⟩
 | _,_,i+1,d,.cons _ t,e=>by
  obtain ⟨u,h1,h2⟩:=RepAll.get (i:=i) (d:=d) t (by simpa using e)
  exact ⟨u,by simpa using h1,h2⟩
theorem RepAll.append:∀ {vs ws:List V} {ds es:List PyData},RepAll K G vs ds→RepAll K G ws es→RepAll K G (vs++ws) (ds++es)
 | _,_,_,_,.nil,h=>h
 | _,_,_,_,.cons r t,h=>.cons r (RepAll.append t h)
theorem RepAll.take:∀ {vs:List V} {ds:List PyData} (n:Nat),RepAll K G vs ds→RepAll K G (vs.take n) (ds.take n)
 | _,_,0,_=>.nil
 | _,_,_+1,.nil=>.nil
 | _,_,n+1,.cons r t=>.cons r (RepAll.take n t)
theorem RepAll.drop:∀ {vs:List V} {ds:List PyData} (n:Nat),RepAll K G vs ds→RepAll K G (vs.drop n) (ds.drop n)
 | _,_,0,r=>r
 | _,_,_+1,.nil=>.nil
 | _,_,n+1,.cons _ t=>RepAll.drop n t
theorem RepAll.ints:∀ {vs:List V} {ns:List Int},RepAll K G vs (ns.map .int)→vs=ns.map V.int
 | [],[],_=>rfl
 | _,[],.nil=>rfl
 | _,n::r,.cons (.int _) t=>by rw [RepAll.ints (ns:=r) t];rfl
theorem RepAll.strs:∀ {vs:List V} {ns:List Str},RepAll K G vs (ns.map .str)→vs=ns.map V.str
 | [],[],_=>rfl
 | _,[],.nil=>rfl
 | _,n::r,.cons (.str _) t=>by rw [RepAll.strs (ns:=r) t];rfl
theorem RepAll.bools:∀ {vs:List V} {ns:List Bool},RepAll K G vs (ns.map .bool)→vs=ns.map V.bl
 | [],[],_=>rfl
 | _,[],.nil=>rfl
 | _,n::r,.cons (.bool _) t=>by rw [RepAll.bools (ns:=r) t];rfl
end
section
variable {P:Program} {w:World}
theorem kM:∀ {kvs:List (Key×V)} {vs:List (Key×Value)},KV kvs vs→kvs.map (·.1)=vs.map (·.1)∧aR (kvs.map (·.2)) (vs.map (·.2))
 | _,_,.nil=>⟨rfl,.nil⟩
 | _,_,.cons h t=>by
  obtain ⟨a,b⟩:=kM t
  exact ⟨by rw [List.map_cons,List.map_cons,a,h.1],.cons h.2 b⟩
theorem mH {h:Heap}:∀ {es:List DictEntry} {vs:List (Key×Value)},Pairs (aP P w) es vs→(∃ as,ReadsAll h (es.map (·.key)) (vs.map fun p=>cE p.1) as)∧es.map (·.val)=vs.map (·.2)
 | _,_,.nil=>⟨⟨_,.nil⟩,rfl⟩
 | e::es,kv::vs,.cons hk hv t=>by
  obtain ⟨⟨as,a⟩,b⟩:=mH (h:=h) t
  refine ⟨?_,by rw [List.map_cons,List.map_cons,b,hv]⟩
  rcases aW (show mL kv.1 e.key=true from hk) with ⟨i,t,e1,e2⟩ | ⟨x,t,e1,e2⟩
  ·refine ⟨_,.cons (as:=[]) (by dsimp only;rw [e1,e2];exact .int i t) a⟩
  ·refine ⟨_,.cons (as:=[]) (by dsimp only;rw [e1,e2];exact .str x t) a⟩
end
section
variable {X:Cx} {pins:List (Addr×Obj)} {σ:St} {H:Hp} {s:Shared}
mutual
theorem Rep.reads (I:Inv X pins σ H s):∀ {v:V} {d:PyData} {u:Value},Rep X.K H v d→RelV v u→∃ as,Reads s.heap u d as
 | _,_,_,.none,r=>by cases r;exact ⟨_,.none⟩
 | _,_,_,.bool b,r=>by cases r;exact ⟨_,.bool b⟩
 | _,_,_,.int i,r=>by obtain ⟨t,rfl⟩:=r;exact ⟨_,.int i t⟩
 | _,_,_,.str x,r=>by obtain ⟨t,rfl⟩:=r;exact ⟨_,.str x t⟩
 | _,_,_,.list h q,r=>by
  cases r
  obtain ⟨its,rv,⟨o,n,e,hc,_,hd⟩,_⟩:=I.list h
  obtain ⟨as,z⟩:=RepAll.reads I q rv
  exact ⟨_,.list e hc hd (by simpa using z)⟩
 | _,_,_,.tuple h q,r=>by
  cases r
  obtain ⟨its,rv,⟨o,e,hc,n,hd⟩,_⟩:=I.tuple h
  obtain ⟨as,z⟩:=RepAll.reads I q rv
  exact ⟨_,.tuple e hc hd (by simpa using z)⟩
 | _,_,_,.dict h e0 q,r=>by
  cases r
  obtain ⟨hz,hS,vs,kv,o,es,ep,e,hex,hd,_,hp,_⟩:=h.ok I.hok
  obtain ⟨a1,a2⟩:=kM kv
  obtain ⟨⟨as,b1⟩,b2⟩:=mH (h:=s.heap) hp
  obtain ⟨bs,z⟩:=RepAll.reads I q a2
  refine ⟨_,.dict e hex.1 hd (as:=as) (bs:=bs) ?_ (by rw [b2];exact z)⟩
  rw [e0,show (fun p:Key×V=>cE p.1)=cE∘(·.1) from rfl,←List.map_map,a1,List.map_map];exact b1
theorem RepAll.reads (I:Inv X pins σ H s):∀ {vs:List V} {ds:List PyData} {us:List Value},RepAll X.K H vs ds→aR vs us→∃ as,ReadsAll s.heap us ds as
 | _,_,_,.nil,.nil=>⟨_,.nil⟩
 | _,_,_,.cons r t,.cons q w=>by
  obtain ⟨as,a⟩:=Rep.reads I r q
  obtain ⟨bs,b⟩:=RepAll.reads I t w
  exact ⟨_,.cons a b⟩
end
end
noncomputable def cN:List Str:=["in_ending_order", "in_laying_order", "_law_did", "by_heads", "best_choice"]
noncomputable def lamQ (x:Str):Str:=x ++ ".<locals>." ++ "<lambda>"
noncomputable def cdO (c:Addr) (q:Str):HO:=.ext fun h=>h.CodeRec (.ref c) q
noncomputable def Tab (P:Addr) (q:Str) (H:Hp):Prop:=
 ∃ ps,H P=some (.tbl (q,ps))∧TriplesOk ps.toList∧∀ pos cv,codeAmong pos ps.toList=some cv→∃ c,cv=.ref c∧H c=some (cdO c q)
noncomputable def NoT (G:Hp):Prop:=∀ b ps,G b≠some (.tbl ps)
noncomputable def fI (K:PySem.W.Frag) (G H:Hp):Prop:=(∀ x∈cN,∀ c P,PySem.W.tabIn K x=some (c,P)→Tab P (lamQ x) H)∧NoT G
theorem NoT.upd {G:Hp} {a:Addr} {o:HO} (n:NoT G) (h:∀ ps,o≠.tbl ps):NoT (L2.upd G a o):=fun b ps e=>by
 by_cases hb:b=a
 ·subst hb;rw [aF] at e;cases e;exact h _ rfl
 ·rw [aD hb] at e;exact n b ps e
theorem Tab.same {P:Addr} {q:Str} {H H':Hp} (t:Tab P q H) (s:aS H H'):Tab P q H':=by
 obtain ⟨ps,h1,h2,h3⟩:=t
 refine ⟨ps,s _ _ h1,h2,fun pos cv e=>?_⟩
 obtain ⟨c,e1,e2⟩:=h3 pos cv e
 exact ⟨c,e1,s _ _ e2⟩
theorem Tab.wr {P a:Addr} {q:Str} {H:Hp} {xs:List V} {o:HO} (t:Tab P q H) (h:H a=some (.lst xs)):Tab P q (upd H a o):=by
 obtain ⟨ps,h1,h2,h3⟩:=t
 refine ⟨ps,by rw [aD (cZ h1 h (by nofun))];exact h1,h2,fun pos cv e=>?_⟩
 obtain ⟨c,e1,e2⟩:=h3 pos cv e
 exact ⟨c,e1,by rw [aD (cZ e2 h (by unfold cdO;nofun))];exact e2⟩
structure Sm (H H':Hp):Prop where
 keep:∀ b o,H b=some o→(∀ ps,o≠.tbl ps)→H' b=some o
 tbl:∀ b ps,H b=some (.tbl ps)→∃ ps',H' b=some (.tbl ps')
 tab:∀ P q,Tab P q H→Tab P q H'
theorem Sm.of {H H':Hp} (s:aS H H'):Sm H H':=⟨fun b o h _=>s b o h,fun b ps h=>⟨ps,s _ _ h⟩,fun P q t=>t.same s⟩
theorem Sm.refl (H:Hp):Sm H H:=.of (.refl _)
theorem Sm.trans {H H1 H2:Hp} (a:Sm H H1) (b:Sm H1 H2):Sm H H2:=⟨fun c o h n=>b.keep c o (a.keep c o h n) n,fun c ps h=>by
 obtain ⟨p1,h1⟩:=a.tbl c ps h
 exact b.tbl c p1 h1,fun P q t=>b.tab P q (a.tab P q t)⟩
theorem Sm.ne {H H':Hp} (s:Sm H H') {b:Addr} {o:HO} (h:H b=some o):∃ o',H' b=some o':=by
 cases o with
 | tbl ps=>obtain ⟨p,e⟩:=s.tbl b ps h;exact ⟨_,e⟩
 | _=>exact ⟨_,s.keep b _ h (by nofun)⟩
theorem Sm.free {H H':Hp} (s:Sm H H') {l:Addr} (h:H' l=none):H l=none:=by
 cases q:H l with
 | none=>rfl
 | some o=>
  obtain ⟨o',e⟩:=s.ne q
  rw [h] at e;cases e
theorem Sm.lst {H H':Hp} (s:Sm H H') {l:Addr} {xs:List V} (h:H l=some (.lst xs)):H' l=some (.lst xs):=s.keep l _ h (by nofun)
theorem Sm.wr {H H':Hp} (s:Sm H H') {l:Addr} {xs:List V} {o:HO} (h0:H l=none) (h:H' l=some (.lst xs)):Sm H (upd H' l o):=
 ⟨fun b u e n=>by rw [aD (aM e h0)];exact s.keep b u e n,fun b ps e=>by rw [aD (aM e h0)];exact s.tbl b ps e,fun P q t=>(s.tab P q t).wr h⟩
theorem fI.wr {K:PySem.W.Frag} {G H:Hp} {a:Addr} {xs:List V} {o:HO} (t:fI K G H) (h:H a=some (.lst xs)):fI K G (upd H a o):=⟨fun x hx c P e=>(t.1 x hx c P e).wr h,t.2⟩
structure Grow (G H G' H':Hp):Prop where
 gg:aS G G'
 hh:Sm H H'
 sub:aS G' H'
 new:∀ a,G a=none→H a≠none→G' a=none
 nt:NoT G→NoT G'
theorem fI.more {K:PySem.W.Frag} {G H G' H':Hp} (t:fI K G H) (g:Grow G H G' H'):fI K G' H':=⟨fun x hx c P e=>g.hh.tab _ _ (t.1 x hx c P e),g.nt t.2⟩
theorem Grow.refl {G H:Hp} (s:aS G H):Grow G H G H:=⟨.refl _,.refl _,s,fun _ e _=>e,id⟩
theorem Grow.trans {G H G1 H1 G2 H2:Hp} (a:Grow G H G1 H1) (b:Grow G1 H1 G2 H2):Grow G H G2 H2:=
 ⟨a.gg.trans b.gg,a.hh.trans b.hh,b.sub,fun c e n=>b.new c (a.new c e n) (fun z=>by
  cases q:H c with
  | none=>exact n q
  | some o=>obtain ⟨o',e'⟩:=a.hh.ne q;rw [e'] at z;cases z),fun n=>b.nt (a.nt n)⟩
theorem aY {H:Hp} {p:Addr} {o:HO} (h:H p=none):aS H (upd H p o):=fun b u e=>by rw [aD (aM e h)];exact e
theorem a0s {G H:Hp} {p:Addr} {o:HO} (s:aS G H):aS (upd G p o) (upd H p o):=fun b u e=>by
 by_cases hb:b=p
 ·subst hb;rw [aF] at e ⊢;exact e
 ·rw [aD hb] at e ⊢;exact s b u e
theorem Grow.put {G H:Hp} {p:Addr} {o:HO} (s:aS G H) (h:H p=none) (ho:∀ ps,o≠.tbl ps:=by nofun):Grow G H (upd G p o) (upd H p o):=
 ⟨aY (s.free h),.of (aY h),a0s s,fun a e n=>by rw [aD (fun z=>n (by rw [z];exact h))];exact e,fun n=>n.upd ho⟩
theorem Grow.side {G H:Hp} {p:Addr} {o:HO} (s:aS G H) (h:H p=none):Grow G H G (upd H p o):=
 ⟨.refl _,.of (aY h),s.trans (aY h),fun a e _=>e,id⟩
inductive Ent where
 | no
 | val (d:PyData)
 | lst (ds:List PyData)
 | exc (c:Str)
 | nst (dss:List (List PyData))
 | dct (kvs:List (Key×PyData))
noncomputable def xcO (a C:Addr):HO:=.ext fun h=>∃ ox,ExO h a C ox
noncomputable def InOk (K:PySem.W.Frag) (H0 G H:Hp) (b:Addr) (ds:List PyData):Prop:=∃ xs,H b=some (.lst xs)∧G b=none∧H0 b=none∧RepAll K G xs ds
noncomputable def eB (K:PySem.W.Frag) (G:Hp) (vs:List (Key×V)) (kvs:List (Key×PyData)):Prop:=vs.map (·.1)=kvs.map (·.1)∧RepAll K G (vs.map (·.2)) (kvs.map (·.2))
theorem eB.mono {K:PySem.W.Frag} {G G':Hp} {vs:List (Key×V)} {kvs:List (Key×PyData)} (h:eB K G vs kvs) (s:aS G G'):eB K G' vs kvs:=⟨h.1,h.2.mono s⟩
noncomputable def wF (K:PySem.W.Frag) (H0 G H:Hp) (o:Option V):Ent→Prop
 | .no=>True
 | .val d=>∃ v,o=some v∧Rep K G v d
 | .lst ds=>∃ a xs,o=some (.ref a)∧H a=some (.lst xs)∧G a=none∧H0 a=none∧RepAll K G xs ds
 | .exc c=>∃ a C,o=some (.ref a)∧eP K c=some C∧H a=some (xcO a C)
 | .nst dss=>∃ a bs,o=some (.ref a)∧H a=some (.lst (bs.map V.ref))∧G a=none∧H0 a=none∧a∉bs∧bs.Nodup∧Paired (InOk K H0 G H) bs dss
 | .dct kvs=>∃ a vs,o=some (.ref a)∧H a=some (.dK vs)∧G a=none∧H0 a=none∧eB K G vs kvs
noncomputable def zH:Ent→Bool
 | .lst _=>true
 | .nst _=>true
 | .dct _=>true
 | _=>false
structure Inj (H:Hp) (σ:St) (ρ:List Ent):Prop where
 two:∀ (i j:Nat) (a:Addr) (ds es:List PyData),i≠j→σ[i]?=some (some (.ref a))→ρ[i]?=some (.lst ds)→σ[j]?=some (some (.ref a))→ρ[j]?=some (.lst es)→False
 mix:∀ (i j:Nat) (a a':Addr) (ds:List PyData) (dss:List (List PyData)),σ[i]?=some (some (.ref a))→ρ[i]?=some (.lst ds)→σ[j]?=some (some (.ref a'))→ρ[j]?=some (.nst dss)→a≠a'∧∀ vs,H a'=some (.lst vs)→V.ref a∉vs
 one:∀ (i j:Nat) (dss ess:List (List PyData)),ρ[i]?=some (.nst dss)→ρ[j]?=some (.nst ess)→i=j
 oneD:∀ (i j:Nat) (ks ls:List (Key×PyData)),ρ[i]?=some (.dct ks)→ρ[j]?=some (.dct ls)→i=j
theorem Inj.sub {H:Hp} {σ σ':St} {ρ ρ':List Ent} (I:Inj H σ ρ) (h:∀ (i:Nat) (e:Ent),ρ'[i]?=some e→zH e=true→ρ[i]?=some e∧σ'[i]?=σ[i]?):Inj H σ' ρ':=by
 refine ⟨fun i j a ds es n h1 h2 h3 h4=>?_,fun i j a a' ds dss h1 h2 h3 h4=>?_,fun i j dss ess h1 h2=>?_,fun i j ks ls h1 h2=>I.oneD i j ks ls (h i _ h1 rfl).1 (h j _ h2 rfl).1⟩
 ·obtain ⟨x1,x2⟩:=h i _ h2 rfl
  obtain ⟨y1,y2⟩:=h j _ h4 rfl
  rw [x2] at h1;rw [y2] at h3
  exact I.two i j a ds es n h1 x1 h3 y1
 ·obtain ⟨x1,x2⟩:=h i _ h2 rfl
  obtain ⟨y1,y2⟩:=h j _ h4 rfl
  rw [x2] at h1;rw [y2] at h3
  exact I.mix i j a a' ds dss h1 x1 h3 y1
 ·exact I.one i j dss ess (h i _ h1 rfl).1 (h j _ h2 rfl).1
theorem Inj.other {H H':Hp} {σ:St} {ρ:List Ent} (I:Inj H σ ρ) (h:∀ (j:Nat) (a':Addr) (dss:List (List PyData)),σ[j]?=some (some (.ref a'))→ρ[j]?=some (.nst dss)→∀ vs,H' a'=some (.lst vs)→H a'=some (.lst vs)):Inj H' σ ρ:=
 ⟨I.two,fun i j a a' ds dss h1 h2 h3 h4=>⟨(I.mix i j a a' ds dss h1 h2 h3 h4).1,fun vs e=>(I.mix i j a a' ds dss h1 h2 h3 h4).2 vs (h j a' dss h3 h4 vs e)⟩,I.one,I.oneD⟩
theorem Inj.free {H:Hp} {σ:St} {ρ:List Ent} (h:∀ (i:Nat) (e:Ent),ρ[i]?=some e→zH e=false):Inj H σ ρ:=
 ⟨fun i j a ds es n h1 h2 h3 h4=>Bool.noConfusion (h i _ h2),fun i j a a' ds dss h1 h2 h3 h4=>Bool.noConfusion (h i _ h2),fun i j dss ess h1 h2=>Bool.noConfusion (h i _ h1),fun i j ks ls h1 h2=>Bool.noConfusion (h i _ h1)⟩
theorem eW {α β:Type} {F F':α→β→Prop}:∀ {l:List α} {m:List β},Paired F l m→(∀ a b,a∈l→F a b→F' a b)→Paired F' l m
 | _,_,.nil,_=>.nil
 | _,_,.cons r t,h=>.cons (h _ _ List.mem_cons_self r) (eW t fun a b ha=>h a b (List.mem_cons_of_mem _ ha))
theorem qN {α β:Type} {F:α→β→Prop} {a:α}:∀ {l:List α} {m:List β},Paired F l m→a∈l→∃ b,F a b
 | _,_,.cons r t,h=>by
  rcases List.mem_cons.mp h with rfl | h
  ·exact ⟨_,r⟩
  ·exact qN t h
structure RepS (K:PySem.W.Frag) (H0 G₀ G H:Hp) (σ:St) (ρ:List Ent):Prop where
 grow:Grow G₀ H0 G H
 len:σ.length=ρ.length
 ent:∀ (i:Nat) (o:Option V) (e:Ent),σ[i]?=some o→ρ[i]?=some e→wF K H0 G H o e
 inj:Inj H σ ρ
 tab:fI K G H
theorem wF.more {K:PySem.W.Frag} {H0 G H G' H':Hp} {o:Option V} {e:Ent} (g:Grow G H G' H') (h:wF K H0 G H o e):wF K H0 G' H' o e:=by
 cases e with
 | no=>trivial
 | val d=>obtain ⟨v,e,r⟩:=h;exact ⟨v,e,r.mono g.gg⟩
 | lst ds=>
  obtain ⟨a,xs,e,h1,h2,h3,r⟩:=h
  exact ⟨a,xs,e,g.hh.lst h1,g.new a h2 (by rw [h1];simp),h3,r.mono g.gg⟩
 | exc c=>obtain ⟨a,C,e,h1,h2⟩:=h;exact ⟨a,C,e,h1,g.hh.keep a _ h2 (by unfold xcO;nofun)⟩
 | nst dss=>
  obtain ⟨a,bs,e,h1,h2,h3,h4,h5,r⟩:=h
  exact ⟨a,bs,e,g.hh.lst h1,g.new a h2 (by rw [h1];simp),h3,h4,h5,Paired.mapP r fun b ds ⟨xs,x1,x2,x3,x4⟩=>⟨xs,g.hh.lst x1,g.new b x2 (by rw [x1];simp),x3,x4.mono g.gg⟩⟩
 | dct kvs=>
  obtain ⟨a,vs,e,h1,h2,h3,r⟩:=h
  exact ⟨a,vs,e,g.hh.keep a _ h1 (by nofun),g.new a h2 (by rw [h1];simp),h3,r.mono g.gg⟩
section
variable {K:PySem.W.Frag} {H0 G₀ G H G' H':Hp} {σ:St} {ρ:List Ent}
theorem RepS.more (R:RepS K H0 G₀ G H σ ρ) (g:Grow G H G' H'):RepS K H0 G₀ G' H' σ ρ:=
 ⟨R.grow.trans g,R.len,fun i o e h1 h2=>(R.ent i o e h1 h2).more g,R.inj.other (fun j a' dss h1 h2 vs e=>by
  obtain ⟨a,bs,e1,e2,_⟩:=R.ent j _ _ h1 h2
  cases e1
  rw [g.hh.lst e2] at e
  cases e
  exact e2),R.tab.more g⟩
theorem RepS.sub (R:RepS K H0 G₀ G H σ ρ):aS G H:=R.grow.sub
theorem RepS.at {i:Nat} {e:Ent} (R:RepS K H0 G₀ G H σ ρ) (h:ρ[i]?=some e):∃ o,σ[i]?=some o∧wF K H0 G H o e:=by
 have hi:i<σ.length:=by rw [R.len];exact (List.getElem?_eq_some_iff.mp h).1
 exact ⟨σ[i],by simp [hi],R.ent i _ e (by simp [hi]) h⟩
theorem RepS.val {i:Nat} {d:PyData} (R:RepS K H0 G₀ G H σ ρ) (h:ρ[i]?=some (.val d)):∃ v,σ[i]?=some (some v)∧Rep K G v d:=by
 obtain ⟨o,e,v,rfl,r⟩:=R.at h
 exact ⟨v,e,r⟩
theorem RepS.own {i:Nat} {ds:List PyData} (R:RepS K H0 G₀ G H σ ρ) (h:ρ[i]?=some (.lst ds)):∃ a xs,σ[i]?=some (some (.ref a))∧H a=some (.lst xs)∧G a=none∧H0 a=none∧RepAll K G xs ds:=by
 obtain ⟨o,e,a,xs,rfl,r⟩:=R.at h
 exact ⟨a,xs,e,r⟩
theorem aH {α:Type} {l:List α} {i j:Nat} {x y:α} (h:(l.set i x)[j]?=some y):(j=i∧y=x∧i<l.length)∨(j≠i∧l[j]?=some y):=by
 by_cases e:j=i
 ·subst e
  have hl:j<l.length:=by
   have:=(List.getElem?_eq_some_iff.mp h).1
   simpa using this
  rw [List.getElem?_set_self hl] at h
  exact .inl ⟨rfl,(Option.some.inj h).symm,hl⟩
 ·rw [List.getElem?_set_ne (Ne.symm e)] at h
  exact .inr ⟨e,h⟩
theorem RepS.set {i:Nat} {v:V} {d:PyData} (R:RepS K H0 G₀ G H σ ρ) (r:Rep K G v d):RepS K H0 G₀ G H (σ.set i (some v)) (ρ.set i (.val d)):=by
 refine ⟨R.grow,by simp [R.len],fun j o e h1 h2=>?_,R.inj.sub fun j e h1 h2=>?_,R.tab⟩
 ·rcases aH h1 with ⟨rfl,rfl,_⟩ | ⟨n,h1⟩
  ·rcases aH h2 with ⟨_,rfl,_⟩ | ⟨n,_⟩
   ·exact ⟨v,rfl,r⟩
   ·exact absurd rfl n
  ·rcases aH h2 with ⟨z,_⟩ | ⟨_,h2⟩
   ·exact absurd z n
   ·exact R.ent j o e h1 h2
 ·rcases aH h1 with ⟨_,rfl,_⟩ | ⟨n,h1⟩
  ·cases h2
  ·exact ⟨h1,List.getElem?_set_ne (Ne.symm n)⟩
theorem RepS.freeze {i:Nat} {ds:List PyData} (R:RepS K H0 G₀ G H σ ρ) (h:ρ[i]?=some (.lst ds)):∃ G',aS G G'∧RepS K H0 G₀ G' H σ (ρ.set i (.val (.list ds))):=by
 obtain ⟨a,xs,e,h1,h2,h3,r⟩:=R.own h
 have gg:aS G (upd G a (.lst xs)):=aY h2
 refine ⟨upd G a (.lst xs),gg,⟨⟨R.grow.gg.trans gg,R.grow.hh,fun b o q=>?_,fun b q n=>?_,fun n=>(R.grow.nt n).upd (by nofun)⟩,by simp [R.len],fun j o e' q1 q2=>?_,R.inj.sub fun j e h1 h2=>?_,R.tab.1,R.tab.2.upd (by nofun)⟩⟩
 ·by_cases hb:b=a
  ·subst hb;rw [aF] at q;cases q;exact h1
  ·rw [aD hb] at q;exact R.sub b o q
 ·have nb:b≠a:=fun z=>n (by rw [z];exact h3)
  rw [aD nb];exact R.grow.new b q n
 ·rcases aH q2 with ⟨rfl,rfl,_⟩ | ⟨nj,q2⟩
  ·rw [e] at q1;cases q1
   exact ⟨.ref a,rfl,.list (.of aF) (r.mono gg)⟩
  ·have E:=R.ent j o e' q1 q2
   cases e' with
   | no=>trivial
   | val d=>obtain ⟨v,z,rv⟩:=E;exact ⟨v,z,rv.mono gg⟩
   | lst es=>
    obtain ⟨b,ys,z,g1,g2,g3,rv⟩:=E
    have nb:b≠a:=fun w=>by
     subst w z
     exact R.inj.two j i b es ds nj q1 q2 e h
    exact ⟨b,ys,z,g1,by rw [aD nb];exact g2,g3,rv.mono gg⟩
   | exc c=>exact E
   | nst dss=>
    obtain ⟨b,bs,z,g1,g2,g3,g4,g5,rv⟩:=E
    subst z
    obtain ⟨m1,m2⟩:=R.inj.mix i j a b ds dss e h q1 q2
    have ni:∀ c∈bs,c≠a:=fun c hc w=>m2 _ g1 (by subst w;exact List.mem_map.mpr ⟨c,hc,rfl⟩)
    exact ⟨b,bs,rfl,g1,by rw [aD (Ne.symm m1)];exact g2,g3,g4,g5,eW rv fun c dd hc ⟨xs',x1,x2,x3,x4⟩=>⟨xs',x1,by rw [aD (ni c hc)];exact x2,x3,x4.mono gg⟩⟩
   | dct kvs=>
    obtain ⟨b,vs,z,g1,g2,g3,rv⟩:=E
    exact ⟨b,vs,z,g1,by rw [aD (cZ g1 h1 (by nofun))];exact g2,g3,rv.mono gg⟩
 ·rcases aH h1 with ⟨_,rfl,_⟩ | ⟨n,h1⟩
  ·cases h2
  ·exact ⟨h1,rfl⟩
theorem RepS.wrote {i:Nat} {a:Addr} {ds ds':List PyData} {xs:List V} (R:RepS K H0 G₀ G H σ ρ) (h:ρ[i]?=some (.lst ds)) (e:σ[i]?=some (some (.ref a))) (r:RepAll K G xs ds'):RepS K H0 G₀ G (upd H a (.lst xs)) σ (ρ.set i (.lst ds')):=by
 obtain ⟨a',xs',e',h1,h2,h3,_⟩:=R.own h
 rw [e] at e';cases e'
 refine ⟨⟨R.grow.gg,R.grow.hh.wr h3 h1,fun b o q=>?_,fun b q n=>R.grow.new b q n,R.grow.nt⟩,by simp [R.len],fun j o e' q1 q2=>?_,⟨fun j k b es fs hjk q1 q2 q3 q4=>?_,fun j k b a' es dss q1 q2 q3 q4=>?_,fun j k dss ess q1 q2=>?_,fun j k ks ls q1 q2=>?_⟩,R.tab.wr h1⟩
 ·rw [aD (aM q h2)];exact R.sub b o q
 ·rcases aH q2 with ⟨rfl,rfl,_⟩ | ⟨nj,q2⟩
  ·rw [e] at q1;cases q1
   exact ⟨a,xs,rfl,aF,h2,h3,r⟩
  ·have E:=R.ent j o e' q1 q2
   cases e' with
   | no=>trivial
   | val d=>exact E
   | lst es=>
    obtain ⟨b,ys,z,g1,g2,g3,rv⟩:=E
    have nb:b≠a:=fun w=>by
     subst w z
     exact R.inj.two j i b es ds nj q1 q2 e h
    exact ⟨b,ys,z,by rw [aD nb];exact g1,g2,g3,rv⟩
   | exc c=>obtain ⟨b,C,z,g1,g2⟩:=E;exact ⟨b,C,z,g1,by rw [aD (cZ g2 h1 (by unfold xcO;nofun))];exact g2⟩
   | nst dss=>
    obtain ⟨b,bs,z,g1,g2,g3,g4,g5,rv⟩:=E
    subst z
    obtain ⟨m1,m2⟩:=R.inj.mix i j a b ds dss e h q1 q2
    have ni:∀ c∈bs,c≠a:=fun c hc w=>m2 _ g1 (by subst w;exact List.mem_map.mpr ⟨c,hc,rfl⟩)
    exact ⟨b,bs,rfl,by rw [aD (Ne.symm m1)];exact g1,g2,g3,g4,g5,eW rv fun c dd hc ⟨xs',x1,x2,x3,x4⟩=>⟨xs',by rw [aD (ni c hc)];exact x1,x2,x3,x4⟩⟩
   | dct kvs=>
    obtain ⟨b,vs,z,g1,g2,g3,rv⟩:=E
    exact ⟨b,vs,z,by rw [aD (cZ g1 h1 (by nofun))];exact g1,g2,g3,rv⟩
 ·rcases aH q2 with ⟨rfl,_,_⟩ | ⟨n2,q2⟩
  ·rcases aH q4 with ⟨z,_,_⟩ | ⟨n4,q4⟩
   ·exact hjk z.symm
   ·exact R.inj.two j k b ds fs hjk q1 h q3 q4
  ·rcases aH q4 with ⟨z,_,_⟩ | ⟨n4,q4⟩
   ·subst z;exact R.inj.two j k b es ds hjk q1 ‹ρ[j]?=some (Ent.lst es)› q3 h
   ·exact R.inj.two j k b es fs hjk q1 ‹ρ[j]?=some (Ent.lst es)› q3 q4
 ·rcases aH q4 with ⟨_,z,_⟩ | ⟨_,q4⟩
  ·cases z
  ·have old:∃ fs,ρ[j]?=some (.lst fs):=by
    rcases aH q2 with ⟨rfl,_,_⟩ | ⟨_,q2⟩
    ·exact ⟨_,h⟩
    ·exact ⟨_,q2⟩
   obtain ⟨fs,q2⟩:=old
   obtain ⟨m1,m2⟩:=R.inj.mix j k b a' fs dss q1 q2 q3 q4
   have m3:=(R.inj.mix i k a a' ds dss e h q3 q4).1
   exact ⟨m1,fun vs z=>m2 vs (by rw [aD (Ne.symm m3)] at z;exact z)⟩
 ·rcases aH q1 with ⟨_,z,_⟩ | ⟨_,q1⟩
  ·cases z
  ·rcases aH q2 with ⟨_,z,_⟩ | ⟨_,q2⟩
   ·cases z
   ·exact R.inj.one j k dss ess q1 q2
 ·rcases aH q1 with ⟨_,z,_⟩ | ⟨_,q1⟩
  ·cases z
  ·rcases aH q2 with ⟨_,z,_⟩ | ⟨_,q2⟩
   ·cases z
   ·exact R.inj.oneD j k ks ls q1 q2
theorem RepS.fresh {i:Nat} {p:Addr} {ds:List PyData} {xs:List V} (R:RepS K H0 G₀ G H σ ρ) (h:H p=none) (r:RepAll K G xs ds):RepS K H0 G₀ G (upd H p (.lst xs)) (σ.set i (some (.ref p))) (ρ.set i (.lst ds)):=by
 have R':=R.more (Grow.side (o:=.lst xs) R.sub h)
 refine ⟨R'.grow,by simp [R.len],fun j o e h1 h2=>?_,⟨fun j k a es fs hjk h1 h2 h3 h4=>?_,fun j k b a' es dss q1 q2 q3 q4=>?_,fun j k dss ess q1 q2=>?_,fun j k ks ls q1 q2=>?_⟩,R'.tab⟩
 ·rcases aH h1 with ⟨rfl,rfl,_⟩ | ⟨n,h1⟩
  ·rcases aH h2 with ⟨_,rfl,_⟩ | ⟨n,_⟩
   ·exact ⟨p,xs,rfl,aF,R.sub.free h,R.grow.hh.free h,r⟩
   ·exact absurd rfl n
  ·rcases aH h2 with ⟨z,_⟩ | ⟨_,h2⟩
   ·exact absurd z n
   ·exact R'.ent j o e h1 h2
 ·have old:∀ j es,j≠i→σ[j]?=some (some (.ref p))→ρ[j]?=some (.lst es)→False:=fun j es _ q1 q2=>by
   obtain ⟨b,ys,e,g1,_⟩:=R.own q2
   rw [q1] at e;cases e
   rw [h] at g1;cases g1
  rcases aH h2 with ⟨rfl,_,_⟩ | ⟨n2,h2⟩
  ·rcases aH h1 with ⟨_,z,_⟩ | ⟨n,_⟩
   ·cases z
    rcases aH h4 with ⟨z,_,_⟩ | ⟨n4,h4⟩
    ·exact hjk z.symm
    ·rw [List.getElem?_set_ne (Ne.symm n4)] at h3
     exact old k fs n4 h3 h4
   ·exact absurd rfl n
  ·rw [List.getElem?_set_ne (Ne.symm n2)] at h1
   rcases aH h4 with ⟨zk,_,_⟩ | ⟨n4,h4⟩
   ·subst zk
    rcases aH h3 with ⟨_,z,_⟩ | ⟨n,_⟩
    ·cases z;exact old j es n2 h1 ‹ρ[j]?=some (Ent.lst es)›
    ·exact absurd rfl n
   ·rw [List.getElem?_set_ne (Ne.symm n4)] at h3
    exact R.inj.two j k a es fs hjk h1 h2 h3 h4
 ·rcases aH q4 with ⟨_,z,_⟩ | ⟨n4,q4⟩
  ·cases z
  ·rw [List.getElem?_set_ne (Ne.symm n4)] at q3
   obtain ⟨a1,bs,z,g1,g2,g3,g4,g5,rv⟩:=R.ent k _ _ q3 q4
   have z':a'=a1:=by cases z;rfl
   subst z'
   have pa:a'≠p:=aM g1 h
   have pb:V.ref p∉bs.map V.ref:=fun z=>by
    obtain ⟨c,hc,e⟩:=List.mem_map.mp z
    cases e
    obtain ⟨dd,⟨xs',x1,_⟩⟩:=qN rv hc
    rw [h] at x1;cases x1
   rcases aH q2 with ⟨rfl,_,_⟩ | ⟨n2,q2⟩
   ·rcases aH q1 with ⟨_,z,_⟩ | ⟨n,_⟩
    ·cases z
     exact ⟨Ne.symm pa,fun vs e=>by rw [aD pa,g1] at e;cases e;exact pb⟩
    ·exact absurd rfl n
   ·rw [List.getElem?_set_ne (Ne.symm n2)] at q1
    obtain ⟨m1,m2⟩:=R.inj.mix j k b a' es dss q1 q2 q3 q4
    exact ⟨m1,fun vs e=>m2 vs (by rw [aD pa] at e;exact e)⟩
 ·rcases aH q1 with ⟨_,z,_⟩ | ⟨_,q1⟩
  ·cases z
  ·rcases aH q2 with ⟨_,z,_⟩ | ⟨_,q2⟩
   ·cases z
   ·exact R.inj.one j k dss ess q1 q2
 ·rcases aH q1 with ⟨_,z,_⟩ | ⟨_,q1⟩
  ·cases z
  ·rcases aH q2 with ⟨_,z,_⟩ | ⟨_,q2⟩
   ·cases z
   ·exact R.inj.oneD j k ks ls q1 q2
theorem RepS.ownD {i:Nat} {kvs:List (Key×PyData)} (R:RepS K H0 G₀ G H σ ρ) (h:ρ[i]?=some (.dct kvs)):∃ a vs,σ[i]?=some (some (.ref a))∧H a=some (.dK vs)∧G a=none∧H0 a=none∧eB K G vs kvs:=by
 obtain ⟨o,e,a,vs,rfl,r⟩:=R.at h
 exact ⟨a,vs,e,r⟩
theorem Tab.wrD {P a:Addr} {q:Str} {H:Hp} {vs:List (Key×V)} {o:HO} (t:Tab P q H) (h:H a=some (.dK vs)):Tab P q (upd H a o):=by
 obtain ⟨ps,h1,h2,h3⟩:=t
 refine ⟨ps,by rw [aD (cZ h1 h (by nofun))];exact h1,h2,fun pos cv e=>?_⟩
 obtain ⟨c,e1,e2⟩:=h3 pos cv e
 exact ⟨c,e1,by rw [aD (cZ e2 h (by unfold cdO;nofun))];exact e2⟩
theorem Sm.wrD {H H':Hp} (s:Sm H H') {l:Addr} {vs:List (Key×V)} {o:HO} (h0:H l=none) (h:H' l=some (.dK vs)):Sm H (upd H' l o):=
 ⟨fun b u e n=>by rw [aD (aM e h0)];exact s.keep b u e n,fun b ps e=>by rw [aD (aM e h0)];exact s.tbl b ps e,fun P q t=>(s.tab P q t).wrD h⟩
theorem fI.wrD {K:PySem.W.Frag} {G H:Hp} {a:Addr} {vs:List (Key×V)} {o:HO} (t:fI K G H) (h:H a=some (.dK vs)):fI K G (upd H a o):=⟨fun x hx c P e=>(t.1 x hx c P e).wrD h,t.2⟩
theorem RepS.freezeD {i:Nat} {kvs:List (Key×PyData)} (R:RepS K H0 G₀ G H σ ρ) (h:ρ[i]?=some (.dct kvs)):∃ G',aS G G'∧RepS K H0 G₀ G' H σ (ρ.set i (.val (.dict (kvs.map fun p=>(cE p.1,p.2))))):=by
 obtain ⟨a,vs,e,h1,h2,h3,r⟩:=R.ownD h
 have gg:aS G (upd G a (.dK vs)):=aY h2
 refine ⟨upd G a (.dK vs),gg,⟨⟨R.grow.gg.trans gg,R.grow.hh,fun b o q=>?_,fun b q n=>?_,fun n=>(R.grow.nt n).upd (by nofun)⟩,by simp [R.len],fun j o e' q1 q2=>?_,R.inj.sub fun j e h1 h2=>?_,R.tab.1,R.tab.2.upd (by nofun)⟩⟩
 ·by_cases hb:b=a
  ·subst hb;rw [aF] at q;cases q;exact h1
  ·rw [aD hb] at q;exact R.sub b o q
 ·have nb:b≠a:=fun z=>n (by rw [z];exact h3)
  rw [aD nb];exact R.grow.new b q n
 ·rcases aH q2 with ⟨rfl,rfl,_⟩ | ⟨nj,q2⟩
  ·rw [e] at q1;cases q1
   refine ⟨.ref a,rfl,.dict (kvs:=vs) (.inl aF) ?_ ?_⟩
   ·rw [List.map_map]
    have:=congrArg (List.map cE) r.1
    rw [List.map_map,List.map_map] at this
    exact this.symm
   ·rw [List.map_map];exact r.2.mono gg
  ·have E:=R.ent j o e' q1 q2
   cases e' with
   | no=>trivial
   | val d=>obtain ⟨v,z,rv⟩:=E;exact ⟨v,z,rv.mono gg⟩
   | lst es=>
    obtain ⟨b,ys,z,g1,g2,g3,rv⟩:=E
    exact ⟨b,ys,z,g1,by rw [aD (cZ g1 h1 (by nofun))];exact g2,g3,rv.mono gg⟩
   | exc c=>exact E
   | nst dss=>
    obtain ⟨b,bs,z,g1,g2,g3,g4,g5,rv⟩:=E
    exact ⟨b,bs,z,g1,by rw [aD (cZ g1 h1 (by nofun))];exact g2,g3,g4,g5,eW rv fun c dd hc ⟨xs',x1,x2,x3,x4⟩=>⟨xs',x1,by rw [aD (cZ x1 h1 (by nofun))];exact x2,x3,x4.mono gg⟩⟩
   | dct ks=>exact absurd (R.inj.oneD j i ks kvs q2 h) nj
 ·rcases aH h1 with ⟨_,rfl,_⟩ | ⟨n,h1⟩
  ·cases h2
  ·exact ⟨h1,rfl⟩
theorem RepS.wroteD {i:Nat} {a:Addr} {kvs kvs':List (Key×PyData)} {vs:List (Key×V)} (R:RepS K H0 G₀ G H σ ρ) (h:ρ[i]?=some (.dct kvs)) (e:σ[i]?=some (some (.ref a))) (r:eB K G vs kvs'):RepS K H0 G₀ G (upd H a (.dK vs)) σ (ρ.set i (.dct kvs')):=by
 obtain ⟨a',xs',e',h1,h2,h3,_⟩:=R.ownD h
 rw [e] at e';cases e'
 refine ⟨⟨R.grow.gg,R.grow.hh.wrD h3 h1,fun b o q=>?_,fun b q n=>R.grow.new b q n,R.grow.nt⟩,by simp [R.len],fun j o e' q1 q2=>?_,⟨fun j k b es fs hjk q1 q2 q3 q4=>?_,fun j k b a' es dss q1 q2 q3 q4=>?_,fun j k dss ess q1 q2=>?_,fun j k ks ls q1 q2=>?_⟩,R.tab.wrD h1⟩
 ·rw [aD (aM q h2)];exact R.sub b o q
 ·rcases aH q2 with ⟨rfl,rfl,_⟩ | ⟨nj,q2⟩
  ·rw [e] at q1;cases q1
   exact ⟨a,vs,rfl,aF,h2,h3,r⟩
  ·have E:=R.ent j o e' q1 q2
   cases e' with
   | no=>trivial
   | val d=>exact E
   | lst es=>
    obtain ⟨b,ys,z,g1,g2,g3,rv⟩:=E
    exact ⟨b,ys,z,by rw [aD (cZ g1 h1 (by nofun))];exact g1,g2,g3,rv⟩
   | exc c=>obtain ⟨b,C,z,g1,g2⟩:=E;exact ⟨b,C,z,g1,by rw [aD (cZ g2 h1 (by unfold xcO;nofun))];exact g2⟩
   | nst dss=>
    obtain ⟨b,bs,z,g1,g2,g3,g4,g5,rv⟩:=E
    exact ⟨b,bs,z,by rw [aD (cZ g1 h1 (by nofun))];exact g1,g2,g3,g4,g5,eW rv fun c dd hc ⟨xs',x1,x2,x3,x4⟩=>⟨xs',by rw [aD (cZ x1 h1 (by nofun))];exact x1,x2,x3,x4⟩⟩
   | dct ks=>exact absurd (R.inj.oneD j i ks kvs q2 h) nj
 ·rcases aH q2 with ⟨_,z,_⟩ | ⟨_,q2⟩
  ·cases z
  ·rcases aH q4 with ⟨_,z,_⟩ | ⟨_,q4⟩
   ·cases z
   ·exact R.inj.two j k b es fs hjk q1 q2 q3 q4
 ·rcases aH q2 with ⟨_,z,_⟩ | ⟨_,q2⟩
  ·cases z
  ·rcases aH q4 with ⟨_,z,_⟩ | ⟨_,q4⟩
   ·cases z
   ·obtain ⟨m1,m2⟩:=R.inj.mix j k b a' es dss q1 q2 q3 q4
    refine ⟨m1,fun ws z=>m2 ws ?_⟩
    by_cases n:a'=a
    ·subst n;rw [aF] at z;cases z
    ·rw [aD n] at z;exact z
 ·rcases aH q1 with ⟨_,z,_⟩ | ⟨_,q1⟩
  ·cases z
  ·rcases aH q2 with ⟨_,z,_⟩ | ⟨_,q2⟩
   ·cases z
   ·exact R.inj.one j k dss ess q1 q2
 ·have old:∀ (j:Nat) (ks:List (Key×PyData)),(ρ.set i (.dct kvs'))[j]?=some (.dct ks)→∃ ks',ρ[j]?=some (.dct ks'):=fun j ks q=>by
   rcases aH q with ⟨rfl,_,_⟩ | ⟨_,q⟩
   ·exact ⟨_,h⟩
   ·exact ⟨_,q⟩
  obtain ⟨k1,q1⟩:=old j ks q1
  obtain ⟨k2,q2⟩:=old k ls q2
  exact R.inj.oneD j k k1 k2 q1 q2
theorem RepS.freshD {i:Nat} {p:Addr} {kvs:List (Key×PyData)} {vs:List (Key×V)} (R:RepS K H0 G₀ G H σ ρ) (h:H p=none) (hno:∀ (j:Nat) (ks:List (Key×PyData)),ρ[j]?=some (.dct ks)→j=i) (r:eB K G vs kvs):RepS K H0 G₀ G (upd H p (.dK vs)) (σ.set i (some (.ref p))) (ρ.set i (.dct kvs)):=by
 have R':=R.more (Grow.side (o:=.dK vs) R.sub h)
 refine ⟨R'.grow,by simp [R.len],fun j o e h1 h2=>?_,⟨fun j k a es fs hjk h1 h2 h3 h4=>?_,fun j k b a' es dss q1 q2 q3 q4=>?_,fun j k dss ess q1 q2=>?_,fun j k ks ls q1 q2=>?_⟩,R'.tab⟩
 ·rcases aH h1 with ⟨rfl,rfl,_⟩ | ⟨n,h1⟩
  ·rcases aH h2 with ⟨_,rfl,_⟩ | ⟨n,_⟩
   ·exact ⟨p,vs,rfl,aF,R.sub.free h,R.grow.hh.free h,r⟩
   ·exact absurd rfl n
  ·rcases aH h2 with ⟨z,_⟩ | ⟨_,h2⟩
   ·exact absurd z n
   ·exact R'.ent j o e h1 h2
 ·rcases aH h2 with ⟨_,z,_⟩ | ⟨n2,h2⟩
  ·cases z
  ·rcases aH h4 with ⟨_,z,_⟩ | ⟨n4,h4⟩
   ·cases z
   ·rw [List.getElem?_set_ne (Ne.symm n2)] at h1
    rw [List.getElem?_set_ne (Ne.symm n4)] at h3
    exact R'.inj.two j k a es fs hjk h1 h2 h3 h4
 ·rcases aH q2 with ⟨_,z,_⟩ | ⟨n2,q2⟩
  ·cases z
  ·rcases aH q4 with ⟨_,z,_⟩ | ⟨n4,q4⟩
   ·cases z
   ·rw [List.getElem?_set_ne (Ne.symm n2)] at q1
    rw [List.getElem?_set_ne (Ne.symm n4)] at q3
    exact R'.inj.mix j k b a' es dss q1 q2 q3 q4
 ·rcases aH q1 with ⟨_,z,_⟩ | ⟨_,q1⟩
  ·cases z
  ·rcases aH q2 with ⟨_,z,_⟩ | ⟨_,q2⟩
   ·cases z
   ·exact R.inj.one j k dss ess q1 q2
 ·have all:∀ (j:Nat) (ks:List (Key×PyData)),(ρ.set i (.dct kvs))[j]?=some (.dct ks)→j=i:=fun j ks q=>by
   rcases aH q with ⟨z,_,_⟩ | ⟨_,q⟩
   ·exact z
   ·exact hno j ks q
  rw [all j ks q1,all k ls q2]
end
structure PD (X:Cx) (e:Expr) (ρ:List Ent) (d:PyData):Prop where
 run:∀ (H0 G₀ G:Hp) (pins:List (Addr×Obj)) (s:Shared) (σ:St) (H:Hp) (Q:VK),Inv X pins σ H s→RepS X.K H0 G₀ G H σ ρ→(∀ v G' H',Grow G H G' H'→Rep X.K G' v d→Q v H') →
  wpAny (model X.prog X.w) X.A (eval e X.env) (EP X pins σ Q) X.xe s
structure PTD (X:Cx) (e:Expr) (ρ:List Ent) (b:Bool):Prop where
 run:∀ (H0 G₀ G:Hp) (pins:List (Addr×Obj)) (s:Shared) (σ:St) (H:Hp) (Q:Bool→Hp→Prop),Inv X pins σ H s→RepS X.K H0 G₀ G H σ ρ→(∀ G' H',Grow G H G' H'→Q b H') →
  wpAny (model X.prog X.w) X.A (isTrue e X.env (eval e X.env)) (TP X pins σ Q) X.xe s
structure PAD (X:Cx) (es:List Expr) (ρ:List Ent) (ds:List PyData):Prop where
 run:∀ (H0 G₀ G:Hp) (pos:Pos) (pins:List (Addr×Obj)) (s:Shared) (σ:St) (H:Hp) (Q:List V→Hp→Prop),Inv X pins σ H s→RepS X.K H0 G₀ G H σ ρ→(∀ vs G' H',Grow G H G' H'→RepAll X.K G' vs ds→Q vs H') →
  wpAny (model X.prog X.w) X.A (spliced (backTo pos (starEach es X.env))) (AP X pins σ Q) X.xe s
noncomputable def tD (X:Cx) (ρ:List Ent) (d:PyData):TE:=fun σ H Q=>∃ H0 G₀ G,RepS X.K H0 G₀ G H σ ρ∧∀ v G' H',Grow G H G' H'→Rep X.K G' v d→Q v H'
noncomputable def tTD (X:Cx) (ρ:List Ent) (b:Bool):TT:=fun σ H Q=>∃ H0 G₀ G,RepS X.K H0 G₀ G H σ ρ∧∀ G' H',Grow G H G' H'→Q b H'
noncomputable def tAD (X:Cx) (ρ:List Ent) (ds:List PyData):TA:=fun σ H Q=>∃ H0 G₀ G,RepS X.K H0 G₀ G H σ ρ∧∀ vs G' H',Grow G H G' H'→RepAll X.K G' vs ds→Q vs H'
section
variable {X:Cx} {e a b c:Expr} {es:List Expr} {ρ:List Ent} {d da db dc:PyData} {ds:List PyData} {pos p:Pos}
theorem PD.pe (h:PD X e ρ d):PE X e (tD X ρ d):=fun pins s σ H Q I ⟨H0,G₀,G,R,k⟩=>h.run H0 G₀ G pins s σ H Q I R k
theorem PTD.pt {b:Bool} (h:PTD X e ρ b):PT X e (tTD X ρ b):=fun pins s σ H Q I ⟨H0,G₀,G,R,k⟩=>h.run H0 G₀ G pins s σ H Q I R k
theorem PAD.pa (h:PAD X es ρ ds):PA X es (tAD X ρ ds):=fun pos pins s σ H Q I ⟨H0,G₀,G,R,k⟩=>h.run H0 G₀ G pos pins s σ H Q I R k
theorem PD.of {t:TE} (h:PE X e t) (k:∀ H0 G₀ G σ H Q,RepS X.K H0 G₀ G H σ ρ→(∀ v G' H',Grow G H G' H'→Rep X.K G' v d→Q v H')→t σ H Q):PD X e ρ d:=
 ⟨fun H0 G₀ G pins s σ H Q I R q=>h pins s σ H Q I (k H0 G₀ G σ H Q R q)⟩
theorem pd_int {i:Int} {j}:PD X (.Constant (.int i) j pos) ρ (.int i):=.of pe_int fun _ _ _ _ _ _ R q=>q _ _ _ (.refl R.sub) (.int i)
theorem pd_str {x:Str} {j}:PD X (.Constant (.str x) j pos) ρ (.str x):=.of a1T fun _ _ _ _ _ _ R q=>q _ _ _ (.refl R.sub) (.str x)
theorem a4H {x:Bool} {j}:PD X (.Constant (.bool x) j pos) ρ (.bool x):=.of pe_bl fun _ _ _ _ _ _ R q=>q _ _ _ (.refl R.sub) (.bool x)
theorem a4F {j}:PD X (.Constant .none j pos) ρ .none:=.of a1V fun _ _ _ _ _ _ R q=>q _ _ _ (.refl R.sub) .none
theorem pd_var (i:Nat) {x:Str} (h:ρ[i]?=some (.val d)) (hN:X.N[i]?=some x:=by rfl) (hv:Vis X.env.scope x:=by first | exact Or.inl rfl | exact Or.inr (Or.inl rfl) | exact Or.inr (Or.inr rfl)) (hd:(x==("__debug__" : Str))=false:=by decide)
  (hcd:(x==("__classdict__" : Str))=false:=by decide):PD X (.Name x pos) ρ d:=.of (eF hN hv hd hcd) fun H0 G₀ G σ H Q R q=>by
 obtain ⟨v,e,r⟩:=R.val h
 exact ⟨v,e,q v G H (.refl R.sub) r⟩
end
end L2.L3
namespace L2.L3
open PySem PySem.Spec PyProof.Rows
section
variable {X:Cx} {e a b c:Expr} {es:List Expr} {ρ:List Ent} {d da db dc:PyData} {ds:List PyData} {pos p:Pos}
theorem eN:PAD X [] ρ []:=⟨fun H0 G₀ G pos pins s σ H Q I R q=>iZ pos pins s σ H Q I (q [] G H (.refl R.sub) .nil)⟩
theorem dD (ha:PD X e ρ d) (hr:PAD X es ρ ds) (hs:starEach (e::es) X.env=(false,eval e X.env)::starEach es X.env:=by rfl):PAD X (e::es) ρ (d::ds):=by
 refine ⟨?_⟩
 intro H0 G₀ G pos pins s σ H Q I R q
 exact dR ha.pe hr.pa hs pos pins s σ H Q I ⟨H0,G₀,G,R,fun x G1 H1 g1 r1=>⟨H0,G₀,G1,R.more g1,fun xs G2 H2 g2 r2=>q _ G2 H2 (g1.trans g2) (.cons (r1.mono g2.gg) r2)⟩⟩
structure CmpD (X:Cx) (op:CmpOp) (da db:PyData) (t:Bool):Prop where
 ex:∃ r:R2,OpR X (compareOp op) r∧∀ x y G H Q,aS G H→Rep X.K G x da→Rep X.K G y db→Q (V.bl t) H→r x y H Q
theorem cmp_lt {i j:Int}:CmpD X .Lt (.int i) (.int j) (decide (i<j)):=⟨_,op_lt,fun x y G H Q _ rx ry q=>by cases rx;cases ry;exact ⟨_,_,rfl,rfl,q⟩⟩
theorem cmp_le {i j:Int}:CmpD X .LtE (.int i) (.int j) (decide (i≤j)):=⟨_,op_le,fun x y G H Q _ rx ry q=>by cases rx;cases ry;exact ⟨_,_,rfl,rfl,q⟩⟩
theorem cmp_gt {i j:Int}:CmpD X .Gt (.int i) (.int j) (decide (j<i)):=⟨_,op_gt,fun x y G H Q _ rx ry q=>by cases rx;cases ry;exact ⟨_,_,rfl,rfl,q⟩⟩
noncomputable def rEqD (X:Cx) (da db:PyData) (neg:Bool):R2:=fun x y H Q=>Rep X.K H x da∧Rep X.K H y db∧SeqAt.shaped da=true∧SeqAt.shaped db=true∧Q (.bl (if neg then !PyData.eqv da db else PyData.eqv da db)) H
theorem op_eqD (hu:X.A.units+64<cLine) (da db:PyData):OpR X (compareOp .Eq) (rEqD X da db false):=by
 intro pins s σ H x y v u Q I rx ry ⟨r1,r2,h1,h2,q⟩
 obtain ⟨as,w1⟩:=r1.reads I rx
 obtain ⟨bs,w2⟩:=r2.reads I ry
 exact eq_dataH w1 w2 h1 h2 hu ⟨.bl _,H,I,rfl,q⟩
theorem op_neD (hu:X.A.units+64<cLine) (da db:PyData):OpR X (compareOp .NotEq) (rEqD X da db true):=by
 intro pins s σ H x y v u Q I rx ry ⟨r1,r2,h1,h2,q⟩
 obtain ⟨as,w1⟩:=r1.reads I rx
 obtain ⟨bs,w2⟩:=r2.reads I ry
 exact ne_dataH w1 w2 h1 h2 hu ⟨.bl _,H,I,rfl,q⟩
theorem cmp_eq (hu:X.A.units+64<cLine) (h1:SeqAt.shaped da=true) (h2:SeqAt.shaped db=true):CmpD X .Eq da db (PyData.eqv da db):=
 ⟨_,op_eqD hu da db,fun x y G H Q s rx ry q=>⟨rx.mono s,ry.mono s,h1,h2,q⟩⟩
theorem cmp_ne (hu:X.A.units+64<cLine) (h1:SeqAt.shaped da=true) (h2:SeqAt.shaped db=true):CmpD X .NotEq da db (!PyData.eqv da db):=
 ⟨_,op_neD hu da db,fun x y G H Q s rx ry q=>⟨rx.mono s,ry.mono s,h1,h2,q⟩⟩
variable {rest:List Expr}
theorem zY {K:PySem.W.Frag} {G:Hp} {xs:List V} {ds:List PyData} {i:Int} {d:PyData} (r:RepAll K G xs ds) (h:atI ds i=some d):∃ v,atI xs i=some v∧Rep K G v d:=by
 unfold atI at h ⊢
 rw [r.length]
 cases e:ixN ds.length i with
 | none=>rw [e] at h;cases h
 | some j=>
  rw [e] at h
  exact r.get h
noncomputable def spD (K:PySem.W.Frag) (F:List PyData→PyData→Prop):Sp:=fun vs H Q _=>∃ G ds d,(aS G H∧fI K G H)∧RepAll K G vs ds∧F ds d∧∀ v G' H',Grow G H G' H'→Rep K G' v d→Q v H'
end
end L2.L3
namespace L2.L3
open PySem PySem.Spec PyProof.Rows
noncomputable def Walk (K:PySem.W.Frag) (J:It) (G:Hp) (ds:List PyData):Prop:=
 ∀ (i:Nat) (G' H':Hp),aS G G'→aS G' H'→(∀ d,ds[i]?=some d→J.go i H'∧∀ x H2,J.yld i H' x H2→∃ G2,Grow G' H' G2 H2∧Rep K G2 x d)∧(ds.length≤i→J.stop i H')
noncomputable def zZ (K:PySem.W.Frag) (J:It) (G H:Hp) (ds:List PyData):Prop:=
 ∀ (i:Nat) (G' H':Hp),Grow G H G' H'→(∀ d,ds[i]?=some d→J.go i H'∧∀ x H2,J.yld i H' x H2→∃ G2,Grow G' H' G2 H2∧Rep K G2 x d)∧(ds.length≤i→J.stop i H')
theorem Walk.h {K:PySem.W.Frag} {J:It} {G H:Hp} {ds:List PyData} (w:Walk K J G ds):zZ K J G H ds:=fun i G' H' g=>w i G' H' g.gg g.sub
noncomputable def tID (K:PySem.W.Frag) (ρ:List Ent) (ds:List PyData):TI:=fun σ H R=>∃ H0 G₀ G,RepS K H0 G₀ G H σ ρ∧∀ J G' H',Grow G H G' H'→Walk K J G' ds→R J H'
structure PID (X:Cx) (tg iter:Expr) (ρ:List Ent) (ds:List PyData):Prop where
 run:PI X tg iter (tID X.K ρ ds)
theorem a0b {K:PySem.W.Frag} {G:Hp} {a:Addr} {xs:List V} {ds:List PyData} (hq:SqL K G a xs) (r:RepAll K G xs ds):Walk K (Itl K a) G ds:=by
 intro i G' H' s1 s2
 refine ⟨fun d e=>?_,fun hl=>⟨xs,(s1.trans s2).seq hq,by rw [r.length];exact hl⟩⟩
 obtain ⟨v,ev,rv⟩:=r.get e
 refine ⟨⟨xs,v,(s1.trans s2).seq hq,ev⟩,fun x H2 ⟨e2,y⟩=>?_⟩
 subst e2
 have z:=y xs ((s1.trans s2).seq hq)
 rw [ev] at z
 cases z
 exact ⟨G',.refl s2,rv.mono s1⟩
theorem a1l {K:PySem.W.Frag} {G:Hp} {a:Addr} {xs:List V} {ds:List PyData} (hq:SqT K G a xs) (r:RepAll K G xs ds):Walk K (Itt K a) G ds:=by
 intro i G' H' s1 s2
 refine ⟨fun d e=>?_,fun hl=>⟨xs,iC (s1.trans s2) hq,by rw [r.length];exact hl⟩⟩
 obtain ⟨v,ev,rv⟩:=r.get e
 refine ⟨⟨xs,v,iC (s1.trans s2) hq,ev⟩,fun x H2 ⟨e2,y⟩=>?_⟩
 subst e2
 have z:=y xs (iC (s1.trans s2) hq)
 rw [ev] at z
 cases z
 exact ⟨G',.refl s2,rv.mono s1⟩
noncomputable def jY (lo:Int) (n:Nat):List PyData:=(List.range n).map fun (k:Nat)=>.int (lo+(k:Int))
theorem a1m {K:PySem.W.Frag} {G:Hp} (lo:Int) (n:Nat):Walk K (Itr lo n) G (jY lo n):=by
 intro i G' H' s1 s2
 unfold jY
 refine ⟨fun d e=>?_,fun hl=>by rw [List.length_map,List.length_range] at hl;exact hl⟩
 rw [List.getElem?_map] at e
 by_cases hi:i<n
 ·rw [List.getElem?_range hi] at e
  cases e
  refine ⟨hi,fun x H2 ⟨e1,e2⟩=>?_⟩
  subst e1 e2
  exact ⟨G',.refl s2,.int _⟩
 ·rw [List.getElem?_eq_none (by simpa using hi)] at e
  cases e
section
variable {X:Cx} {tg iter a b:Expr} {ρ:List Ent} {ds:List PyData} {p pos:Pos}
theorem PI.imp {wi wi':TI} (h:PI X tg iter wi) (k:∀ σ H R,wi' σ H R→wi σ H R):PI X tg iter wi':=fun pins s σ H R I w=>h pins s σ H R I (k σ H R w)
theorem a1P (h:PD X iter ρ (.list ds)):PID X tg iter ρ ds:=⟨PI.imp (sO h.pe) fun σ H R ⟨H0,G₀,G,S,q⟩=>⟨H0,G₀,G,S,fun v G1 H1 g1 r1=>by
 cases r1 with
 | list hq r=>exact ⟨_,rfl,⟨_,g1.sub.seq hq⟩,q _ _ _ g1 (a0b hq r)⟩⟩⟩
theorem a4x (h:PD X iter ρ (.tuple ds)):PID X tg iter ρ ds:=⟨PI.imp (pi_tup h.pe) fun σ H R ⟨H0,G₀,G,S,q⟩=>⟨H0,G₀,G,S,fun v G1 H1 g1 r1=>by
 cases r1 with
 | tuple hq r=>exact ⟨_,rfl,⟨_,iC g1.sub hq⟩,q _ _ _ g1 (a1l hq r)⟩⟩⟩
theorem wW {n:Int} (hm:X.mg "range" = none) (ha:PD X a ρ (.int n)) (h1:-(2 ^ 62)≤n) (h2:n<2 ^ 62) (hs:starEach [a] X.env=[(false,eval a X.env)]:=by rfl) (hs':starEach [a] X.env=(false,eval a X.env)::starEach [] X.env:=by rfl) (hg:Gl X "range":=by rfl) :
  PID X tg (.Call (.Name "range" p) [a] [] pos) ρ (jY 0 n.toNat):=
 ⟨PI.imp (a0v hg hm (dD ha eN hs').pa hs) fun σ H R ⟨H0,G₀,G,S,q⟩=>⟨H0,G₀,G,S,fun vs G1 H1 g1 r1=>by
  cases r1 with
  | cons r rr=>
   cases rr
   cases r
   exact ⟨n,rfl,h1,h2,q _ _ _ g1 (a1m 0 n.toNat)⟩⟩⟩
end
noncomputable def tGD (K:PySem.W.Frag) (ρ:List Ent) (d:PyData) (ρ':List Ent):TG:=fun v σ H Q=>∃ H0 G₀ G,RepS K H0 G₀ G H σ ρ∧Rep K G v d∧∀ σ',RepS K H0 G₀ G H σ' ρ'→Q σ' H
noncomputable def tGsD (K:PySem.W.Frag) (ρ:List Ent) (ds:List PyData) (ρ':List Ent):TGs:=fun vs σ H Q=>∃ H0 G₀ G,RepS K H0 G₀ G H σ ρ∧RepAll K G vs ds∧∀ σ',RepS K H0 G₀ G H σ' ρ'→Q σ' H
structure PGD (X:Cx) (tg:Expr) (ρ:List Ent) (d:PyData) (ρ':List Ent):Prop where
 run:PG X tg (tGD X.K ρ d ρ')
structure PGsD (X:Cx) (ts:List Expr) (ρ:List Ent) (ds:List PyData) (ρ':List Ent):Prop where
 run:PGs X ts (tGsD X.K ρ ds ρ')
section
variable {X:Cx} {e:Expr} {es:List Expr} {ρ ρ1 ρ2:List Ent} {d:PyData} {ds:List PyData} {pos:Pos}
theorem uO (i:Nat) {x:Str} (hN:X.N.Nodup) (hi:X.N[i]?=some x:=by rfl) (hx:Loc X.env.scope x:=by first | exact Or.inl rfl | exact Or.inr rfl) (hf:X.fn x=true∨X.env.scope.names.lookup x=some .local:=by first | exact .inl rfl | exact .inr rfl) :
  PGD X (.Name x pos) ρ d (ρ.set i (.val d)):=⟨fun pins s σ H v u Q I r ⟨H0,G₀,G,S,rv,q⟩=>a4B hN hi hx hf pins s σ H v u Q I r (q _ (S.set rv))⟩
theorem a1R:PGsD X [] ρ [] ρ:=⟨fun pins s σ H vs us Q I r ⟨H0,G₀,G,S,rv,q⟩=>by
 cases rv
 exact a4z pins s σ H [] us Q I r ⟨rfl,q σ S⟩⟩
theorem a0w (h1:PGD X e ρ d ρ1) (h2:PGsD X es ρ1 ds ρ2) (hs:(assignEach (e::es) X.env).map (·.2)=assign e X.env::(assignEach es X.env).map (·.2):=by rfl):PGsD X (e::es) ρ (d::ds) ρ2:=⟨fun pins s σ H vs us Q I r ⟨H0,G₀,G,S,rv,q⟩=>by
 cases rv with
 | cons r1 r2=>exact a1S h1.run h2.run hs pins s σ H _ us Q I r ⟨_,_,rfl,H0,G₀,G,S,r1,fun σ' S'=>⟨H0,G₀,G,S',r2,q⟩⟩⟩
theorem a4A {k:Nat} (hc:X.calm=true) (h:PGsD X es ρ ds ρ1) (hn:(assignEach es X.env).length=ds.length:=by rfl) (hst:(assignEach es X.env).findIdx? (·.1)=none:=by rfl):PGD X (.Tuple es k pos) ρ (.tuple ds) ρ1:=⟨fun pins s σ H v u Q I r ⟨H0,G₀,G,S,rv,q⟩=>by
 cases rv with
 | tuple hq rr=>exact pg_tup hc h.run hn hst pins s σ H _ u Q I r ⟨_,_,rfl,iC S.sub hq,rr.length,H0,G₀,G,S,rr,q⟩⟩
end
inductive Out where
 | nx (ρ:List Ent)
 | rt (d:PyData)
 | bk (ρ:List Ent)
 | ct (ρ:List Ent)
noncomputable def OutOk (K:PySem.W.Frag) (H0 G₀ G:Hp) (D:Ends):Out→Prop
 | .nx ρ=>∀ G' H' σ',aS G G'→RepS K H0 G₀ G' H' σ' ρ→D.nx σ' H'
 | .rt d=>∀ v G' H',aS G G'→Grow G₀ H0 G' H'→Rep K G' v d→D.rt v H'
 | .bk ρ=>∀ G' H' σ',aS G G'→RepS K H0 G₀ G' H' σ' ρ→D.bk σ' H'
 | .ct ρ=>∀ G' H' σ',aS G G'→RepS K H0 G₀ G' H' σ' ρ→D.ct σ' H'
noncomputable def tSD (K:PySem.W.Frag) (ρ:List Ent) (o:Out):TS:=fun D σ H=>∃ H0 G₀ G,RepS K H0 G₀ G H σ ρ∧OutOk K H0 G₀ G D o
structure PSD (X:Cx) (st:Stmt) (ρ:List Ent) (o:Out):Prop where
 run:PS X st (tSD X.K ρ o)
inductive Weak:List Ent→List Ent→Prop
 | nil:Weak [] []
 | keep {e:Ent} {a b:List Ent}:Weak a b→Weak (e::a) (e::b)
 | no {e:Ent} {a b:List Ent}:Weak a b→Weak (e::a) (.no::b)
theorem Weak.refl:∀ ρ:List Ent,Weak ρ ρ
 | []=>.nil
 | _::r=>.keep (Weak.refl r)
theorem Weak.at:∀ {a b:List Ent} {i:Nat} {e:Ent},Weak a b→b[i]?=some e→e=.no∨a[i]?=some e
 | _,_,_,_,.nil,h=>by simp at h
 | _,_,0,e,.keep _,h=>.inr (by simpa using h)
 | _,_,0,e,.no _,h=>.inl (by simpa using h.symm)
 | _,_,i+1,e,.keep w,h=>by
  rcases Weak.at (i:=i) w (by simpa using h) with z | z
  ·exact .inl z
  ·exact .inr (by simpa using z)
 | _,_,i+1,e,.no w,h=>by
  rcases Weak.at (i:=i) w (by simpa using h) with z | z
  ·exact .inl z
  ·exact .inr (by simpa using z)
theorem Weak.length:∀ {a b:List Ent},Weak a b→a.length=b.length
 | _,_,.nil=>rfl
 | _,_,.keep w=>by simp [Weak.length w]
 | _,_,.no w=>by simp [Weak.length w]
theorem RepS.weak {K:PySem.W.Frag} {H0 G₀ G H:Hp} {σ:St} {ρ ρ':List Ent} (R:RepS K H0 G₀ G H σ ρ) (w:Weak ρ ρ'):RepS K H0 G₀ G H σ ρ':=by
 refine ⟨R.grow,R.len.trans w.length,fun i o e h1 h2=>?_,R.inj.sub fun i e h1 h2=>?_,R.tab⟩
 ·rcases w.at h2 with z | z
  ·subst z;trivial
  ·exact R.ent i o e h1 z
 ·rcases w.at h1 with z | z
  ·subst z;cases h2
  ·exact ⟨z,rfl⟩
section
variable {X:Cx} {st:Stmt} {rest:List Stmt} {ρ ρ1 ρ2:List Ent} {o:Out} {e c:Expr} {d:PyData} {ds:List PyData} {pos:Pos}
theorem PSD.of {t:TS} (h:PS X st t) (k:∀ H0 G₀ G σ H D,RepS X.K H0 G₀ G H σ ρ→OutOk X.K H0 G₀ G D o→t D σ H):PSD X st ρ o:=⟨fun pins s σ H D I ⟨H0,G₀,G,S,q⟩=>h pins s σ H D I (k H0 G₀ G σ H D S q)⟩
end
noncomputable def bK (cap:List (Option Nat)) (ρ:List Ent):List Ent:=cap.map fun o=>match o with
 | some j=>(match ρ[j]? with | some (.val d)=>.val d | _=>.no)
 | none=>.no
theorem rJ (cap:List (Option Nat)) (ρ:List Ent):∀ (i:Nat) (e:Ent),(bK cap ρ)[i]?=some e→zH e=false:=fun i e h=>by
 unfold bK at h
 rw [List.getElem?_map] at h
 cases hc:cap[i]? with
 | none=>rw [hc] at h;cases h
 | some c=>
  rw [hc] at h
  cases c with
  | none=>cases h;rfl
  | some j=>
   have h2:(match ρ[j]? with | some (Ent.val d)=>Ent.val d | _=>Ent.no)=e:=Option.some.inj h
   cases hr:ρ[j]? with
   | none=>rw [hr] at h2;subst h2;rfl
   | some q=>rw [hr] at h2;cases q<;>(subst h2;rfl)
theorem RepS.cap {K:PySem.W.Frag} {H0 G₀ G H:Hp} {σ:St} {ρ:List Ent} (R:RepS K H0 G₀ G H σ ρ) (cap:List (Option Nat)):RepS K H G G H (eL cap σ) (bK cap ρ):=by
 refine ⟨.refl R.sub,by simp [eL,bK],fun i o e h1 h2=>?_,Inj.free (rJ cap ρ),R.tab⟩
 ·unfold eL at h1
  unfold bK at h2
  rw [List.getElem?_map] at h1 h2
  cases hc:cap[i]? with
  | none=>rw [hc] at h1;cases h1
  | some c=>
   rw [hc] at h1 h2
   cases c with
   | none=>cases h2;trivial
   | some j=>
    have h1:(σ[j]?).getD none=o:=Option.some.inj h1
    have h2:(match ρ[j]? with | some (Ent.val d)=>Ent.val d | _=>Ent.no)=e:=Option.some.inj h2
    cases hr:ρ[j]? with
    | none=>rw [hr] at h2;subst h2;trivial
    | some q=>
     rw [hr] at h2
     cases q with
     | no=>subst h2;trivial
     | lst ds=>subst h2;trivial
     | exc c=>subst h2;trivial
     | nst dss=>subst h2;trivial
     | dct kvs=>subst h2;trivial
     | val d=>
      subst h2
      obtain ⟨v,e,r⟩:=R.val hr
      rw [e] at h1
      subst h1
      exact ⟨v,rfl,r⟩
section
variable {X:Cx} {elt iter tg:Expr} {ifs:List Expr} {scope:Scope} {pos spos:Pos} {N':List Str} {cap:List (Option Nat)} {ρ ρb:List Ent} {α:Type} {xs:List α} {φ f:α→PyData} {cnd:α→Bool} {ρx:α→List Ent}
structure PTsD (X:Cx) (ifs:List Expr) (ρ:List Ent) (b:Bool):Prop where
 run:PTs X ifs (tTD X ρ b)
theorem a1L:PTsD X [] ρ true:=⟨fun pins s σ H Q I ⟨H0,G₀,G,R,q⟩=>a4s pins s σ H Q I (q G H (.refl R.sub))⟩
theorem a1K {c:Expr} {t:Bool} (h:PTD X c ρ t):PTsD X [c] ρ t:=⟨a4r h.pt⟩
noncomputable def gU (K:PySem.W.Frag) (xs:List α) (φ:α→PyData) (ρb:List Ent) (ρx:α→List Ent):TG:=fun v σ H Q=>∃ x∈xs,tGD K ρb (φ x) (ρx x) v σ H Q
noncomputable def tU (K:PySem.W.Frag) (xs:List α) (ρx:α→List Ent) (cnd:α→Bool):TT:=fun σ H Q=>∃ x∈xs,∃ H0 G₀ G,RepS K H0 G₀ G H σ (ρx x)∧∀ G' H',Grow G H G' H'→Q (cnd x) H'
noncomputable def eU (K:PySem.W.Frag) (xs:List α) (ρx:α→List Ent) (cnd:α→Bool) (f:α→PyData):TE:=fun σ H Q=>∃ x∈xs,cnd x=true∧∃ H0 G₀ G,RepS K H0 G₀ G H σ (ρx x)∧∀ v G' H',Grow G H G' H'→Rep K G' v (f x)→Q v H'
noncomputable def eUF (K:PySem.W.Frag) (xs:List α) (ρx:α→List Ent) (cnd:α→Bool) (f:α→PyData) (H0 G₀:Hp):TE:=fun σ H Q=>∃ x∈xs,cnd x=true∧∃ G,RepS K H0 G₀ G H σ (ρx x)∧∀ v G' H',Grow G H G' H'→Rep K G' v (f x)→Q v H'
theorem a1u {J:It} {g:TG} {tc:TT} {te te':TE} {σ₀:St} {H:Hp} {Q:VK} (h:∀ σ H Q,te σ H Q→te' σ H Q) (hg:∀ x σ H Q Q',(∀ σ H,Q σ H→Q' σ H)→g x σ H Q→g x σ H Q') (ht:∀ σ H Q Q',(∀ b H,Q b H→Q' b H)→tc σ H Q→tc σ H Q') (t:lD J g tc te σ₀ H Q):lD J g tc te' σ₀ H Q:=by
 obtain ⟨W,hW⟩:=t
 refine ⟨W,fun D hD=>⟨(hW D hD).1,fun i m ys σ1 H1 w h1=>?_⟩⟩
 rcases (hW D hD).2 i m ys σ1 H1 w h1 with z | ⟨go,z⟩
 ·exact .inl z
 ·refine .inr ⟨go,fun x H2 y=>hg _ _ _ _ _ (fun σ3 H3 q3=>ht _ _ _ _ (fun b H4 q4=>?_) q3) (z x H2 y)⟩
  cases b with
  | true=>rw [if_pos rfl] at q4 ⊢;exact h _ _ _ q4
  | false=>rw [if_neg (by decide)] at q4 ⊢;exact q4
theorem tcompF {K:PySem.W.Frag} {J:It} {H0 G₀ G H:Hp} {σ:St} {Q:VK} (R:RepS K H0 G₀ G H σ ρ) (wk:zZ K J G H (xs.map φ)) (hb:Weak (bK cap ρ) ρb) (hw:∀ x∈xs,Weak (ρx x) ρb) (hz:xs.length≤sizeLine)
  (q:∀ D ys G' H',Grow G H G' H'→G' D=some (.lst ys)→H D=none→RepAll K G' ys ((xs.filter cnd).map f)→Q (.ref D) H'):lD J (gU K xs φ ρb ρx) (tU K xs ρx cnd) (eUF K xs ρx cnd f H G) (eL cap σ) H Q:=by
 refine ⟨fun D i m ys σ' H'=>m=xs.length - i∧i≤xs.length∧∃ G',RepS K H G G' H' σ' ρb∧G' D=none∧RepAll K G' ys (((xs.take i).filter cnd).map f),fun D hD=>⟨⟨xs.length,by simp,Nat.zero_le _,G,?_,R.sub.free hD,by simpa using RepAll.nil⟩,?_⟩⟩
 ·exact ((R.cap cap).more (.side R.sub hD)).weak hb
 ·rintro i m ys σ1 H1 ⟨rfl,hi,G1,R1,hG1,ra⟩ hD1
  obtain ⟨wgo,wstop⟩:=wk i G1 H1 R1.grow
  by_cases hlt:i<xs.length
  ·have hx:xs[i]?=some xs[i]:=List.getElem?_eq_getElem hlt
   have hm:xs[i]∈xs:=List.getElem_mem hlt
   obtain ⟨go,yl⟩:=wgo (φ xs[i]) (by rw [List.getElem?_map,hx];rfl)
   have tk:(xs.take (i+1)).filter cnd=(xs.take i).filter cnd++(if cnd xs[i]=true then [xs[i]] else []):=by
    rw [List.take_succ,hx,List.filter_append]
    cases hcx:cnd xs[i]<;>simp [hcx]
   refine .inr ⟨go,fun x H2 y=>?_⟩
   obtain ⟨G2,g2,rx⟩:=yl x H2 y
   refine ⟨xs[i],hm,H,G,G2,R1.more g2,rx,fun σ3 R3=>⟨xs[i],hm,H,G,G2,R3,fun G4 H4 g4=>?_⟩⟩
   have g14:=g2.trans g4
   have hD4:H4 D=some (.lst ys):=g14.hh.lst hD1
   have hG4:G4 D=none:=g14.new D hG1 (by rw [hD1];simp)
   dsimp only
   by_cases hcx:cnd xs[i]=true
   ·rw [if_pos hcx]
    refine ⟨xs[i],hm,hcx,G4,R3.more g4,fun v G5 H5 g5 rv=>?_⟩
    have hD5:H5 D=some (.lst ys):=g5.hh.lst hD4
    have hG5:G5 D=none:=g5.new D hG4 (by rw [hD4];simp)
    have hlen:ys.length<sizeLine:=by
     have h1:=ra.length
     have h2:(((xs.take i).filter cnd).map f).length≤i:=by
      rw [List.length_map]
      exact Nat.le_trans (List.length_filter_le _ _) (by rw [List.length_take];omega)
     omega
    refine ⟨hD5,hlen,xs.length - (i+1),by omega,rfl,hlt,G5,?_,hG5,?_⟩
    ·have R5:RepS K H G G5 H5 σ3 ρb:=((R3.more g4).more g5).weak (hw _ hm)
     -- the list at D has one item more;nothing else speaks of D
     have noOwn:∀ (j:Nat) (e:Ent),ρb[j]?=some e→zH e=false:=fun j e h2=>by
      rcases hb.at h2 with z' | z'
      ·rw [z'];rfl
      ·exact rJ cap ρ j e z'
     have hHD:H D=none:=hD
     refine ⟨⟨R5.grow.gg,R5.grow.hh.wr hHD hD5,fun b o e=>?_,R5.grow.new,R5.grow.nt⟩,R5.len,fun j o e h1 h2=>?_,Inj.free (fun j e h2=>noOwn j e h2),R5.tab.wr hD5⟩
     ·rw [aD (aM e hG5)];exact R5.sub b o e
     ·have E:=R5.ent j o e h1 h2
      cases e with
      | no=>trivial
      | val d=>exact E
      | exc c=>obtain ⟨b,C,z,g1,g2⟩:=E;exact ⟨b,C,z,g1,by rw [aD (cZ g2 hD5 (by unfold xcO;nofun))];exact g2⟩
      | lst es=>have:=noOwn j _ h2;cases this
      | nst dss=>have:=noOwn j _ h2;cases this
      | dct kvs=>have:=noOwn j _ h2;cases this
    ·rw [tk,if_pos hcx,List.map_append]
     exact (ra.mono ((g14.trans g5).gg)).append (.cons rv .nil)
   ·rw [if_neg hcx]
    refine ⟨hD4,xs.length - (i+1),by omega,rfl,hlt,G4,(R3.more g4).weak (hw _ hm),hG4,?_⟩
    rw [tk,if_neg hcx,List.append_nil]
    exact ra.mono g14.gg
  ·refine .inl ⟨wstop (by rw [List.length_map];omega),?_⟩
   have hi':i=xs.length:=by omega
   subst hi'
   rw [List.take_length] at ra
   have sD:aS G1 (upd G1 D (.lst ys)):=aY hG1
   refine q D ys (upd G1 D (.lst ys)) H1 ⟨R1.grow.gg.trans sD,R1.grow.hh,fun b o e=>?_,fun b e n=>?_,fun n=>(R1.grow.nt n).upd (by nofun)⟩ aF hD (ra.mono sD)
   ·by_cases hbD:b=D
    ·subst hbD;rw [aF] at e;cases e;exact hD1
    ·rw [aD hbD] at e;exact R1.sub b o e
   ·rw [aD (fun z=>n (by rw [z];exact hD))]
    exact R1.grow.new b e n
theorem nQ {K:PySem.W.Frag} {J:It} {H0 G₀ G H:Hp} {σ:St} {Q:VK} (R:RepS K H0 G₀ G H σ ρ) (wk:zZ K J G H (xs.map φ)) (hb:Weak (bK cap ρ) ρb) (hw:∀ x∈xs,Weak (ρx x) ρb) (hz:xs.length≤sizeLine)
  (q:∀ D ys G' H',Grow G H G' H'→G' D=some (.lst ys)→H D=none→RepAll K G' ys ((xs.filter cnd).map f)→Q (.ref D) H'):lD J (gU K xs φ ρb ρx) (tU K xs ρx cnd) (eU K xs ρx cnd f) (eL cap σ) H Q:=
 a1u (t:=tcompF R wk hb hw hz q) (fun σ H' Q' ⟨x,hx,hc,G',R',q'⟩=>⟨x,hx,hc,H,G,G',R',q'⟩) (fun v σ H' Q1 Q2 h ⟨x,hx,H1,G1,G2,R2,r2,q2⟩=>⟨x,hx,H1,G1,G2,R2,r2,fun σ3 R3=>h _ _ (q2 σ3 R3)⟩)
  fun σ H' Q1 Q2 h ⟨x,hx,H1,G1,G2,R2,q2⟩=>⟨x,hx,H1,G1,G2,R2,fun G4 H4 g4=>h _ _ (q2 G4 H4 g4)⟩
theorem qB {K:PySem.W.Frag} {J:It} {H0 G₀ G H:Hp} {σ:St} {Q:VK} (R:RepS K H0 G₀ G H σ ρ) (wk:Walk K J G (xs.map φ)) (hb:Weak (bK cap ρ) ρb) (hw:∀ x∈xs,Weak (ρx x) ρb) (hz:xs.length≤sizeLine)
  (q:∀ D ys G' H',Grow G H G' H'→G' D=some (.lst ys)→H D=none→RepAll K G' ys ((xs.filter cnd).map f)→Q (.ref D) H'):lD J (gU K xs φ ρb ρx) (tU K xs ρx cnd) (eU K xs ρx cnd f) (eL cap σ) H Q:=
 nQ R wk.h hb hw hz q
theorem uH {K:PySem.W.Frag} {J:It} {H0 G₀ G H:Hp} {σ:St} {Q:VK} (R:RepS K H0 G₀ G H σ ρ) (wk:Walk K J G (xs.map φ)) (hb:Weak (bK cap ρ) ρb) (hw:∀ x∈xs,Weak (ρx x) ρb) (hz:xs.length≤sizeLine)
  (q:∀ v G' H',Grow G H G' H'→Rep K G' v (.list ((xs.filter cnd).map f))→Q v H'):lD J (gU K xs φ ρb ρx) (tU K xs ρx cnd) (eU K xs ρx cnd f) (eL cap σ) H Q:=
 qB R wk hb hw hz fun D ys G' H' g h _ ra=>q _ G' H' g (.list (.of h) ra)
theorem a4G (hc:X.calm=true) (B:Blk X scope N' cap) (hi:PID X tg iter ρ (xs.map φ)) (hb:Weak (bK cap ρ) ρb) (hw:∀ x∈xs,Weak (ρx x) ρb) (hz:xs.length≤sizeLine)
  (hg:∀ C s₃ H₃ fp x,x∈xs→PGD (aV X scope N' C s₃ H₃ fp) tg ρb (φ x) (ρx x))
  (ht:∀ C s₃ H₃ fp x,x∈xs→PTsD (aV X scope N' C s₃ H₃ fp) ifs (ρx x) (cnd x))
  (he:∀ C s₃ H₃ fp x,x∈xs→cnd x=true→PD (aV X scope N' C s₃ H₃ fp) elt (ρx x) (f x))
  (hs:∀ x,foldedSetIterable iter X.env x=pure x:=by intro _;rfl):PD X (.ListComp elt [⟨tg,iter,ifs,0⟩] scope pos) ρ (.list ((xs.filter cnd).map f)):=
 .of (nB (g:=gU X.K xs φ ρb ρx) (tc:=tU X.K xs ρx cnd) (te:=eU X.K xs ρx cnd f) hc B hi.run (fun C s₃ H₃ fp pins s σ H v u Q I r ⟨x,hx,q⟩=>(hg C s₃ H₃ fp x hx).run pins s σ H v u Q I r q)
  (fun C s₃ H₃ fp pins s σ H Q I ⟨x,hx,q⟩=>(ht C s₃ H₃ fp x hx).run pins s σ H Q I q) (fun C s₃ H₃ fp pins s σ H Q I ⟨x,hx,hcx,H0,G₀,G,R,q⟩=>(he C s₃ H₃ fp x hx hcx).run H0 G₀ G pins s σ H Q I R q) hs)
  fun H0 G₀ G σ H Q R q=>⟨H0,G₀,G,R,fun J G' H' g wk=>uH (R.more g) wk hb hw hz fun v G2 H2 g2 r2=>q v G2 H2 (g.trans g2) r2⟩
theorem a1N (i:Nat) {x:Str} {p:Pos} (hN:X.N.Nodup) (hc:X.calm=true) (B:Blk X scope N' cap) (hi:PID X tg iter ρ (xs.map φ)) (hb:Weak (bK cap ρ) ρb) (hw:∀ x∈xs,Weak (ρx x) ρb) (hz:xs.length≤sizeLine)
  (hg:∀ C s₃ H₃ fp x,x∈xs→PGD (aV X scope N' C s₃ H₃ fp) tg ρb (φ x) (ρx x))
  (ht:∀ C s₃ H₃ fp x,x∈xs→PTsD (aV X scope N' C s₃ H₃ fp) ifs (ρx x) (cnd x))
  (he:∀ C s₃ H₃ fp x,x∈xs→cnd x=true→PD (aV X scope N' C s₃ H₃ fp) elt (ρx x) (f x))
  (hxi:X.N[i]?=some x:=by rfl) (hx:X.env.scope.names.lookup x=some .local:=by rfl)
  (hsw:swapsWith (.ListComp elt [⟨tg,iter,ifs,0⟩] scope pos) (some (.Name x p)) spos.line X.env=pure true:=by rfl)
  (hs:∀ x,foldedSetIterable iter X.env x=pure x:=by intro _;rfl):PSD X (.Assign [.Name x p] (.ListComp elt [⟨tg,iter,ifs,0⟩] scope pos) spos) ρ (.nx (ρ.set i (.val (.list ((xs.filter cnd).map f))))):=
 .of (yS (g:=gU X.K xs φ ρb ρx) (tc:=tU X.K xs ρx cnd) (te:=eU X.K xs ρx cnd f) hN hxi hx hc B hi.run (fun C s₃ H₃ fp pins s σ H v u Q I r ⟨x,hx,q⟩=>(hg C s₃ H₃ fp x hx).run pins s σ H v u Q I r q)
  (fun C s₃ H₃ fp pins s σ H Q I ⟨x,hx,q⟩=>(ht C s₃ H₃ fp x hx).run pins s σ H Q I q) (fun C s₃ H₃ fp pins s σ H Q I ⟨x,hx,hcx,H0,G₀,G,R,q⟩=>(he C s₃ H₃ fp x hx hcx).run H0 G₀ G pins s σ H Q I R q) hsw hs)
  fun H0 G₀ G σ H D R q=>⟨H0,G₀,G,R,fun J G' H' g wk=>uH (R.more g) wk hb hw hz fun v G2 H2 g2 r2=>q G2 H2 _ (g.gg.trans g2.gg) (((R.more g).more g2).set r2)⟩
end
noncomputable def eE (N:List Str) (ds:List PyData):List Ent:=ds.map .val++List.replicate (N.length - ds.length) .no
theorem cY {K:PySem.W.Frag} {G H:Hp} {N:List Str} {vs:List V} {ds:List PyData} (s:aS G H∧fI K G H) (r:RepAll K G vs ds):RepS K H G G H (start N vs) (eE N ds):=by
 have hl:=r.length
 refine ⟨.refl s.1,by simp [start,eE,hl],fun i o e h1 h2=>?_,Inj.free (fun i e h2=>?_),s.2⟩
 ·unfold eE at h2
  unfold start at h1
  by_cases hi:i<ds.length
  ·rw [List.getElem?_append_left (by simpa using hi),List.getElem?_map] at h2
   rw [List.getElem?_append_left (by simp;omega),List.getElem?_map] at h1
   rw [List.getElem?_eq_getElem hi] at h2
   obtain ⟨v,ev,rv⟩:=r.get (List.getElem?_eq_getElem hi)
   rw [ev] at h1
   cases h1;cases h2
   exact ⟨v,rfl,rv⟩
  ·rw [List.getElem?_append_right (by simpa using hi),List.getElem?_replicate] at h2
   split at h2
   ·cases h2;trivial
   ·cases h2
 ·unfold eE at h2
  by_cases hi:i<ds.length
  ·rw [List.getElem?_append_left (by simpa using hi),List.getElem?_map,List.getElem?_eq_getElem hi] at h2
   cases h2;rfl
  ·rw [List.getElem?_append_right (by simpa using hi),List.getElem?_replicate] at h2
   split at h2
   ·cases h2;rfl
   ·cases h2
section
variable {P:Program} {w:World} {K:PySem.W.Frag} {mg:Str→Option Value} {base:Heap}
noncomputable abbrev fcx (P:Program) (w:World) (K:PySem.W.Frag) (mg:Str→Option Value) (base:Heap) (N:List Str) (qual:Str) (scope:Scope) (f:Addr) (cd:Value) (A:Around) (outer:List Env) (s:Shared) (H:Hp) (E:XK):Cx:=(vR CX0 P w K mg base N qual scope f cd A outer s H E).nox
end
end L2.L3
namespace L2.L3
open PySem PySem.Spec PyProof.Rows
section
variable {prog:Program} {w:World} {A:Around} {E:Value→Shared→Prop} {s:Shared} {l:Addr} {us:List Value} {ns:List Int} {Q:Value→Shared→Prop}
theorem oU (hi:IntsAre us ns):∃ xs:Array (Int×Tok),us.toArray=intItems xs∧ns=xs.toList.map (·.1):=by
 obtain ⟨xs,e⟩:=hi.allInts.items
 exact ⟨xs,e,by rw [←hi.numsOf,←nums_intItems,←e]⟩
theorem a4W (hh:A.handled=none) (hl:s.heap.IsList l us.toArray) (hi:IntsAre us ns) (hne:ns≠[])
  (h:∀ h' M t tk,(∀ b o,s.heap.get? b=some o→h'.get? b=some o)→M∈ns→(∀ a,a∈ns→a≤M)→Q (.int M t) { s with heap:=h',toks:=tk }) :
  wpAny (model prog w) A (call (.builtin "max") [.ref l]) Q E s:=by
 obtain ⟨xs,e,hns⟩:=oU hi
 have hpos:0<xs.size:=by
  cases hx:ns with
  | nil=>exact absurd hx hne
  | cons a r=>
   have:ns.length=xs.size:=by rw [hns];simp
   rw [←this,hx];simp
 rw [e] at hl
 refine max_intList hh hl hpos fun v h' tk hv kp=>?_
 obtain ⟨t,rfl⟩:=intItems_at hv
 have best:=argBest_gt (numAt xs) (xs.size - 1)
 refine h h' _ t tk kp ?_ fun a ha=>?_
 ·rw [hns,numAt_eq]
  exact getD_mem (by rw [List.length_map,Array.length_toList];have:=best.1;omega)
 ·rw [hns] at ha
  obtain ⟨j,hj,rfl⟩:=mem_getD ha
  rw [List.length_map,Array.length_toList] at hj
  rw [←numAt_eq]
  exact best.2 j (by omega)
theorem a4Y (hh:A.handled=none) (hl:s.heap.IsList l us.toArray) (hi:IntsAre us ns) (hne:ns≠[])
  (h:∀ h' M t tk,(∀ b o,s.heap.get? b=some o→h'.get? b=some o)→M∈ns→(∀ a,a∈ns→M≤a)→Q (.int M t) { s with heap:=h',toks:=tk }) :
  wpAny (model prog w) A (call (.builtin "min") [.ref l]) Q E s:=by
 obtain ⟨xs,e,hns⟩:=oU hi
 have hpos:0<xs.size:=by
  cases hx:ns with
  | nil=>exact absurd hx hne
  | cons a r=>
   have:ns.length=xs.size:=by rw [hns];simp
   rw [←this,hx];simp
 rw [e] at hl
 refine min_intList hh hl hpos fun v h' tk hv kp=>?_
 obtain ⟨t,rfl⟩:=intItems_at hv
 have best:=argBest_lt (numAt xs) (xs.size - 1)
 refine h h' _ t tk kp ?_ fun a ha=>?_
 ·rw [hns,numAt_eq]
  exact getD_mem (by rw [List.length_map,Array.length_toList];have:=best.1;omega)
 ·rw [hns] at ha
  obtain ⟨j,hj,rfl⟩:=mem_getD ha
  rw [List.length_map,Array.length_toList] at hj
  rw [←numAt_eq]
  exact best.2 j (by omega)
theorem a4g (hh:A.handled=none) (hl:s.heap.IsList l us.toArray) (hi:IntsAre us ns)
  (h:∀ h' t tk,(∀ b o,s.heap.get? b=some o→h'.get? b=some o)→Q (.int ns.sum t) { s with heap:=h',toks:=tk }) :
  wpAny (model prog w) A (call (.builtin "sum") [.ref l]) Q E s:=by
 obtain ⟨xs,e,hns⟩:=oU hi
 rw [e] at hl
 refine sum_intListG hh hl fun h' tk t' kp=>?_
 have z:=h h' t' tk kp
 rw [hns] at z
 rw [preSum_eq,List.take_of_length_le (by simp)]
 exact z
end
section
variable {X:Cx}
theorem a0Z (hc:X.calm=true):dP X (.builtin "max") (fun xs H Q=>∃ p ns,xs=[.ref p]∧SqL X.K H p (ns.map V.int)∧ns≠[]∧∀ M,M∈ns→(∀ a,a∈ns→a≤M)→Q (.int M) H):=by
 intro pins s σ H xs us Q I r ⟨p,ns,e,hq,hne,q⟩
 subst e
 obtain ⟨u,rfl,rx⟩:=vals1 r
 cases rx
 obtain ⟨its,rv,pl,hz⟩:=I.list hq
 exact a4W (I.ok.hd hc) pl.isList (intsAre_of rv) hne fun h' M t tk kp m1 m2=>⟨.int M,H,I.kept kp,⟨t,rfl⟩,q M m1 m2⟩
theorem a0X (hc:X.calm=true):dP X (.builtin "min") (fun xs H Q=>∃ p ns,xs=[.ref p]∧SqL X.K H p (ns.map V.int)∧ns≠[]∧∀ M,M∈ns→(∀ a,a∈ns→M≤a)→Q (.int M) H):=by
 intro pins s σ H xs us Q I r ⟨p,ns,e,hq,hne,q⟩
 subst e
 obtain ⟨u,rfl,rx⟩:=vals1 r
 cases rx
 obtain ⟨its,rv,pl,hz⟩:=I.list hq
 exact a4Y (I.ok.hd hc) pl.isList (intsAre_of rv) hne fun h' M t tk kp m1 m2=>⟨.int M,H,I.kept kp,⟨t,rfl⟩,q M m1 m2⟩
theorem a0W (hc:X.calm=true):dP X (.builtin "sum") (fun xs H Q=>∃ (p:Addr) (ns:List Int),xs=[.ref p]∧SqL X.K H p (ns.map V.int)∧Q (.int ns.sum) H):=by
 intro pins s σ H xs us Q I r ⟨p,ns,e,hq,q⟩
 subst e
 obtain ⟨u,rfl,rx⟩:=vals1 r
 cases rx
 obtain ⟨its,rv,pl,hz⟩:=I.list hq
 exact a4g (I.ok.hd hc) pl.isList (intsAre_of rv) fun h' t tk kp=>⟨.int ns.sum,H,I.kept kp,⟨t,rfl⟩,q⟩
variable {e a b c:Expr} {es:List Expr} {ρ:List Ent} {d:PyData} {ds:List PyData} {pos p:Pos}
noncomputable def maxI:List Int→Int
 | []=>0
 | a::r=>r.foldl max a
noncomputable def minI:List Int→Int
 | []=>0
 | a::r=>r.foldl min a
theorem kR:∀ (r:List Int) (a:Int),a≤r.foldl max a∧∀ b∈r,b≤r.foldl max a
 | [],a=>⟨Int.le_refl _,fun _ h=>by cases h⟩
 | x::r,a=>by
  have ih:=kR r (max a x)
  rw [List.foldl_cons]
  refine ⟨by have:=ih.1;omega,fun b hb=>?_⟩
  rcases List.mem_cons.mp hb with rfl | hb
  ·have:=ih.1;omega
  ·exact ih.2 b hb
theorem jT:∀ (r:List Int) (a:Int),r.foldl max a=a∨r.foldl max a∈r
 | [],a=>.inl rfl
 | x::r,a=>by
  rw [List.foldl_cons]
  rcases jT r (max a x) with h | h
  ·by_cases hx:a≤x
   ·right;rw [h];simp [Int.max_def,hx]
   ·left;rw [h];simp [Int.max_def,hx]
  ·exact .inr (List.mem_cons_of_mem _ h)
theorem a5e {ns:List Int} {M:Int} (h1:M∈ns) (h2:∀ a,a∈ns→a≤M):M=maxI ns:=by
 cases ns with
 | nil=>cases h1
 | cons a r=>
  show M=r.foldl max a
  have g:=kR r a
  have m:=jT r a
  apply Int.le_antisymm
  ·rcases List.mem_cons.mp h1 with rfl | h1
   ·exact g.1
   ·exact g.2 M h1
  ·rcases m with m | m
   ·rw [m];exact h2 a List.mem_cons_self
   ·exact h2 _ (List.mem_cons_of_mem _ m)
theorem kQ:∀ (r:List Int) (a:Int),r.foldl min a≤a∧∀ b∈r,r.foldl min a≤b
 | [],a=>⟨Int.le_refl _,fun _ h=>by cases h⟩
 | x::r,a=>by
  have ih:=kQ r (min a x)
  rw [List.foldl_cons]
  refine ⟨by have:=ih.1;omega,fun b hb=>?_⟩
  rcases List.mem_cons.mp hb with rfl | hb
  ·have:=ih.1;omega
  ·exact ih.2 b hb
theorem jS:∀ (r:List Int) (a:Int),r.foldl min a=a∨r.foldl min a∈r
 | [],a=>.inl rfl
 | x::r,a=>by
  rw [List.foldl_cons]
  rcases jS r (min a x) with h | h
  ·by_cases hx:a≤x
   ·left;rw [h];simp [Int.min_def,hx]
   ·right;rw [h];simp [Int.min_def,hx]
  ·exact .inr (List.mem_cons_of_mem _ h)
theorem a5a {ns:List Int} {M:Int} (h1:M∈ns) (h2:∀ a,a∈ns→M≤a):M=minI ns:=by
 cases ns with
 | nil=>cases h1
 | cons a r=>
  show M=r.foldl min a
  have g:=kQ r a
  have m:=jS r a
  apply Int.le_antisymm
  ·rcases m with m | m
   ·rw [m];exact h2 a List.mem_cons_self
   ·exact h2 _ (List.mem_cons_of_mem _ m)
  ·rcases List.mem_cons.mp h1 with rfl | h1
   ·exact g.1
   ·exact g.2 M h1
noncomputable def rCatS (K:PySem.W.Frag):R2:=fun x y H Q=>∃ l b xs zs,x=.ref l∧y=.ref b∧SqL K H l xs∧SqL K H b zs∧xs.length+zs.length≤sizeLine∧∀ p,H p=none→Q (.ref p) (upd H p (.lst (xs++zs)))
end
end L2.L3
namespace L2.L3
open PySem PySem.Spec PyProof.Rows
noncomputable def blkOk (so:Scope) (NN:List Str) (scope:Scope) (N':List Str) (cap:List (Option Nat)):Bool:=
 decide (scope.kind=.function)&&scope.names.all (fun y=>decide (y.2=.cell→scope.names.lookup y.1=some .cell))&&scope.names.all (fun y=>decide (y.2=.local→scope.names.lookup y.1=some .local))
  && scope.names.all (fun y=>decide (y.2=.free→so.names.lookup y.1=some .cell))
  && (List.range cap.length).all (fun i=>match cap[i]? with
   | some (some j)=>(match N'[i]?,NN[j]? with | some x,some y=>decide (x=y∧scope.names.lookup x=some .free) | _,_=>false)
   | _=>true)
  && decide (cap.length=N'.length)&&decide N'.Nodup
theorem eI {X:Cx} {scope so:Scope} {N' NN:List Str} {cap:List (Option Nat)} (hs:X.env.scope=so) (hN:X.N=NN) (h:blkOk so NN scope N' cap=true):Blk X scope N' cap:=by
 unfold blkOk at h
 simp only [Bool.and_eq_true,decide_eq_true_eq,List.all_eq_true] at h
 obtain ⟨⟨⟨⟨⟨⟨h1,h2⟩,h3⟩,h4⟩,h5⟩,h6⟩,h7⟩:=h
 refine ⟨h1,h2,h3,fun y hy hk=>?_,fun i j hij=>?_,h6,h7⟩
 ·show X.env.scope.names.lookup y.1=some .cell
  rw [hs]
  exact h4 y hy hk
 ·have hi:i<cap.length:=(List.getElem?_eq_some_iff.mp hij).1
  have q:=h5 i (List.mem_range.mpr hi)
  rw [hij] at q
  dsimp only at q
  cases e1:N'[i]? with
  | none=>rw [e1] at q;cases q
  | some x=>
   rw [e1] at q
   cases e2:NN[j]? with
   | none=>rw [e2] at q;cases q
   | some y=>
    rw [e2] at q
    have q':x=y∧scope.names.lookup x=some .free:=of_decide_eq_true q
    exact ⟨x,rfl,by rw [hN,e2,q'.1],q'.2⟩
section
variable {X:Cx} {e a b c:Expr} {es:List Expr} {ρ:List Ent} {d da db dc:PyData} {ds:List PyData} {pos p:Pos}
end
noncomputable abbrev Mt:=Str×Int×Int
noncomputable abbrev dM (m:Mt):PyData:=.tuple [.str m.1,.int m.2.1,.int m.2.2]
noncomputable abbrev dS (s:List Mt):PyData:=.tuple (s.map dM)
end L2.L3
namespace L2.L3
open PySem PySem.Spec PyProof.Rows
section
variable {prog:Program} {w:World} {A:Around} {R:Result→Shared→Prop} {I S:Addr} {fp wr:List Addr} {n:Nat} {P:Nat→Value→Prop} {St:Nat→Heap→Prop} {kw:List (Str×Value)}
noncomputable abbrev iL (its:Array Value) (c:Nat):Obj:={ cls:=.type "list", dict:=none,data:=.seq its c,slots:=#[] }
end
end L2.L3
namespace L2.L3
open PySem PySem.Spec PyProof.Rows
section
variable {prog:Program} {w:World} {A:Around} {E:Value→Shared→Prop} {s:Shared} {l:Addr} {us:List Value} {ns:List Int} {Q:Value→Shared→Prop}
end
end L2.L3
namespace L2.L3
open PySem PySem.Spec PyProof.Rows
section
variable {X:Cx} {a b:Expr} {ρ:List Ent} {db:PyData} {pos p kp:Pos}
end
end L2.L3
namespace L2.L3
open PySem PySem.Spec PyProof.Rows
section
variable {X:Cx}
theorem a4M:OpR X (binaryOp .Add) (rCatS X.K):=by
 intro pins s σ H x y v u Q I rx ry ⟨l,b,xs,zs,e1,e2,h1,h2,hz,q⟩
 subst e1 e2
 cases rx
 cases ry
 obtain ⟨its,r1,p1,_⟩:=I.list h1
 obtain ⟨its2,r2,p2,_⟩:=I.list h2
 obtain ⟨⟨c1,d1,t1,sl1⟩,n1,g1,k1,_,m1⟩:=p1
 obtain ⟨⟨c2,d2,t2,sl2⟩,n2,g2,k2,_,m2⟩:=p2
 dsimp only at k1 m1 k2 m2
 subst k1 m1 k2 m2
 have hz':its.toArray.size+its2.toArray.size≤sizeLine:=by rw [List.size_toArray,List.size_toArray,←r1.length,←r2.length];exact hz
 refine concat_meets ⟨_,g1,rfl⟩ ⟨_,g2,rfl⟩ noFill_list_add seq_list_add F.slot_list_add F.entry_list_add (F.args_list_add_2 _ _) (list_addW l b _ _ n1 n2 d1 d2 sl1 sl2 hz') ⟨g1,g2,?_⟩
 have ea:its.toArray++its2.toArray=(its++its2).toArray:=by simp
 rw [ea]
 exact ⟨.ref _,_,I.lnew (t':=s.toks) (r1.append r2) (by rw [List.length_append];exact hz),rfl,q _ I.fresh⟩
noncomputable def rCatU (K:PySem.W.Frag):R2:=fun x y H Q=>∃ l b xs zs,x=.ref l∧y=.ref b∧SqT K H l xs∧SqT K H b zs∧xs.length+zs.length≤sizeLine ∧
 (xs=[]→Q (.ref b) H)∧(xs≠[]→zs=[]→Q (.ref l) H)∧(xs≠[]→zs≠[]→∀ p,H p=none→Q (.ref p) (upd H p (.tup (xs++zs))))
theorem a4K:OpR X (binaryOp .Add) (rCatU X.K):=by
 intro pins s σ H x y v u Q I rx ry ⟨l,b,xs,zs,e1,e2,h1,h2,hz,q0,q1,q2⟩
 by_cases hx:xs=[]
 ·subst e1 e2
  cases rx
  cases ry
  obtain ⟨its,r1,p1,_⟩:=I.tuple h1
  obtain ⟨its2,r2,p2,_⟩:=I.tuple h2
  obtain ⟨⟨c1,d1,t1,sl1⟩,g1,k1,n1,m1⟩:=p1
  obtain ⟨⟨c2,d2,t2,sl2⟩,g2,k2,n2,m2⟩:=p2
  dsimp only at k1 m1 k2 m2
  subst k1 m1 k2 m2
  have hi:its=[]:=by
   subst hx
   cases r1
   rfl
  refine concat_meets ⟨_,g1,rfl⟩ ⟨_,g2,rfl⟩ noFill_tuple_add seq_tuple_add F.slot_tuple_add F.entry_tuple_add (F.args_tuple_add_2 _ _) (tuple_addW0 l b _ _ n1 n2 d1 d2 sl1 sl2 (by rw [hi];rfl)) ⟨g1,g2,?_⟩
  exact ⟨.ref b,H,I,rfl,q0 hx⟩
 ·exact a4L pins s σ H x y v u Q I rx ry ⟨l,b,xs,zs,e1,e2,h1,h2,hx,hz,q1 hx,q2 hx⟩
variable {e a b c o:Expr} {es:List Expr} {ρ:List Ent} {d da db dc:PyData} {ds:List PyData} {pos p:Pos}
theorem a1Y {T id:String} {name:Str} {r:V→List V→Hp→VK→Prop} {apos cpos:Pos} (pa:PlainAttrs T) (slot:Slot T name id) (hty:typeOf (.builtin id)=pure (.type "method_descriptor")) (hm:MtR X id r)
  (ho:PD X o ρ da) (ha:PAD X (e::es) ρ ds) (ht:∀ x G H,aS G H→Rep X.K G x da→tyV X.K T x H)
  (k:∀ x vs G H Q,aS G H→Rep X.K G x da→RepAll X.K G vs ds→(∀ v G' H',Grow G H G' H'→Rep X.K G' v d→Q v H')→r x vs H Q)
  (hbase:attributeBase o name X.env (eval o X.env)=eval o X.env:=by rfl)
  (hfew:((backTo cpos (starEach (e::es) X.env)).all (fun x=>!x.1)&&(backToKw cpos (keywordEach [] X.env)).all (fun x=>x.1.isSome)
   && decide ((e::es).length+([]:List Keyword).length+(if ([]:List Keyword).isEmpty then 0 else 1)<30))=true:=by rfl)
  (hline:(apos.endLine==cpos.line)=true:=by rfl) (hs:starEach (e::es) X.env=(false,eval e X.env)::starEach es X.env:=by rfl) (hplain:(backTo cpos (starEach es X.env)).any (·.1)=false:=by rfl) :
  PD X (.Call (.Attribute o name apos) (e::es) [] cpos) ρ d:=
 .of (a1X pa slot hty hm ho.pe ha.pa hbase hfew hline hs hplain) fun H0 G₀ G σ H Q R q=>⟨H0,G₀,G,R,fun x G1 H1 g1 r1=>⟨ht x G1 H1 g1.sub r1,H0,G₀,G1,R.more g1,fun vs G2 H2 g2 r2=>
  k x vs G2 H2 Q g2.sub (r1.mono g2.gg) r2 fun v G3 H3 g3 r3=>q v G3 H3 (g1.trans (g2.trans g3)) r3⟩⟩
theorem a5K {i j:Int}:CmpD X .Eq (.int i) (.int j) (decide (i=j)):=⟨_,a2c,fun x y G H Q _ rx ry q=>by cases rx;cases ry;exact ⟨rfl,by simpa using q⟩⟩
theorem a5G {i j:Int}:CmpD X .NotEq (.int i) (.int j) (!decide (i=j)):=⟨_,a2b,fun x y G H Q _ rx ry q=>by cases rx;cases ry;exact ⟨rfl,by simpa using q⟩⟩
theorem a5J {i j:Str}:CmpD X .Eq (.str i) (.str j) (decide (i=j)):=⟨_,a2c,fun x y G H Q _ rx ry q=>by cases rx;cases ry;exact ⟨rfl,by simpa using q⟩⟩
theorem a5F {i j:Str}:CmpD X .NotEq (.str i) (.str j) (!decide (i=j)):=⟨_,a2b,fun x y G H Q _ rx ry q=>by cases rx;cases ry;exact ⟨rfl,by simpa using q⟩⟩
theorem a5L {i j:Bool}:CmpD X .Eq (.bool i) (.bool j) (decide (i=j)):=⟨_,a2c,fun x y G H Q _ rx ry q=>by cases rx;cases ry;exact ⟨rfl,by simpa using q⟩⟩
theorem a5H {i j:Bool}:CmpD X .NotEq (.bool i) (.bool j) (!decide (i=j)):=⟨_,a2b,fun x y G H Q _ rx ry q=>by cases rx;cases ry;exact ⟨rfl,by simpa using q⟩⟩
end
end L2.L3
namespace L2.L3
open PySem PySem.Spec PyProof.Rows
structure Callee (P:Program) (w:World) (K:PySem.W.Frag) (mg:Str→Option Value) (base:Heap) (x:Str) (k:Nat) (ps:List Str) (Fn:List PyData→PyData→Prop):Prop where
 ex:∃ f fd,mg x=some (.ref f)∧PySem.W.keepIn K (.ref f)=true∧Binds K fd ps []∧FnOk P w K mg base CX0 k f fd ps (spD K Fn)
structure Def (K:PySem.W.Frag) (mg:Str→Option Value) (x:Str) (st:Stmt):Prop where
 ex:∃ f fd,Fun K x x st f fd∧mg x=some (.ref f)
theorem def_mk {K:PySem.W.Frag} {h:Heap} {mg:Str→Option Value} {x:Str} {st:Stmt} {f:Addr} {oc:Value} {od an:Option Addr} {sl:Array (Option Value)} {kV doc pm cdv ct:Value} (X:K.In h) (G:h.Ns mainGlobals mg)
  (a:PySem.W.nsIn K mainGlobals x=some (some (.ref f))) (l:K.lookup f=some ⟨oc,od,.func (PySem.W.fnOf x x (cR st) (bG st) (aE st) .none kV doc pm an cdv ct),sl⟩) (c:PySem.W.codeIn K cdv x=true) (k:PySem.W.keepIn K (.ref f)=true) :
  Def K mg x st:=⟨f,_,a2Z l c k,PySem.W.mg_of X G a⟩
section
variable {P:Program} {w:World} {K:PySem.W.Frag} {mg:Str→Option Value} {base:Heap} {X:Cx} {e:Expr} {es:List Expr} {ρ:List Ent} {d:PyData} {ds:List PyData} {pos p:Pos} {x:Str} {k:Nat} {ps N:List Str} {Fn:List PyData→PyData→Prop}
end
theorem vL (a b:List PyData):PyData.eqv (.list a) (.list b)=PyData.eqvAll a b:=by rw [PyData.eqv]
theorem a0O (a b:List PyData):PyData.eqv (.tuple a) (.tuple b)=PyData.eqvAll a b:=by rw [PyData.eqv]
theorem iK {ds:List PyData} (h:∀ d∈ds,PyData.canLay0 d=true):PyData.canLayAll0 ds=true:=by
 induction ds with
 | nil=>rfl
 | cons d r ih=>
  rw [PyData.canLayAll0,h d List.mem_cons_self,ih fun e he=>h e (List.mem_cons_of_mem _ he)]
  rfl
theorem fV {ds:List PyData} {n:Nat} (h:∀ d∈ds,PyData.depth d≤n):PyData.depthAll ds≤n:=by
 induction ds with
 | nil=>simp [PyData.depthAll]
 | cons d r ih=>
  have h1:=h d List.mem_cons_self
  have h2:=ih fun e he=>h e (List.mem_cons_of_mem _ he)
  simp only [PyData.depthAll]
  omega
theorem qH {d:PyData} {n:Nat} (h1:PyData.canLay0 d=true) (h2:PyData.depth d≤n) (h3:n≤64):SeqAt.shaped d=true:=by
 unfold SeqAt.shaped
 rw [h1,Bool.true_and]
 exact decide_eq_true (Nat.le_trans h2 h3)
end L2.L3
namespace L2.L3
open PySem PySem.Spec PyProof.Rows
section
variable {X:Cx} {e a b c o:Expr} {es:List Expr} {ρ:List Ent} {d da db dc:PyData} {ds:List PyData} {pos p p2:Pos}
noncomputable def cutD (xs:List PyData) (lo hi:Option Int):List PyData:=(xs.drop (HT.sIx xs.length 0 lo)).take (HT.sIx xs.length xs.length hi - HT.sIx xs.length 0 lo)
theorem vT {K:PySem.W.Frag} {G:Hp} {xs:List V} (r:RepAll K G xs ds) (lo hi:Option Int):RepAll K G (vS xs lo hi) (cutD ds lo hi):=by
 unfold vS cutD
 rw [r.length]
 exact (r.drop _).take _
end
end L2.L3
namespace L2.L3
open PySem PySem.Spec PyProof.Rows
example (K:PySem.W.Frag):PySem.W.kitOne K (.type "int") (.type "int")=some true:=by rfl
example (K:PySem.W.Frag):PySem.W.kitOne K (.type "bool") (.type "int")=some true:=by rfl
example (K:PySem.W.Frag):PySem.W.kitOne K (.type "str") (.type "int")=some false:=by rfl
section
variable {X:Cx} {e a b c o:Expr} {es:List Expr} {ρ:List Ent} {d da db dc:PyData} {ds:List PyData} {pos p p2:Pos}
end
end L2.L3
namespace L2.L3
open PySem PySem.Spec PyProof.Rows
section
variable {X:Cx} {e a b c o:Expr} {es:List Expr} {ρ:List Ent} {d da db dc:PyData} {ds:List PyData} {pos p p2:Pos}
theorem kH {K:PySem.W.Frag} {G:Hp}:∀ ns:List Int,RepAll K G (ns.map V.int) (ns.map .int)
 | []=>.nil
 | _::r=>.cons (.int _) (kH r)
end
end L2.L3
namespace L2.L3
open PySem PySem.Spec PyProof.Rows
section
variable {X:Cx} {iter a b:Expr} {ρ:List Ent} {p pos px:Pos} {x:Str}
theorem a5I {i j:Str}:CmpD X .LtE (.str i) (.str j) (!decide (j.cps.toList<i.cps.toList)):=⟨fun x y H Q=>∃ i j,x=V.str i∧y=V.str j∧Q (.bl (!decide (j.cps.toList<i.cps.toList))) H,by
 intro pins s σ H x y v u Q I rx ry ⟨i,j,e1,e2,q⟩
 subst e1 e2
 obtain ⟨t,rfl⟩:=rx
 obtain ⟨t',rfl⟩:=ry
 exact PySem.P.le_str ⟨.bl _,H,I,rfl,q⟩,fun x y G H Q _ rx ry q=>by cases rx;cases ry;exact ⟨_,_,rfl,rfl,q⟩⟩
end
end L2.L3
namespace L2.L3
open PySem PySem.Spec PyProof.Rows
theorem bR.there {P:Program} {w:World} {H:Hp} {h:Heap} {a:Addr} {o:HO} (x:bR P w H h a o):∃ u,h.get? a=some u:=by
 cases o with
 | lst xs=>obtain ⟨_,_,_,_,e⟩:=x;exact ⟨_,e⟩
 | tup xs=>obtain ⟨_,_,_,u,e,_⟩:=x;exact ⟨u,e⟩
 | dK kvs=>obtain ⟨_,_,_,_,o,_,_,e,_⟩:=x;exact ⟨_,e⟩
 | dT kvs=>obtain ⟨_,_,_,_,o,_,_,e,_⟩:=x;exact ⟨_,e⟩
 | set S n=>obtain ⟨o,_,_,_,e,_⟩:=x;exact ⟨_,e⟩
 | ins C dx fs=>obtain ⟨_,_,_,e,_⟩:=x;exact ⟨_,e⟩
 | own y=>exact x
 | xd fs=>obtain ⟨_,⟨_,_,_,e,_⟩,_⟩:=x;exact ⟨_,e⟩
 | rng lo hi=>obtain ⟨_,_,_,e⟩:=x;exact ⟨_,e⟩
 | frz ob u=>obtain ⟨e,_⟩:=x;exact ⟨_,e⟩
 | tbl ps=>exact ⟨_,show h.get? a=some _ from x⟩
 | met f y=>exact ⟨_,show h.get? a=some _ from x⟩
 | ext φ=>exact x.2.1
theorem a2R {P:Program} {w:World} {H:Hp} {h:Heap} {a:Addr} (x:HOk P w H h) (e:h.get? a=none):H a=none:=by
 cases q:H a with
 | none=>rfl
 | some u=>obtain ⟨v,z⟩:=bR.there (x a u q);rw [e] at z;cases z
noncomputable def rY (X:Cx) (b:Addr):Prop:=(b∈X.ex∨X.s₀.heap.get? b=none)∧∀ p∈X.pn,p.1≠b
noncomputable def pY (fr:Addr→Prop) (fl:Value) (H:Hp) (a C:Addr) (h:Heap):Prop:=
 fr a∧H a=none∧∃ oe vs a0 T oT ts,h.get? a=some oe∧oe.cls=.ref C∧oe.data=.fields vs∧vs[0]?=some a0 ∧
  vs[1]?=some (.ref T)∧fr T∧H T=none∧T≠a∧h.get? T=some oT∧oT.data=.fields ts∧ts[3]?=some fl
noncomputable def ExcAt (fr:Addr→Prop) (H:Hp) (a C:Addr) (h:Heap):Prop:=
 (fr a∧H a=none∧∃ oe vs a0,h.get? a=some oe∧oe.cls=.ref C∧oe.data=.fields vs∧vs[0]?=some a0∧vs[1]?=some .none)∨pY fr .none H a C h
noncomputable def iN (X:Cx) (fr:Addr→Prop) (H:Hp) (a C:Addr) (h:Heap):Prop:=ExcAt fr H a C h∨∃ L,X.env.frame=some L∧pY fr (rawInt L) H a C h
noncomputable def ExcIs (X:Cx) (c:Str) (e:Value) (H:Hp) (s:Shared):Prop:=∃ a C,e=.ref a∧eP X.K c=some C∧iN X (rY X) H a C s.heap
theorem pY.mono {fr fr':Addr→Prop} {fl:Value} {H:Hp} {a C:Addr} {h:Heap} (x:pY fr fl H a C h) (k:∀ b,fr b→fr' b):pY fr' fl H a C h:=by
 obtain ⟨h1,h2,oe,vs,a0,T,oT,ts,e1,e2,e3,e4,e5,e6,e7⟩:=x
 exact ⟨k _ h1,h2,oe,vs,a0,T,oT,ts,e1,e2,e3,e4,e5,k _ e6,e7⟩
theorem ExcAt.mono {fr fr':Addr→Prop} {H:Hp} {a C:Addr} {h:Heap} (x:ExcAt fr H a C h) (k:∀ b,fr b→fr' b):ExcAt fr' H a C h:=by
 rcases x with ⟨h1,h2⟩ | x
 ·exact .inl ⟨k _ h1,h2⟩
 ·exact .inr (x.mono k)
theorem iN.mono {X:Cx} {fr fr':Addr→Prop} {H:Hp} {a C:Addr} {h:Heap} (x:iN X fr H a C h) (k:∀ b,fr b→fr' b):iN X fr' H a C h:=by
 rcases x with x | ⟨L,h1,x⟩
 ·exact .inl (x.mono k)
 ·exact .inr ⟨L,h1,x.mono k⟩
theorem ExcAt.ob {fr:Addr→Prop} {H:Hp} {a C:Addr} {h:Heap} (x:ExcAt fr H a C h):fr a∧H a=none∧∃ oe vs,ExO h a C oe∧oe.data=.fields vs:=by
 rcases x with ⟨h1,h2,oe,vs,a0,e1,e2,e3,_⟩ | ⟨h1,h2,oe,vs,a0,T,oT,ts,e1,e2,e3,_⟩
 ·exact ⟨h1,h2,oe,vs,⟨e1,e2⟩,e3⟩
 ·exact ⟨h1,h2,oe,vs,⟨e1,e2⟩,e3⟩
structure Chg (X:Cx) (fr:Addr→Prop) (cs:List Addr) (H:Hp) (h h':Heap):Prop where
 ch:∀ b∈cs,fr b∧H b=none∧∃ o vs,h.get? b=some o∧o.data=.fields vs
 un:Un (frs X.stack) cs H H h h'
 hok:HOk X.prog X.w H h'
section
variable {X:Cx} {pins:List (Addr×Obj)} {σ:List (Option V)} {H H':Hp} {s:Shared} {h':Heap} {a C:Addr} {fr:Addr→Prop}
theorem uQ {base:Heap} {Ts:List Addr} {a0 fl:Value} (I:Inv X pins σ H s) (hst:X.stack=X.env::X.outer) (ha:fr a∧H a=none∧∃ o vs,s.heap.get? a=some o∧o.data=.fields vs)
  (hT:∀ b∈Ts,fr b∧H b=none∧∃ o vs,s.heap.get? b=some o∧o.data=.fields vs) (hb:base=PySem.W.hideAll s.heap ((a::Ts)++frs X.stack)) (hnew:∀ b,s.heap.get? b=none→fr b)
  (N:Heap.NotedW base (X.env::X.outer) a (.ref C) a0 fl s.heap h'):Chg X fr (a::Ts) H s.heap h'∧pY fr fl H a C h':=by
 obtain ⟨st,ff,⟨oe,vs,T,oT,ts,e1,⟨e2,e3⟩,e4,e5,e6,e7,e8,e9,e10⟩,up⟩:=N
 have hmem:∀ b∈frs X.stack,∃ o,s.heap.get? b=some o∧∀ vs,o.data≠.fields vs:=fun b hm=>by
  obtain ⟨_,o,ho,hd⟩:=I.stack.mem hm
  exact ⟨o,ho,hd⟩
 have keep:∀ b o,s.heap.get? b=some o→b∉frs X.stack→b∉a::Ts→h'.get? b=some o:=fun b o e n1 n2=>
  st b o (by rw [hb];exact PySem.W.hideAll_get _ e fun z=>(List.mem_append.mp z).elim n2 n1)
 have slot:∀ b o,s.heap.get? b=some o→b∈frs X.stack→∃ sl,h'.get? b=some { o with slots:=sl }:=fun b o e hm=>by
  obtain ⟨o',ho',hd⟩:=hmem b hm
  rw [e] at ho';cases ho'
  exact up b o e hd
 have hch:∀ b∈a::Ts,fr b∧H b=none∧∃ o vs,s.heap.get? b=some o∧o.data=.fields vs:=fun b hm=>by
  rcases List.mem_cons.mp hm with rfl | hm
  ·exact ha
  ·exact hT b hm
 refine ⟨⟨hch,⟨fun b o e n n1 n2=>keep b o e n1 n2,fun b o e n n1 n2=>slot b o e n1,fun b o e n _=>n,fun b o e n2=>?_,fun _ _ q=>q,fun _ _ _ q=>q,fun _ ps q=>⟨#[],by rw [q];simp⟩⟩,fun b u q=>?_⟩,?_⟩
 ·by_cases hm:b∈frs X.stack
  ·obtain ⟨sl,z⟩:=slot b o e hm
   exact ⟨_,z⟩
  ·exact ⟨o,keep b o e hm n2⟩
 ·have tr:∀ c u,H c=some u→c∉frs X.stack∧c∉a::Ts:=fun c u q=>⟨fun z=>(by rw [I.stkFree c z] at q;cases q),fun z=>(by rw [(hch c z).2.1] at q;cases q)⟩
  refine (I.hok b u q).stay (fun c v hc z=>?_) (fun _ z=>z) fun _ _ z=>z
  rcases hc with rfl | hc
  ·exact keep c v z (tr c u q).1 (tr c u q).2
  ·exact keep c v z (tr c _ hc).1 (tr c _ hc).2
 ·refine ⟨ha.1,ha.2.1,oe,vs,a0,T,oT,ts,e1,e2,e4,e3,e5,?_⟩
  have hh:fr T∧H T=none:=by
   cases q:s.heap.get? T with
   | none=>exact ⟨hnew T q,a2R I.hok q⟩
   | some o=>
    have hm:T∈(a::Ts)++frs X.stack:=Classical.byContradiction fun z=>by
     have:=PySem.W.hideAll_get _ q z
     rw [←hb,e6] at this;cases this
    rcases List.mem_append.mp hm with hm | hm
    ·exact ⟨(hch T hm).1,(hch T hm).2.1⟩
    ·exfalso
     obtain ⟨o',ho',hd⟩:=hmem T hm
     obtain ⟨sl,z⟩:=slot T o' ho' hm
     rw [e8] at z;cases z
     exact hd ts e9
  exact ⟨hh.1,hh.2,e7,e8,e9,e10⟩
theorem a4T {M:Model} {A:Around} {E:Value→Shared→Prop} {Q:Unit→Shared→Prop} (hfr:A.frames=some X.stack) (hst:X.stack=X.env::X.outer) (hf:X.env.frame=some X.env.locals) (I:Inv X pins σ H s) (x:ExcAt fr H a C s.heap) (hnew:∀ b,s.heap.get? b=none→fr b)
  (h:∀ h' ch,Chg X fr ch H s.heap h'→pY fr (rawInt X.env.locals) H a C h'→Q () { s with heap:=h' }):wpAny M A (noteFrame (.ref a) X.env) Q E s:=by
 have frm:∀ (l:List Addr),∀ env∈X.env::X.outer,∀ b,env.frame=some b→b∈l++frs X.stack:=fun l env he b hb=>List.mem_append_right _ (by
  rw [hst];unfold frs
  exact List.mem_filterMap.mpr ⟨env,he,hb⟩)
 have hl:=I.stack
 rcases x with ⟨h1,h2,oe,vs,a0,e1,e2,e3,e4,e5⟩ | ⟨h1,h2,oe,vs,a0,T,oT,ts,e1,e2,e3,e4,e5,e6,e7,e8,e9,e10,e11⟩
 ·have hl':s.heap.FunFrames (PySem.W.hideAll s.heap ([a]++frs X.stack)) (X.env::X.outer):=PySem.W.funFrames_hide (hst▸hl) (frm [a])
  unfold noteFrame
  simp only [hf]
  refine wpAny_bind (wpAny_field e1 e3 e5 ?_)
  rw [if_neg (by decide)]
  refine wpAny_entryW (hst▸hfr) hl' hf e1 (fun b o e=>PySem.W.of_hideAll ([a]++frs X.stack) e) (PySem.W.hideAll_none ([a]++frs X.stack) (by simp)) e3 (Array.getElem?_eq_some_iff.mp e5).1 e4 fun h' N=>?_
  rw [e2] at N
  obtain ⟨c1,c2⟩:=uQ (Ts:=[]) I hst ⟨h1,h2,oe,vs,e1,e3⟩ (fun _ z=>nomatch z) rfl hnew N
  exact h h' _ c1 c2
 ·have hl':s.heap.FunFrames (PySem.W.hideAll s.heap ([a,T]++frs X.stack)) (X.env::X.outer):=PySem.W.funFrames_hide (hst▸hl) (frm [a,T])
  refine wpAny_noteFrame_onW (hst▸hfr) hl' hf ⟨oe,vs,T,oT,ts,e1,⟨e2,e4⟩,e3,e5,PySem.W.hideAll_none ([a,T]++frs X.stack) (by simp),e8,e9,e10,e11⟩ (fun b o e=>PySem.W.of_hideAll ([a,T]++frs X.stack) e) (PySem.W.hideAll_none ([a,T]++frs X.stack) (by simp)) fun h' N=>?_
  obtain ⟨c1,c2⟩:=uQ (Ts:=[T]) I hst ⟨h1,h2,oe,vs,e1,e3⟩ (fun b z=>by cases List.mem_singleton.mp z;exact ⟨e6,e7,oT,ts,e9,e10⟩) rfl hnew N
  exact h h' _ c1 c2
theorem Chg.same {X:Cx} {fr:Addr→Prop} {H:Hp} {h:Heap} (hok:HOk X.prog X.w H h):Chg X fr [] H h h:=
 ⟨(fun _ z=>nomatch z),⟨fun _ _ e _ _ _=>e,fun _ o e _ _ _=>⟨o.slots,e⟩,fun _ _ _ n _=>n,fun _ o e _=>⟨o,e⟩,fun _ _ q=>q,fun _ _ _ q=>q,fun _ ps q=>⟨#[],by rw [q];simp⟩⟩,hok⟩
theorem uR {M:Model} {A:Around} {E:Value→Shared→Prop} {Q:Unit→Shared→Prop} (hfr:A.frames=some X.stack) (hst:X.stack=X.env::X.outer) (hf:X.env.frame=some X.env.locals) (I:Inv X pins σ H s) (x:iN X fr H a C s.heap) (hnew:∀ b,s.heap.get? b=none→fr b)
  (h:∀ h' ch,Chg X fr ch H s.heap h'→pY fr (rawInt X.env.locals) H a C h'→Q () { s with heap:=h' }):wpAny M A (noteFrame (.ref a) X.env) Q E s:=by
 rcases x with x | ⟨L,hL,x⟩
 ·exact a4T hfr hst hf I x hnew h
 ·rw [hf] at hL;cases hL
  have q:=h s.heap [] (Chg.same I.hok) x
  obtain ⟨h1,h2,oe,vs,a0,T,oT,ts,e1,e2,e3,e4,e5,e6,e7,e8,e9,e10,e11⟩:=x
  unfold noteFrame
  simp only [hf]
  refine wpAny_bind (wpAny_field e1 e3 e5 ?_)
  rw [if_pos (by simp)]
  refine wpAny_bind (wpAny_field e9 e10 e11 ?_)
  rw [if_pos (by simp [rawInt])]
  exact wpAny_pure q
theorem xP {M:Model} {A:Around} {E:Value→Shared→Prop} {Q:Unit→Shared→Prop} {fl:Value} (hok:HOk X.prog X.w H s.heap) (x:pY fr fl H a C s.heap)
  (h:∀ h' ch,Chg X fr ch H s.heap h'→pY fr .none H a C h'→Q () { s with heap:=h' }):wpAny M A (setFlight (.ref a) none) Q E s:=by
 obtain ⟨h1,h2,oe,vs,a0,T,oT,ts,e1,e2,e3,e4,e5,e6,e7,e8,e9,e10,e11⟩:=x
 have sz:3<ts.size:=(Array.getElem?_eq_some_iff.mp e11).1
 refine wpAny_setFlight_none e1 e3 e5 e9 e10 sz (h _ [T] ⟨fun b z=>?_,⟨fun b o e n _ n2=>?_,fun b o e n _ n2=>?_,fun b o e n _=>n,fun b o e n2=>?_,fun _ _ q=>q,fun _ _ _ q=>q,fun _ ps q=>⟨#[],by rw [q];simp⟩⟩,fun b u q=>?_⟩ ?_)
 ·cases List.mem_singleton.mp z;exact ⟨e6,e7,oT,ts,e9,e10⟩
 ·rw [Heap.get?_update_other _ _ (fun z=>n2 (by simp [z]))];exact e
 ·exact ⟨o.slots,by rw [Heap.get?_update_other _ _ (fun z=>n2 (by simp [z]))];exact e⟩
 ·exact ⟨o,by rw [Heap.get?_update_other _ _ (fun z=>n2 (by simp [z]))];exact e⟩
 ·have tr:∀ c u,H c=some u→T≠c:=fun c u q z=>by rw [←z,e7] at q;cases q
  refine (hok b u q).stay (fun c v hc z=>?_) (fun _ z=>z) fun _ _ z=>z
  rcases hc with rfl | hc
  ·rw [Heap.get?_update_other _ _ (tr c u q)];exact z
  ·rw [Heap.get?_update_other _ _ (tr c _ hc)];exact z
 ·refine ⟨h1,h2,oe,vs,a0,T,_,_,?_,e2,e3,e4,e5,e6,e7,e8,Heap.get?_update_self _ e9 (Obj.isFreed_of_fields (Obj.data_mapFields e10 _)),Obj.data_mapFields e10 _,by simp [sz]⟩
  rw [Heap.get?_update_other _ _ e8];exact e1
theorem a2A {M:Model} {A:Around} {E:Value→Shared→Prop} {Q:Unit→Shared→Prop} (hfr:A.frames=some X.stack) (hst:X.stack=X.env::X.outer) (hf:X.env.frame=some X.env.locals) (I:Inv X pins σ H s) (x:iN X fr H a C s.heap) (hnew:∀ b,s.heap.get? b=none→fr b)
  (h:∀ h' ch,Un (frs X.stack) ch H H s.heap h'→(∀ b∈ch,fr b)→HOk X.prog X.w H h'→ExcAt fr H a C h'→Q () { s with heap:=h' }):wpAny M A (leaving X.env (.ref a)) Q E s:=by
 unfold leaving
 refine wpAny_bind (uR hfr hst hf I x hnew fun h1 ch1 c1 x1=>?_)
 refine xP (X:=X) (s:={ s with heap:=h1 }) c1.hok x1 fun h2 ch2 c2 x2=>?_
 refine h h2 (ch1++ch2) ((c1.un.mono (fun _ z=>z) fun b z=>List.mem_append_left _ z).trans (c2.un.mono (fun _ z=>z) fun b z=>List.mem_append_right _ z)) (fun b z=>?_) c2.hok (.inr x2)
 rcases List.mem_append.mp z with z | z
 ·exact (c1.ch b z).1
 ·exact (c2.ch b z).1
theorem Inv.chg {ch:List Addr} (I:Inv X pins σ H s) (c:Chg X (fun b=>rY X b∧∀ p∈pins,p.1≠b) ch H s.heap h'):Inv X pins σ H { s with heap:=h' }:=by
 obtain ⟨m,hn,hl⟩:=id I.loc
 obtain ⟨oL,es,ep,hoL,rL⟩:=id hn
 have cL:X.env.locals∉ch:=fun z=>by
  obtain ⟨_,_,o,vs,e1,e2⟩:=c.ch _ z
  rw [hoL] at e1;cases e1
  rw [rL.1] at e2;cases e2
 have cC:∀ x d,X.env.cells.lookup x=some d→d∉ch:=fun x d e z=>by
  obtain ⟨_,_,o,vs,e1,e2⟩:=c.ch _ z
  obtain ⟨v,o',e3,e4⟩:=I.cell x d e
  rw [e3] at e1;cases e1
  rw [e4] at e2;cases e2
 have cS:∀ b o,X.s₀.heap.get? b=some o→b∉X.ex→b∉ch:=fun b o e n z=>by
  rcases (c.ch b z).1.1.1 with q | q
  ·exact n q
  ·rw [e] at q;cases q
 have cP:∀ p∈X.pn++pins,p.1∉ch:=fun p hp z=>by
  rcases List.mem_append.mp hp with hp | hp
  ·exact (c.ch _ z).1.1.2 p hp rfl
  ·exact (c.ch _ z).1.2 p hp rfl
 have neL:∀ b o,X.s₀.heap.get? b=some o→b≠X.env.locals:=fun b o e=>Nat.ne_of_lt (Nat.lt_of_lt_of_le (Heap.lt_size e) I.ok.above)
 have nst:∀ b,b≠X.env.locals→b∉X.fs→b∉frs X.stack:=fun b n1 n2 z=>(List.mem_cons.mp (I.stkSub b z)).elim n1 n2
 have cellK:∀ x d,X.env.cells.lookup x=some d→∀ v,s.heap.IsCell d v→h'.IsCell d v:=fun x d e v ⟨o,ho,hd⟩=>by
  obtain ⟨sl,q⟩:=c.un.any ho (I.freeC x d e) (cC x d e)
  exact ⟨_,q,hd⟩
 refine ⟨I.ok,I.os,I.bare,⟨fun b o e n hb hx=>?_,fun b o e n hb hx=>?_,I.base.free,fun b o e hx=>?_,I.base.tups,I.base.frzs,I.base.tbls⟩,⟨m,?_,fun i x v e1 e2 e3=>?_⟩,fun x d e=>?_,I.free,I.freeC,fun p hp=>?_,c.hok,I.len⟩
 ·exact c.un.keep b o (I.base.keep b o e n hb hx) (I.base.free b o e n hx) (nst b (neL b o e) hb) (cS b o e hx)
 ·obtain ⟨sl,e1⟩:=I.base.slot b o e n hb hx
  obtain ⟨sl',e2⟩:=c.un.any e1 (I.base.free b o e n hx) (cS b o e hx)
  exact ⟨sl',e2⟩
 ·obtain ⟨o',e1⟩:=I.base.there b o e hx
  exact c.un.there b o' e1 (cS b o e hx)
 ·obtain ⟨sl,q⟩:=c.un.any hoL I.free cL
  exact ⟨_,es,ep,q,rL⟩
 ·obtain ⟨u,r,l⟩:=hl i x v e1 e2 e3
  refine ⟨u,r,?_⟩
  rcases l with l | ⟨k,d,e,z⟩
  ·exact .inl l
  ·exact .inr ⟨k,d,e,cellK x d e _ z⟩
 ·obtain ⟨v,z⟩:=I.cell x d e
  exact ⟨v,cellK x d e v z⟩
 ·obtain ⟨e,n,ne,nf,d⟩:=I.pin p hp
  exact ⟨c.un.keep p.1 p.2 e n (nst p.1 ne nf) (cP p hp),n,ne,nf,d⟩
theorem Inv.track {o:HO} (I:Inv X pins σ H s) (ha:rY X a∧∀ p∈pins,p.1≠a) (hn:H a=none) (hd:∃ u vs,s.heap.get? a=some u∧u.data=.fields vs) (ok:bR X.prog X.w (upd H a o) s.heap a o):Inv X pins σ (upd H a o) s:=by
 obtain ⟨u,vs,hu,hv⟩:=hd
 have nL:X.env.locals≠a:=fun z=>by
  obtain ⟨m,⟨oL,es,ep,hoL,rL⟩,_⟩:=id I.loc
  rw [z,hu] at hoL;cases hoL
  rw [rL.1] at hv;cases hv
 have nC:∀ x d,X.env.cells.lookup x=some d→d≠a:=fun x d e z=>by
  obtain ⟨v,o',e3,e4⟩:=I.cell x d e
  rw [z,hu] at e3;cases e3
  rw [e4] at hv;cases hv
 refine ⟨I.ok,I.os,I.bare,⟨I.base.keep,I.base.slot,fun b o e n hx=>?_,I.base.there,fun b xs e=>?_,fun b o u e=>?_,fun b ps e=>?_⟩,I.loc,I.cell,?_,fun x d e=>?_,fun p hp=>?_,fun b v e=>?_,I.len⟩
 ·rw [aD (fun z=>by
   subst z
   rcases ha.1.1 with q | q
   ·exact hx q
   ·rw [e] at q;cases q)]
  exact I.base.free b o e n hx
 ·have q:=I.base.tups b xs e
  rw [aD (aM q hn)];exact q
 ·have q:=I.base.frzs b o u e
  rw [aD (aM q hn)];exact q
 ·obtain ⟨more,q⟩:=I.base.tbls b ps e
  exact ⟨more,by rw [aD (aM q hn)];exact q⟩
 ·rw [aD nL];exact I.free
 ·rw [aD (nC x d e)];exact I.freeC x d e
 ·obtain ⟨e,n,ne,nf,d⟩:=I.pin p hp
  have np:p.1≠a:=by
   rcases List.mem_append.mp hp with hp | hp
   ·exact ha.1.2 p hp
   ·exact ha.2 p hp
  exact ⟨e,by rw [aD np];exact n,ne,nf,d⟩
 ·by_cases hb:b=a
  ·subst hb;rw [aF] at e;cases e;exact ok
  ·rw [aD hb] at e
   exact (I.hok b v e).stay (fun c w' _ q=>q) (fun c q=>by rw [aD (aM q hn)];exact q) fun c xs q=>by rw [aD (aM q hn)];exact q
end
end L2.L3
namespace L2.L3
open PySem PySem.Spec PyProof.Rows
inductive Re (α:Type) where
 | ok (a:α)
 | ex (c:Str)
noncomputable abbrev Mm (α:Type):=Option (Re α)
noncomputable abbrev ret {α:Type} (a:α):Mm α:=some (.ok a)
noncomputable def bnd {α β:Type} (m:Mm α) (k:α→Mm β):Mm β:=match m with
 | some (.ok a)=>k a
 | some (.ex c)=>some (.ex c)
 | none=>none
noncomputable def lft {α:Type} (o:Option α):Mm α:=match o with
 | some a=>some (.ok a)
 | none=>none
noncomputable abbrev EF:=List Ent→Mm PyData
noncomputable abbrev TF:=List Ent→Mm Bool
noncomputable abbrev AF:=List Ent→Mm (List PyData)
section
variable {α β:Type}
theorem cQ {m:Mm α} {k:α→Mm β} {r:Re β} (h:bnd m k=some r):(∃ a,m=some (.ok a)∧k a=some r)∨∃ c,m=some (.ex c)∧r=.ex c:=by
 match m,h with
 | some (.ok a),h=>exact .inl ⟨a,rfl,h⟩
 | some (.ex c),h=>exact .inr ⟨c,rfl,(Option.some.inj h).symm⟩
 | none,h=>cases h
theorem bI {o:Option α} {r:Re α} (h:lft o=some r):∃ a,o=some a∧r=.ok a:=by
 match o,h with
 | some a,h=>exact ⟨a,rfl,(Option.some.inj h).symm⟩
 | none,h=>cases h
end
noncomputable def gM (X:Cx) (H0 G₀ G:Hp) (ρ:List Ent) (c:Str):Prop:=
 ∀ (pins:List (Addr×Obj)) (s':Shared) (σ:St) (H' G':Hp) (e:Value),Inv X pins σ H' s'→RepS X.K H0 G₀ G' H' σ ρ→aS G G'→ExcIs X c e H' s'→X.xe e s'
theorem gM.mono {X:Cx} {H0 G₀ G G':Hp} {ρ:List Ent} {c:Str} (h:gM X H0 G₀ G ρ c) (s:aS G G'):gM X H0 G₀ G' ρ c:=
 fun pins s' σ H' G2 e I R g x=>h pins s' σ H' G2 e I R (s.trans g) x
noncomputable def a1e (X:Cx) (H0 G₀ G:Hp) (ρ:List Ent) (H:Hp) (Q:VK):Re PyData→Prop
 | .ok d=>∀ v G' H',Grow G H G' H'→Rep X.K G' v d→Q v H'
 | .ex c=>gM X H0 G₀ G ρ c
noncomputable def a1d (X:Cx) (H0 G₀ G:Hp) (ρ:List Ent) (H:Hp) (Q:Bool→Hp→Prop):Re Bool→Prop
 | .ok b=>∀ G' H',Grow G H G' H'→Q b H'
 | .ex c=>gM X H0 G₀ G ρ c
noncomputable def a1f (X:Cx) (H0 G₀ G:Hp) (ρ:List Ent) (H:Hp) (Q:List V→Hp→Prop):Re (List PyData)→Prop
 | .ok ds=>∀ vs G' H',Grow G H G' H'→RepAll X.K G' vs ds→Q vs H'
 | .ex c=>gM X H0 G₀ G ρ c
noncomputable def rE (X:Cx) (f:EF):TE:=fun σ H Q=>∃ ρ r H0 G₀ G,f ρ=some r∧RepS X.K H0 G₀ G H σ ρ∧a1e X H0 G₀ G ρ H Q r
noncomputable def rT (X:Cx) (f:TF):TT:=fun σ H Q=>∃ ρ r H0 G₀ G,f ρ=some r∧RepS X.K H0 G₀ G H σ ρ∧a1d X H0 G₀ G ρ H Q r
noncomputable def rA (X:Cx) (f:AF):TA:=fun σ H Q=>∃ ρ r H0 G₀ G,f ρ=some r∧RepS X.K H0 G₀ G H σ ρ∧a1f X H0 G₀ G ρ H Q r
structure DE (X:Cx) (e:Expr) (f:EF):Prop where
 run:PE X e (rE X f)
structure DT (X:Cx) (e:Expr) (f:TF):Prop where
 run:PT X e (rT X f)
structure DW (X:Cx) (e:Expr) (f:TF):Prop where
 run:PW X e (rT X f)
structure DA (X:Cx) (es:List Expr) (f:AF):Prop where
 run:PA X es (rA X f)
section
variable {X:Cx} {H0 G₀ G G1 H H1:Hp} {ρ:List Ent} {σ:St}
theorem a1e.more {Q:VK} {r:Re PyData} (q:a1e X H0 G₀ G ρ H Q r) (g:Grow G H G1 H1):a1e X H0 G₀ G1 ρ H1 Q r:=by
 cases r with
 | ok d=>exact fun v G' H' g' rv=>q v G' H' (g.trans g') rv
 | ex c=>exact gM.mono q g.gg
theorem a1d.more {Q:Bool→Hp→Prop} {r:Re Bool} (q:a1d X H0 G₀ G ρ H Q r) (g:Grow G H G1 H1):a1d X H0 G₀ G1 ρ H1 Q r:=by
 cases r with
 | ok d=>exact fun G' H' g'=>q G' H' (g.trans g')
 | ex c=>exact gM.mono q g.gg
theorem a1f.more {Q:List V→Hp→Prop} {r:Re (List PyData)} (q:a1f X H0 G₀ G ρ H Q r) (g:Grow G H G1 H1):a1f X H0 G₀ G1 ρ H1 Q r:=by
 cases r with
 | ok d=>exact fun v G' H' g' rv=>q v G' H' (g.trans g') rv
 | ex c=>exact gM.mono q g.gg
theorem bE {fa:EF} {β:Type} {k:PyData→Mm β} {r:Re β} (R:RepS X.K H0 G₀ G H σ ρ) (e:bnd (fa ρ) k=some r) {T:VK} (hx:∀ c,r=.ex c→gM X H0 G₀ G ρ c)
  (h:∀ x v G1 H1,Grow G H G1 H1→RepS X.K H0 G₀ G1 H1 σ ρ→Rep X.K G1 v x→k x=some r→T v H1):rE X fa σ H T:=by
 rcases cQ e with ⟨x,e1,e2⟩ | ⟨c,e1,e2⟩
 ·exact ⟨ρ,_,H0,G₀,G,e1,R,fun v G1 H1 g1 rv=>h x v G1 H1 g1 (R.more g1) rv e2⟩
 ·exact ⟨ρ,_,H0,G₀,G,e1,R,hx c e2⟩
theorem bT {fa:TF} {β:Type} {k:Bool→Mm β} {r:Re β} (R:RepS X.K H0 G₀ G H σ ρ) (e:bnd (fa ρ) k=some r) {T:Bool→Hp→Prop} (hx:∀ c,r=.ex c→gM X H0 G₀ G ρ c)
  (h:∀ x G1 H1,Grow G H G1 H1→RepS X.K H0 G₀ G1 H1 σ ρ→k x=some r→T x H1):rT X fa σ H T:=by
 rcases cQ e with ⟨x,e1,e2⟩ | ⟨c,e1,e2⟩
 ·exact ⟨ρ,_,H0,G₀,G,e1,R,fun G1 H1 g1=>h x G1 H1 g1 (R.more g1) e2⟩
 ·exact ⟨ρ,_,H0,G₀,G,e1,R,hx c e2⟩
theorem bA {fa:AF} {β:Type} {k:List PyData→Mm β} {r:Re β} (R:RepS X.K H0 G₀ G H σ ρ) (e:bnd (fa ρ) k=some r) {T:List V→Hp→Prop} (hx:∀ c,r=.ex c→gM X H0 G₀ G ρ c)
  (h:∀ x v G1 H1,Grow G H G1 H1→RepS X.K H0 G₀ G1 H1 σ ρ→RepAll X.K G1 v x→k x=some r→T v H1):rA X fa σ H T:=by
 rcases cQ e with ⟨x,e1,e2⟩ | ⟨c,e1,e2⟩
 ·exact ⟨ρ,_,H0,G₀,G,e1,R,fun v G1 H1 g1 rv=>h x v G1 H1 g1 (R.more g1) rv e2⟩
 ·exact ⟨ρ,_,H0,G₀,G,e1,R,hx c e2⟩
theorem a1e.x {Q:VK} {r:Re PyData} (q:a1e X H0 G₀ G ρ H Q r):∀ c,r=.ex c→gM X H0 G₀ G ρ c:=fun c e=>by subst e;exact q
theorem a1d.x {Q:Bool→Hp→Prop} {r:Re Bool} (q:a1d X H0 G₀ G ρ H Q r):∀ c,r=.ex c→gM X H0 G₀ G ρ c:=fun c e=>by subst e;exact q
theorem a1f.x {Q:List V→Hp→Prop} {r:Re (List PyData)} (q:a1f X H0 G₀ G ρ H Q r):∀ c,r=.ex c→gM X H0 G₀ G ρ c:=fun c e=>by subst e;exact q
end
section
variable {X:Cx} {e a b c:Expr} {es:List Expr} {pos p:Pos} {fa fb fc:EF}
theorem pG {f:EF} (h:∀ ρ r,f ρ=some r→∃ d,r=.ok d∧PD X e ρ d):DE X e f:=⟨fun pins s σ H Q I ⟨ρ,r,H0,G₀,G,ef,R,q⟩=>by
 obtain ⟨d,rfl,hd⟩:=h ρ r ef
 exact hd.run H0 G₀ G pins s σ H Q I R q⟩
theorem DE.pd {f:EF} (h:DE X e f) {ρ:List Ent} {d:PyData} (q:f ρ=some (.ok d)):PD X e ρ d:=⟨fun H0 G₀ G pins s σ H Q I R k=>h.run pins s σ H Q I ⟨ρ,_,H0,G₀,G,q,R,k⟩⟩
theorem DT.ptd {f:TF} (h:DT X e f) {ρ:List Ent} {d:Bool} (q:f ρ=some (.ok d)):PTD X e ρ d:=⟨fun H0 G₀ G pins s σ H Q I R k=>h.run pins s σ H Q I ⟨ρ,_,H0,G₀,G,q,R,k⟩⟩
noncomputable def cst (d:PyData):EF:=fun _=>some (.ok d)
noncomputable def var (i:Nat):EF:=fun ρ=>match ρ[i]? with
 | some (.val d)=>some (.ok d)
 | _=>none
theorem aG {i:Int} {j}:DE X (.Constant (.int i) j pos) (cst (.int i)):=pG fun ρ r e=>⟨_,(Option.some.inj e).symm,pd_int⟩
theorem bW {x:Str} {j}:DE X (.Constant (.str x) j pos) (cst (.str x)):=pG fun ρ r e=>⟨_,(Option.some.inj e).symm,pd_str⟩
theorem fX {x:Bool} {j}:DE X (.Constant (.bool x) j pos) (cst (.bool x)):=pG fun ρ r e=>⟨_,(Option.some.inj e).symm,a4H⟩
theorem zS {j}:DE X (.Constant .none j pos) (cst .none):=pG fun ρ r e=>⟨_,(Option.some.inj e).symm,a4F⟩
theorem var_is {i:Nat} {ρ:List Ent} {r:Re PyData} (h:var i ρ=some r):∃ d,r=.ok d∧ρ[i]?=some (.val d):=by
 unfold var at h
 split at h
 ·rename_i d e;exact ⟨d,(Option.some.inj h).symm,e⟩
 ·cases h
theorem aB (i:Nat) {x:Str} (hN:X.N[i]?=some x:=by rfl) (hv:Vis X.env.scope x:=by first | exact Or.inl rfl | exact Or.inr (Or.inl rfl) | exact Or.inr (Or.inr rfl)) (hd:(x==("__debug__" : Str))=false:=by decide)
  (hcd:(x==("__classdict__" : Str))=false:=by decide):DE X (.Name x pos) (var i):=pG fun ρ r e=>by
 obtain ⟨d,e1,e2⟩:=var_is e
 exact ⟨d,e1,pd_var i e2 hN hv hd hcd⟩
structure OpD (X:Cx) (op:Operator) (x y d:PyData):Prop where
 ex:∃ r:R2,OpR X (binaryOp op) r∧∀ v u G H Q,aS G H→Rep X.K G v x→Rep X.K G u y→(∀ w G' H',Grow G H G' H'→Rep X.K G' w d→Q w H')→r v u H Q
noncomputable def op2 (g:PyData→PyData→Option PyData) (fa fb:EF):EF:=fun ρ=>bnd (fa ρ) fun x=>bnd (fb ρ) fun y=>lft (g x y)
theorem sQ {f:Value→Value→Sem Value}:OpR X f (fun v u H Q=>∃ r,OpR X f r∧r v u H Q):=fun pins s σ H x y v u Q I rx ry ⟨_,h,q⟩=>h pins s σ H x y v u Q I rx ry q
theorem aQ {op:Operator} {g:PyData→PyData→Option PyData} (hg:∀ x y d,g x y=some d→OpD X op x y d) (ha:DE X a fa) (hb:DE X b fb):DE X (.BinOp a op b pos) (op2 g fa fb):=
 ⟨fun pins s σ H Q I ⟨ρ,r,H0,G₀,G,e,R,q⟩=>pe_op sQ ha.run hb.run pins s σ H Q I (bE R e q.x fun x v G1 H1 g1 R1 rv e1=>bE R1 e1 (q.more g1).x fun y u G2 H2 g2 R2 ru e2=>by
  obtain ⟨d,ed,rfl⟩:=bI e2
  obtain ⟨r,h1,h2⟩:=(hg x y d ed).ex
  exact ⟨r,h1,h2 v u G2 H2 Q g2.sub (rv.mono g2.gg) ru fun w G' H' g' rw'=>q w G' H' ((g1.trans g2).trans g') rw'⟩)⟩
noncomputable def aJ:AF:=fun _=>some (.ok [])
noncomputable def aC (f:EF) (g:AF):AF:=fun ρ=>bnd (f ρ) fun x=>bnd (g ρ) fun xs=>some (.ok (x::xs))
theorem aI:DA X [] aJ:=⟨fun pos pins s σ H Q I ⟨ρ,r,H0,G₀,G,e,R,q⟩=>iZ pos pins s σ H Q I (by
 cases (Option.some.inj e);exact q [] G H (.refl R.sub) .nil)⟩
theorem aA {f:AF} (ha:DE X e fa) (hr:DA X es f) (hs:starEach (e::es) X.env=(false,eval e X.env)::starEach es X.env:=by rfl):DA X (e::es) (aC fa f):=
 ⟨fun pos pins s σ H Q I ⟨ρ,r,H0,G₀,G,e,R,q⟩=>dR ha.run hr.run hs pos pins s σ H Q I (bE R e q.x fun x v G1 H1 g1 R1 rv e1=>bA R1 e1 (q.more g1).x fun ys us G2 H2 g2 R2 ru e2=>by
  cases (Option.some.inj e2)
  exact q _ G2 H2 (g1.trans g2) (.cons (rv.mono g2.gg) ru))⟩
noncomputable def dB (n:Nat):Bool:=decide (n≤100000)
theorem fJ {n:Nat} (h:dB n=true):n≤sizeLine:=Nat.le_trans (of_decide_eq_true h) (by decide)
theorem a6c {n:Nat} (h:dB n=true):n<sizeLine:=Nat.lt_of_le_of_lt (of_decide_eq_true h) (by decide)
noncomputable def qQ (ds:List PyData):Option PyData:=if dB ds.length then some (.tuple ds) else none
noncomputable def qR (ds:List PyData):Option PyData:=if dB ds.length then some (.list ds) else none
noncomputable def iS (f:AF):EF:=fun ρ=>bnd (f ρ) fun xs=>lft (qQ xs)
noncomputable def jB (f:AF):EF:=fun ρ=>bnd (f ρ) fun xs=>lft (qR xs)
theorem a2r {ds:List PyData} {d:PyData} (h:qQ ds=some d):d=.tuple ds∧ds.length≤sizeLine:=by
 unfold qQ at h
 split at h
 ·rename_i z;exact ⟨(Option.some.inj h).symm,fJ z⟩
 ·cases h
theorem a2s {ds:List PyData} {d:PyData} (h:qR ds=some d):d=.list ds∧ds.length≤sizeLine:=by
 unfold qR at h
 split at h
 ·rename_i z;exact ⟨(Option.some.inj h).symm,fJ z⟩
 ·cases h
theorem gH {x1} {f:AF} (h:DA X es f):DE X (.Tuple es x1 pos) (iS f):=⟨fun pins s σ H Q I ⟨ρ,r,H0,G₀,G,e,R,q⟩=>pe_tup h.run pins s σ H Q I (bA R e q.x fun xs vs G1 H1 g1 R1 rv e1=>by
 obtain ⟨d,ed,rfl⟩:=bI e1
 obtain ⟨rfl,hz⟩:=a2r ed
 exact ⟨by rw [rv.length];exact hz,fun p hp=>q _ _ _ (g1.trans (.put g1.sub hp)) (.tuple (.of aF) (rv.mono (aY (g1.sub.free hp))))⟩)⟩
theorem gJ {f:AF} (h:DA X es f):DE X (.List es pos) (jB f):=⟨fun pins s σ H Q I ⟨ρ,r,H0,G₀,G,e,R,q⟩=>a1W h.run pins s σ H Q I (bA R e q.x fun xs vs G1 H1 g1 R1 rv e1=>by
 obtain ⟨d,ed,rfl⟩:=bI e1
 obtain ⟨rfl,hz⟩:=a2s ed
 exact ⟨by rw [rv.length];exact hz,fun p hp=>q _ _ _ (g1.trans (.put g1.sub hp)) (.list (.of aF) (rv.mono (aY (g1.sub.free hp))))⟩)⟩
noncomputable def xY (g:PyData→PyData→Option Bool) (fa fb:EF):EF:=fun ρ=>bnd (fa ρ) fun x=>bnd (fb ρ) fun y=>lft ((g x y).map .bool)
noncomputable def eQ (g:PyData→PyData→Option Bool) (fa fb:EF):TF:=fun ρ=>bnd (fa ρ) fun x=>bnd (fb ρ) fun y=>lft (g x y)
theorem xW {op:CmpOp} {g:PyData→PyData→Option Bool} (hg:∀ x y t,g x y=some t→CmpD X op x y t) (ha:DE X a fa) (hb:DE X b fb) (hm:behindInMarks op b=false:=by first | exact wY _ | with_unfolding_all rfl):DE X (.Compare a [op] [b] pos) (xY g fa fb):=
 ⟨fun pins s σ H Q I ⟨ρ,r,H0,G₀,G,e,R,q⟩=>a4D sQ ha.run hb.run hm pins s σ H Q I (bE R e q.x fun x v G1 H1 g1 R1 rv e1=>bE R1 e1 (q.more g1).x fun y u G2 H2 g2 R2 ru e2=>by
  obtain ⟨d,ed,rfl⟩:=bI e2
  obtain ⟨t,et,rfl⟩:=Option.map_eq_some_iff.mp ed
  obtain ⟨r,h1,h2⟩:=(hg x y t et).ex
  exact ⟨r,h1,h2 v u G2 H2 Q g2.sub (rv.mono g2.gg) ru (q _ _ _ (g1.trans g2) (.bool _))⟩)⟩
theorem cJ {op:CmpOp} {g:PyData→PyData→Option Bool} (hg:∀ x y t,g x y=some t→CmpD X op x y t) (ha:DE X a fa) (hb:DE X b fb) (hm:behindInMarks op b=false:=by first | exact wY _ | with_unfolding_all rfl):DT X (.Compare a [op] [b] pos) (eQ g fa fb):=
 ⟨fun pins s σ H Q I ⟨ρ,r,H0,G₀,G,e,R,q⟩=>yP sQ ha.run hb.run hm pins s σ H Q I (bE R e q.x fun x v G1 H1 g1 R1 rv e1=>bE R1 e1 (q.more g1).x fun y u G2 H2 g2 R2 ru e2=>by
  obtain ⟨t,et,rfl⟩:=bI e2
  obtain ⟨r,h1,h2⟩:=(hg x y t et).ex
  exact ⟨r,h1,h2 v u G2 H2 _ g2.sub (rv.mono g2.gg) ru ⟨_,rfl,q _ _ (g1.trans g2)⟩⟩)⟩
noncomputable def chnE (g g':PyData→PyData→Option Bool) (fa fb fc:EF):EF:=fun ρ=>bnd (fa ρ) fun x=>bnd (fb ρ) fun y=>bnd (lft (g x y)) fun t=>if t then bnd (fc ρ) fun z=>lft ((g' y z).map .bool) else some (.ok (.bool false))
noncomputable def chnT (g g':PyData→PyData→Option Bool) (fa fb fc:EF):TF:=fun ρ=>bnd (fa ρ) fun x=>bnd (fb ρ) fun y=>bnd (lft (g x y)) fun t=>if t then bnd (fc ρ) fun z=>lft (g' y z) else some (.ok false)
end
end L2.L3
namespace L2.L3
open PySem PySem.Spec PyProof.Rows
section
variable {X:Cx} {e a b c:Expr} {es rest:List Expr} {pos p:Pos} {fa fb fc:EF} {ft fu:TF}
noncomputable def nM:PyData→Option Bool
 | .none=>some false
 | .bool b=>some b
 | .int i=>some (i != 0)
 | .str x=>if dB x.length then some ((x.length:Int) != 0) else none
 | .list ds=>some (!ds.isEmpty)
 | .tuple ds=>some (!ds.isEmpty)
 | .dict _=>none
theorem qL {K:PySem.W.Frag} {G:Hp} {vs:List V} {ds:List PyData} (r:RepAll K G vs ds):ds.isEmpty=vs.isEmpty:=by
 have h:=r.length
 cases vs<;>cases ds<;>simp at h ⊢
theorem a4a {K:PySem.W.Frag} {G H:Hp} {v:V} {d:PyData} {t:Bool} (s:aS G H) (r:Rep K G v d) (h:nM d=some t):TruV K v H t:=by
 cases r with
 | none=>exact (Option.some.inj h).symm
 | bool b=>exact (Option.some.inj h).symm
 | int i=>exact (Option.some.inj h).symm
 | str x=>
  have h:(if dB x.length=true then some ((x.length:Int) != 0) else none)=some t:=h
  split at h
  ·rename_i z;exact ⟨fJ z,(Option.some.inj h).symm⟩
  ·cases h
 | list hq r=>exact .inl ⟨_,s.seq hq,by rw [←qL r];exact (Option.some.inj h).symm⟩
 | tuple hq r=>exact .inr (.inl ⟨_,iC s hq,by rw [←qL r];exact (Option.some.inj h).symm⟩)
 | dict _ _ _=>cases h
noncomputable def a0g (fa:EF):TF:=fun ρ=>bnd (fa ρ) fun x=>lft (nM x)
theorem xR (ha:DE X a fa) (he:∀ whole,isTrue a X.env whole=(do let v ←whole;standAt a.pos;holding [v] (truthy v)):=by intro _;rfl):DT X a (a0g fa):=
 ⟨fun pins s σ H Q I ⟨ρ,r,H0,G₀,G,e,R,q⟩=>a1M ha.run he pins s σ H Q I (bE R e q.x fun x v G1 H1 g1 R1 rv e1=>by
  obtain ⟨t,et,rfl⟩:=bI e1
  exact ⟨t,a4a g1.sub rv et,q _ _ g1⟩)⟩
noncomputable def a0y (ft:TF):TF:=fun ρ=>bnd (ft ρ) fun t=>some (.ok (!t))
theorem xS (ha:DT X a ft):DT X (.UnaryOp .Not a pos) (a0y ft):=
 ⟨fun pins s σ H Q I ⟨ρ,r,H0,G₀,G,e,R,q⟩=>pt_not ha.run pins s σ H Q I (bT R e q.x fun t G1 H1 g1 R1 e1=>by
  cases (Option.some.inj e1);exact q _ _ g1)⟩
noncomputable def mS:PyData→Option Bool
 | .bool b=>some b
 | _=>none
noncomputable def notE (fa:EF):EF:=fun ρ=>bnd (fa ρ) fun x=>lft ((mS x).map fun t=>.bool (!t))
theorem a3M {d:PyData} {t:Bool} (h:mS d=some t):d=.bool t:=by
 cases d<;>first | (cases h;done) | (cases (Option.some.inj h);rfl)
noncomputable def andT (f g:TF):TF:=fun ρ=>bnd (f ρ) fun t=>if t then g ρ else some (.ok false)
noncomputable def orT (f g:TF):TF:=fun ρ=>bnd (f ρ) fun t=>if t then some (.ok true) else g ρ
theorem xQ (ha:DT X a ft):DW X (.BoolOp .Or [a] pos) ft:=⟨pw_or1 ha.run⟩
theorem a3m (ha:DT X a ft) (hb:DW X (.BoolOp .Or (b::rest) pos) fu):DW X (.BoolOp .Or (a::b::rest) pos) (orT ft fu):=
 ⟨fun wh pins s σ H Q I ⟨ρ,r,H0,G₀,G,e,R,q⟩=>pw_or ha.run hb.run wh pins s σ H Q I (bT R e q.x fun t G1 H1 g1 R1 e1=>by
  cases t with
  | true=>rw [if_pos rfl] at e1 ⊢;cases (Option.some.inj e1);exact q _ _ g1
  | false=>rw [if_neg (by decide)] at e1 ⊢;exact ⟨ρ,r,H0,G₀,G1,e1,R1,q.more g1⟩)⟩
theorem DW.dt (h:DW X e ft):DT X e ft:=⟨h.run _⟩
noncomputable def a5T (f g:EF):EF:=fun ρ=>bnd (f ρ) fun x=>bnd (lft (mS x)) fun t=>if t then g ρ else some (.ok (.bool false))
noncomputable def orE (f g:EF):EF:=fun ρ=>bnd (f ρ) fun x=>bnd (lft (mS x)) fun t=>if t then some (.ok (.bool true)) else g ρ
theorem de_one {op} (ha:DE X a fa):DE X (.BoolOp op [a] pos) fa:=⟨pe_one ha.run⟩
theorem de_and (ha:DE X a fa) (hb:DE X (.BoolOp .And (b::rest) pos) fb):DE X (.BoolOp .And (a::b::rest) pos) (a5T fa fb):=
 ⟨fun pins s σ H Q I ⟨ρ,r,H0,G₀,G,e,R,q⟩=>pe_and ha.run hb.run pins s σ H Q I (bE R e q.x fun x v G1 H1 g1 R1 rv e1=>by
  rcases cQ e1 with ⟨t,et,e2⟩ | ⟨c,et,_⟩
  ·obtain ⟨t',et',z⟩:=bI et
   cases z
   cases a3M et'
   cases rv
   refine ⟨t,rfl,?_⟩
   cases t with
   | true=>rw [if_pos rfl] at e2 ⊢;exact ⟨ρ,r,H0,G₀,G1,e2,R1,q.more g1⟩
   | false=>rw [if_neg (by decide)] at e2 ⊢;cases (Option.some.inj e2);exact q _ _ _ g1 (.bool _)
  ·obtain ⟨_,_,z⟩:=bI et;cases z)⟩
noncomputable def ifE (f:TF) (fa fb:EF):EF:=fun ρ=>bnd (f ρ) fun t=>if t then fa ρ else fb ρ
noncomputable def ixD (x i:PyData):Option PyData:=match x,i with
 | .tuple ds,.int k=>atI ds k
 | .list ds,.int k=>atI ds k
 | .str z,.int k=>if dB z.length then (atI z.cps.toList k).map fun c=>.str ⟨#[c]⟩ else none
 | _,_=>none
theorem a5k {K:PySem.W.Frag} {G H:Hp} {v u:V} {x i d:PyData} {Q:VK} (s:aS G H) (rv:Rep K G v x) (ru:Rep K G u i) (h:ixD x i=some d) (q:∀ w,Rep K G w d→Q w H):rIx K v u H Q:=by
 cases ru with
 | int k=>
  cases rv with
  | tuple hq r=>
   obtain ⟨w,e,rw'⟩:=zY r (show atI _ k=some d from h)
   exact .inr (.inl ⟨_,_,_,w,rfl,rfl,iC s hq,e,q w rw'⟩)
  | list hq r=>
   obtain ⟨w,e,rw'⟩:=zY r (show atI _ k=some d from h)
   exact .inl ⟨_,_,_,w,rfl,rfl,s.seq hq,e,q w rw'⟩
  | str z=>
   have h:(if dB z.length=true then (atI z.cps.toList k).map fun c=>PyData.str ⟨#[c]⟩ else none)=some d:=h
   split at h
   ·rename_i hz
    obtain ⟨c,ec,rfl⟩:=Option.map_eq_some_iff.mp h
    exact .inr (.inr ⟨_,_,c,rfl,rfl,fJ hz,ec,q _ (.str _)⟩)
   ·cases h
  | none=>cases h
  | bool b=>cases h
  | int j=>cases h
  | dict _ _ _=>cases h
 | none=>cases rv<;>cases h
 | bool b=>cases rv<;>cases h
 | str b=>cases rv<;>cases h
 | list _ _=>cases rv<;>cases h
 | tuple _ _=>cases rv<;>cases h
 | dict _ _ _=>cases rv<;>cases h
theorem bD (ha:DE X a fa) (hb:DE X b fb) (hs:uD b:=by exact fun _ _=>rfl):DE X (.Subscript a b pos) (op2 ixD fa fb):=
 ⟨fun pins s σ H Q I ⟨ρ,r,H0,G₀,G,e,R,q⟩=>a6f ix_seq ha.run hb.run hs pins s σ H Q I (bE R e q.x fun x v G1 H1 g1 R1 rv e1=>bE R1 e1 (q.more g1).x fun y u G2 H2 g2 R2 ru e2=>by
  obtain ⟨d,ed,rfl⟩:=bI e2
  exact a5k g2.sub (rv.mono g2.gg) ru ed fun w rw'=>q w _ _ (g1.trans g2) rw')⟩
structure CallD (X:Cx) (f:Value) (ds:List PyData) (d:PyData):Prop where
 ex:∃ r:List V→Hp→VK→Prop,dP X f r∧∀ vs G H Q,aS G H→RepAll X.K G vs ds→(∀ w G' H',Grow G H G' H'→Rep X.K G' w d→Q w H')→r vs H Q
theorem rM {f:Value}:dP X f (fun vs H Q=>∃ r,dP X f r∧r vs H Q):=fun pins s σ H vs us Q I rx ⟨_,h,q⟩=>h pins s σ H vs us Q I rx q
noncomputable def fF (g:List PyData→Option PyData) (fa:AF):EF:=fun ρ=>bnd (fa ρ) fun xs=>lft (g xs)
theorem eA {id:String} {x:Str} {g:List PyData→Option PyData} {f:AF} (hd:∀ ds d,g ds=some d→CallD X (.builtin id) ds d) (hm:X.mg x=none) (hv:bootBuiltins x=some (.builtin id)) (ha:DA X (e::es) f) (hg:Gl X x:=by rfl)
  (hn:x ≠ "__name__":=by decide) (hdb:(x==("__debug__" : Str))=false:=by decide)
  (he:starEach (e::es) X.env=(false,eval e X.env)::starEach es X.env:=by rfl) (hpl:(backTo pos (starEach es X.env)).any (·.1)=false:=by rfl):DE X (.Call (.Name x p) (e::es) [] pos) (fF g f):=
 ⟨fun pins s σ H Q I ⟨ρ,r,H0,G₀,G,e,R,q⟩=>oJ rM hg hm hv ha.run hn hdb he hpl pins s σ H Q I (bA R e q.x fun xs vs G1 H1 g1 R1 rv e1=>by
  obtain ⟨d,ed,rfl⟩:=bI e1
  obtain ⟨r,h1,h2⟩:=(hd xs d ed).ex
  exact ⟨r,h1,h2 vs G1 H1 Q g1.sub rv fun w G' H' g' rw'=>q w G' H' (g1.trans g') rw'⟩)⟩
theorem jI {T:String} {x:Str} {g:List PyData→Option PyData} {f:AF} (hd:∀ ds d,g ds=some d→CallD X (.type T) ds d) (hm:X.mg x=none) (hv:bootBuiltins x=some (.type T)) (ha:DA X (e::es) f) (hg:Gl X x:=by rfl)
  (hn:x ≠ "__name__":=by decide) (hdb:(x==("__debug__" : Str))=false:=by decide)
  (he:starEach (e::es) X.env=(false,eval e X.env)::starEach es X.env:=by rfl) (hpl:(backTo pos (starEach es X.env)).any (·.1)=false:=by rfl):DE X (.Call (.Name x p) (e::es) [] pos) (fF g f):=
 ⟨fun pins s σ H Q I ⟨ρ,r,H0,G₀,G,e,R,q⟩=>lR rM hg hm hv ha.run hn hdb he hpl pins s σ H Q I (bA R e q.x fun xs vs G1 H1 g1 R1 rv e1=>by
  obtain ⟨d,ed,rfl⟩:=bI e1
  obtain ⟨r,h1,h2⟩:=(hd xs d ed).ex
  exact ⟨r,h1,h2 vs G1 H1 Q g1.sub rv fun w G' H' g' rw'=>q w G' H' (g1.trans g') rw'⟩)⟩
noncomputable def gF:Ent→Ent
 | .lst ds=>.val (.list ds)
 | .dct kvs=>.val (.dict (kvs.map fun p=>(cE p.1,p.2)))
 | e=>e
noncomputable def frzAll (ρ:List Ent):List Ent:=ρ.map gF
noncomputable def kA:PyData→Bool
 | .none=>true
 | .bool _=>true
 | .int _=>true
 | .str _=>true
 | _=>false
theorem Rep.plain {K:PySem.W.Frag} {G G':Hp} {v:V} {d:PyData} (h:kA d=true) (r:Rep K G v d):Rep K G' v d:=by
 cases r with
 | none=>exact .none
 | bool b=>exact .bool b
 | int i=>exact .int i
 | str x=>exact .str x
 | list _ _=>cases h
 | tuple _ _=>cases h
 | dict _ _ _=>cases h
end
end L2.L3
namespace L2.L3
open PySem PySem.Spec PyProof.Rows
section
variable {K:PySem.W.Frag} {H0 G₀ G H:Hp} {σ:St} {ρ:List Ent}
theorem a3a (ρ:List Ent) (n:Nat):(∃ e,ρ[n]?=some e∧(ρ.take (n+1)).map gF++ρ.drop (n+1)=((ρ.take n).map gF++ρ.drop n).set n (gF e))∨(ρ[n]?=none∧(ρ.take (n+1)).map gF++ρ.drop (n+1)=(ρ.take n).map gF++ρ.drop n):=by
 by_cases hn:n<ρ.length
 ·refine .inl ⟨ρ[n],by simp [hn],?_⟩
  apply List.ext_getElem?
  intro j
  rw [List.getElem?_set]
  by_cases hj:j<n
  ·rw [if_neg (by omega),List.getElem?_append_left (by simp;omega),List.getElem?_append_left (by simp;omega),List.getElem?_map,List.getElem?_map,List.getElem?_take_of_lt (by omega),List.getElem?_take_of_lt (by omega)]
  ·by_cases hj2:j=n
   ·subst hj2
    rw [if_pos rfl,if_pos (by simp;omega),List.getElem?_append_left (by simp;omega),List.getElem?_map,List.getElem?_take_of_lt (by omega)]
    simp [hn]
   ·rw [if_neg (by omega),List.getElem?_append_right (by simp;omega),List.getElem?_append_right (by simp;omega),List.getElem?_drop,List.getElem?_drop]
    simp only [List.length_map,List.length_take]
    congr 1
    omega
 ·refine .inr ⟨by simp;omega,?_⟩
  rw [List.take_of_length_le (by omega),List.take_of_length_le (by omega),List.drop_of_length_le (by omega),List.drop_of_length_le (by omega)]
theorem RepS.frzTo (R:RepS K H0 G₀ G H σ ρ):∀ n:Nat,∃ G',aS G G'∧RepS K H0 G₀ G' H σ ((ρ.take n).map gF++ρ.drop n)
 | 0=>⟨G,.refl _,by simpa using R⟩
 | n+1=>by
  obtain ⟨G1,s1,R1⟩:=R.frzTo n
  rcases a3a ρ n with ⟨e,he,eq⟩ | ⟨_,eq⟩
  ·have hn:n<ρ.length:=(List.getElem?_eq_some_iff.mp he).1
   have at':((ρ.take n).map gF++ρ.drop n)[n]?=some e:=by
    rw [List.getElem?_append_right (by simp;omega),List.getElem?_drop]
    simp only [List.length_map,List.length_take]
    rw [show n+(n - min n ρ.length)=n by omega]
    exact he
   rw [eq]
   cases e with
   | lst ds=>
    obtain ⟨G2,s2,R2⟩:=R1.freeze at'
    exact ⟨G2,s1.trans s2,R2⟩
   | dct kvs=>
    obtain ⟨G2,s2,R2⟩:=R1.freezeD at'
    exact ⟨G2,s1.trans s2,R2⟩
   | val d=>
    refine ⟨G1,s1,?_⟩
    have:((ρ.take n).map gF++ρ.drop n).set n (gF (.val d))=(ρ.take n).map gF++ρ.drop n:=by
     apply List.ext_getElem?
     intro j
     rw [List.getElem?_set]
     split
     ·rename_i h;subst h
      rw [at']
      have:=(List.getElem?_eq_some_iff.mp at').1
      rw [if_pos this];rfl
     ·rfl
    rw [this];exact R1
   | no=>
    refine ⟨G1,s1,?_⟩
    have:((ρ.take n).map gF++ρ.drop n).set n (gF .no)=(ρ.take n).map gF++ρ.drop n:=by
     apply List.ext_getElem?
     intro j
     rw [List.getElem?_set]
     split
     ·rename_i h;subst h
      rw [at']
      have:=(List.getElem?_eq_some_iff.mp at').1
      rw [if_pos this];rfl
     ·rfl
    rw [this];exact R1
   | exc c=>
    refine ⟨G1,s1,?_⟩
    have:((ρ.take n).map gF++ρ.drop n).set n (gF (.exc c))=(ρ.take n).map gF++ρ.drop n:=by
     apply List.ext_getElem?
     intro j
     rw [List.getElem?_set]
     split
     ·rename_i h;subst h
      rw [at']
      have:=(List.getElem?_eq_some_iff.mp at').1
      rw [if_pos this];rfl
     ·rfl
    rw [this];exact R1
   | nst dss=>
    refine ⟨G1,s1,?_⟩
    have:((ρ.take n).map gF++ρ.drop n).set n (gF (.nst dss))=(ρ.take n).map gF++ρ.drop n:=by
     apply List.ext_getElem?
     intro j
     rw [List.getElem?_set]
     split
     ·rename_i h;subst h
      rw [at']
      have:=(List.getElem?_eq_some_iff.mp at').1
      rw [if_pos this];rfl
     ·rfl
    rw [this];exact R1
  ·rw [eq];exact ⟨G1,s1,R1⟩
theorem RepS.frzAll (R:RepS K H0 G₀ G H σ ρ):∃ G',aS G G'∧RepS K H0 G₀ G' H σ (frzAll ρ):=by
 obtain ⟨G',s,R'⟩:=R.frzTo ρ.length
 refine ⟨G',s,?_⟩
 have:(ρ.take ρ.length).map gF++ρ.drop ρ.length=L3.frzAll ρ:=by simp [L3.frzAll]
 rw [this] at R'
 exact R'
end
section
variable {X:Cx} {e a b c:Expr} {es rest:List Expr} {pos p:Pos} {fa fb fc:EF} {ft fu:TF}
noncomputable def thT (f:TF):TF:=fun ρ=>match f (frzAll ρ) with
 | some (.ok b)=>some (.ok b)
 | _=>none
theorem a3n (h:DT X e ft):DT X e (thT ft):=⟨fun pins s σ H Q I ⟨ρ,r,H0,G₀,G,ef,R,q⟩=>by
 unfold thT at ef
 split at ef
 ·rename_i b eb
  cases (Option.some.inj ef)
  obtain ⟨G',s',R'⟩:=R.frzAll
  exact h.run pins s σ H Q I ⟨_,_,H0,G₀,G',eb,R',fun G2 H2 g2=>q G H2 ⟨.refl _,g2.hh,s'.trans (g2.gg.trans g2.sub),fun _ z _=>z,id⟩⟩
 ·cases ef⟩
end
inductive So where
 | nx (ρ:List Ent)
 | rt (d:PyData)
 | bk (ρ:List Ent)
 | ct (ρ:List Ent)
 | xc (c:Str) (ρ:List Ent)
noncomputable abbrev SF:=List Ent→Option So
noncomputable def bns {α:Type} (m:Mm α) (ρ:List Ent) (k:α→Option So):Option So:=match m with
 | some (.ok a)=>k a
 | some (.ex c)=>some (.xc c ρ)
 | none=>none
theorem gW {α:Type} {m:Mm α} {ρ:List Ent} {k:α→Option So} {r:So} (h:bns m ρ k=some r):(∃ a,m=some (.ok a)∧k a=some r)∨∃ c,m=some (.ex c)∧r=.xc c ρ:=by
 match m,h with
 | some (.ok a),h=>exact .inl ⟨a,rfl,h⟩
 | some (.ex c),h=>exact .inr ⟨c,rfl,(Option.some.inj h).symm⟩
 | none,h=>cases h
noncomputable def mG (X:Cx) (H0 G₀ G:Hp) (D:Ends):So→Prop
 | .nx ρ=>∀ G' H' σ',aS G G'→RepS X.K H0 G₀ G' H' σ' ρ→D.nx σ' H'
 | .rt d=>∀ v G' H',aS G G'→Grow G₀ H0 G' H'→Rep X.K G' v d→D.rt v H'
 | .bk ρ=>∀ G' H' σ',aS G G'→RepS X.K H0 G₀ G' H' σ' ρ→D.bk σ' H'
 | .ct ρ=>∀ G' H' σ',aS G G'→RepS X.K H0 G₀ G' H' σ' ρ→D.ct σ' H'
 | .xc c ρ=>gM X H0 G₀ G ρ c
theorem mG.mono {X:Cx} {H0 G₀ G G':Hp} {D:Ends} {o:So} (h:mG X H0 G₀ G D o) (s:aS G G'):mG X H0 G₀ G' D o:=by
 cases o with
 | nx ρ=>exact fun G2 H' σ' s2 R=>h G2 H' σ' (s.trans s2) R
 | rt d=>exact fun v G2 H' s2 g r=>h v G2 H' (s.trans s2) g r
 | bk ρ=>exact fun G2 H' σ' s2 R=>h G2 H' σ' (s.trans s2) R
 | ct ρ=>exact fun G2 H' σ' s2 R=>h G2 H' σ' (s.trans s2) R
 | xc c ρ=>exact gM.mono h s
noncomputable def rS (X:Cx) (f:SF):TS:=fun D σ H=>∃ ρ o H0 G₀ G,f ρ=some o∧RepS X.K H0 G₀ G H σ ρ∧mG X H0 G₀ G D o
structure DS (X:Cx) (st:Stmt) (f:SF):Prop where
 run:PS X st (rS X f)
structure DB (X:Cx) (sts:List Stmt) (f:SF):Prop where
 run:PSs X sts (rS X f)
section
variable {X:Cx} {H0 G₀ G H:Hp} {ρ:List Ent} {σ:St} {D:Ends} {o:So}
theorem sE {fa:EF} {k:PyData→Option So} (R:RepS X.K H0 G₀ G H σ ρ) (e:bns (fa ρ) ρ k=some o) (q:mG X H0 G₀ G D o) {T:VK}
  (h:∀ x v G1 H1,Grow G H G1 H1→RepS X.K H0 G₀ G1 H1 σ ρ→Rep X.K G1 v x→k x=some o→mG X H0 G₀ G1 D o→T v H1):rE X fa σ H T:=by
 rcases gW e with ⟨x,e1,e2⟩ | ⟨c,e1,e2⟩
 ·exact ⟨ρ,_,H0,G₀,G,e1,R,fun v G1 H1 g1 rv=>h x v G1 H1 g1 (R.more g1) rv e2 (q.mono g1.gg)⟩
 ·subst e2;exact ⟨ρ,_,H0,G₀,G,e1,R,q⟩
theorem sA {fa:AF} {k:List PyData→Option So} (R:RepS X.K H0 G₀ G H σ ρ) (e:bns (fa ρ) ρ k=some o) (q:mG X H0 G₀ G D o) {T:List V→Hp→Prop}
  (h:∀ x v G1 H1,Grow G H G1 H1→RepS X.K H0 G₀ G1 H1 σ ρ→RepAll X.K G1 v x→k x=some o→mG X H0 G₀ G1 D o→T v H1):rA X fa σ H T:=by
 rcases gW e with ⟨x,e1,e2⟩ | ⟨c,e1,e2⟩
 ·exact ⟨ρ,_,H0,G₀,G,e1,R,fun v G1 H1 g1 rv=>h x v G1 H1 g1 (R.more g1) rv e2 (q.mono g1.gg)⟩
 ·subst e2;exact ⟨ρ,_,H0,G₀,G,e1,R,q⟩
theorem sT {fa:TF} {k:Bool→Option So} (R:RepS X.K H0 G₀ G H σ ρ) (e:bns (fa ρ) ρ k=some o) (q:mG X H0 G₀ G D o) {T:Bool→Hp→Prop}
  (h:∀ x G1 H1,Grow G H G1 H1→RepS X.K H0 G₀ G1 H1 σ ρ→k x=some o→mG X H0 G₀ G1 D o→T x H1):rT X fa σ H T:=by
 rcases gW e with ⟨x,e1,e2⟩ | ⟨c,e1,e2⟩
 ·exact ⟨ρ,_,H0,G₀,G,e1,R,fun G1 H1 g1=>h x G1 H1 g1 (R.more g1) e2 (q.mono g1.gg)⟩
 ·subst e2;exact ⟨ρ,_,H0,G₀,G,e1,R,q⟩
end
section
variable {X:Cx} {st:Stmt} {rest:List Stmt} {f g:SF} {fa fb:EF} {ft:TF} {e c b:Expr} {pos:Pos}
noncomputable def iQ:SF:=fun ρ=>some (.nx ρ)
noncomputable def bL (f g:SF):SF:=fun ρ=>match f ρ with
 | some (.nx ρ')=>g ρ'
 | r=>r
theorem dI:DB X [] iQ:=⟨fun pins s σ H D I ⟨ρ,o,H0,G₀,G,e,R,q⟩=>yR pins s σ H D I (by cases (Option.some.inj e);exact q G H σ (.refl _) R)⟩
theorem aK (h1:DS X st f) (h2:DB X rest g):DB X (st::rest) (bL f g):=⟨fun pins s σ H D I ⟨ρ,o,H0,G₀,G,e,R,q⟩=>by
 unfold bL at e
 split at e
 ·rename_i ρ' e1
  refine wpAny_execs_cons (thn (h1.run pins s σ H { D with nx:=fun σ' H'=>rS X g D σ' H' } I ⟨ρ,_,H0,G₀,G,e1,R,fun G' H' σ' s' R'=>⟨ρ',o,H0,G₀,G',e,R',q.mono s'⟩⟩) fun fl s1 z=>?_)
  cases fl with
  | next=>obtain ⟨σ',H',I',z⟩:=z;exact h2.run pins s1 σ' H' D I' z
  | ret v=>exact z
  | brk=>exact z
  | cont=>exact z
 ·rename_i z
  have hn:∀ ρ',o≠.nx ρ':=fun ρ' w=>z ρ' (by rw [e,w])
  have q':mG X H0 G₀ G { D with nx:=fun _ _=>False } o:=by
   cases o with
   | nx ρ'=>exact absurd rfl (hn ρ')
   | rt d=>exact q
   | bk ρ'=>exact q
   | ct ρ'=>exact q
   | xc c ρ'=>exact q
  refine wpAny_execs_cons (thn (h1.run pins s σ H { D with nx:=fun _ _=>False } I ⟨ρ,o,H0,G₀,G,e,R,q'⟩) fun fl s1 z=>?_)
  cases fl with
  | next=>obtain ⟨_,_,_,z⟩:=z;exact z.elim
  | ret v=>exact z
  | brk=>exact z
  | cont=>exact z⟩
theorem aU (h:DS X st f):DB X [st] f:=⟨yQ h.run⟩
noncomputable def pU (i:Nat) (f:SF):SF:=fun ρ=>match ρ[i]? with
 | some (.lst ds)=>f (ρ.set i (.val (.list ds)))
 | some (.dct kvs)=>f (ρ.set i (.val (.dict (kvs.map fun p=>(cE p.1,p.2)))))
 | _=>f ρ
theorem pH (i:Nat) (h:DB X rest f):DB X rest (pU i f):=⟨fun pins s σ H D I ⟨ρ,o,H0,G₀,G,e,R,q⟩=>by
 unfold pU at e
 split at e
 ·rename_i ds hi
  obtain ⟨G',s',R'⟩:=R.freeze hi
  exact h.run pins s σ H D I ⟨_,o,H0,G₀,G',e,R',q.mono s'⟩
 ·rename_i kvs hi
  obtain ⟨G',s',R'⟩:=R.freezeD hi
  exact h.run pins s σ H D I ⟨_,o,H0,G₀,G',e,R',q.mono s'⟩
 ·exact h.run pins s σ H D I ⟨ρ,o,H0,G₀,G,e,R,q⟩⟩
noncomputable def retS (fa:EF):SF:=fun ρ=>bns (fa ρ) ρ fun d=>some (.rt d)
theorem bJ (h:DE X e fa):DS X (.Return (some e) pos) (retS fa):=⟨fun pins s σ H D I ⟨ρ,o,H0,G₀,G,e,R,q⟩=>ps_ret h.run pins s σ H D I (sE R e q fun x v G1 H1 g1 R1 rv e1 q1=>by
 cases (Option.some.inj e1);exact q1 v G1 H1 (.refl _) R1.grow rv)⟩
noncomputable def exprS (fa:EF):SF:=fun ρ=>bns (fa ρ) ρ fun _=>some (.nx ρ)
noncomputable def ifS (ft:TF) (f g:SF):SF:=fun ρ=>bns (ft ρ) ρ fun t=>if t then f ρ else g ρ
theorem fU {x y:List Stmt} (hc:DT X c ft) (ha:DB X x f) (hb:DB X y g):DS X (.If c x y pos) (ifS ft f g):=⟨fun pins s σ H D I ⟨ρ,o,H0,G₀,G,e,R,q⟩=>ps_if hc.run ha.run hb.run pins s σ H D I (sT R e q fun t G1 H1 g1 R1 e1 q1=>by
 cases t with
 | true=>rw [if_pos rfl] at e1 ⊢;exact ⟨ρ,o,H0,G₀,G1,e1,R1,q1⟩
 | false=>rw [if_neg (by decide)] at e1 ⊢;exact ⟨ρ,o,H0,G₀,G1,e1,R1,q1⟩)⟩
noncomputable def iB (i:Nat) (fa:EF):SF:=fun ρ=>bns (fa ρ) ρ fun d=>some (.nx (ρ.set i (.val d)))
theorem eG (i:Nat) {x:Str} {p:Pos} (hN:X.N.Nodup) (h:DE X e fa) (hi:X.N[i]?=some x:=by rfl) (hx:Loc X.env.scope x:=by first | exact Or.inl rfl | exact Or.inr rfl)
  (hs:swapsWith e (some (.Name x p)) pos.line X.env=pure false:=by rfl) (hf:X.fn x=true∨X.env.scope.names.lookup x=some .local:=by first | exact .inl rfl | exact .inr rfl) :
  DS X (.Assign [.Name x p] e pos) (iB i fa):=⟨fun pins s σ H D I ⟨ρ,o,H0,G₀,G,e,R,q⟩=>oH hN hi hx h.run hs hf pins s σ H D I (sE R e q fun x v G1 H1 g1 R1 rv e1 q1=>by
 cases (Option.some.inj e1);exact q1 G1 H1 _ (.refl _) (R1.set rv))⟩
noncomputable def wZ (i:Nat) (f:AF):SF:=fun ρ=>bns (f ρ) ρ fun ds=>if dB ds.length then some (.nx (ρ.set i (.lst ds))) else none
theorem tQ (i:Nat) {x:Str} {p p2:Pos} {es:List Expr} {f:AF} (hN:X.N.Nodup) (h:DA X es f) (hi:X.N[i]?=some x:=by rfl) (hx:Loc X.env.scope x:=by first | exact Or.inl rfl | exact Or.inr rfl)
  (hs:swapsWith (.List es p2) (some (.Name x p)) pos.line X.env=pure false:=by rfl) (hf:X.fn x=true∨X.env.scope.names.lookup x=some .local:=by first | exact .inl rfl | exact .inr rfl) :
  DS X (.Assign [.Name x p] (.List es p2) pos) (wZ i f):=⟨fun pins s σ H D I ⟨ρ,o,H0,G₀,G,e,R,q⟩=>oH hN hi hx (a1W h.run) hs hf pins s σ H D I (sA R e q fun ds vs G1 H1 g1 R1 rv e1 q1=>by
 split at e1
 ·rename_i hz
  cases (Option.some.inj e1)
  exact ⟨by rw [rv.length];exact fJ hz,fun a ha=>q1 G1 _ _ (.refl _) (R1.fresh ha rv)⟩
 ·cases e1)⟩
noncomputable def uC (i:Nat) (fa:EF):SF:=fun ρ=>match ρ[i]? with
 | some (.lst ds)=>bns (fa ρ) ρ fun d=>if dB ds.length then some (.nx (ρ.set i (.lst (ds++[d])))) else none
 | _=>none
theorem xU (i:Nat) {x:Str} {p ap cp:Pos} (h:DE X e fa) (hN:X.N[i]?=some x:=by rfl)
  (hv:Vis X.env.scope x:=by first | exact Or.inl rfl | exact Or.inr (Or.inl rfl) | exact Or.inr (Or.inr rfl)) (hd:(x==("__debug__" : Str))=false:=by decide) (hcd:(x==("__classdict__" : Str))=false:=by decide)
  (hbase:attributeBase (.Name x p) "append" X.env (eval (.Name x p) X.env)=eval (.Name x p) X.env:=by rfl)
  (hfew:((backTo cp (starEach (e::[]) X.env)).all (fun x=>!x.1)&&(backToKw cp (keywordEach [] X.env)).all (fun x=>x.1.isSome)&&decide ((e::[]).length+([]:List Keyword).length+(if ([]:List Keyword).isEmpty then 0 else 1)<30))=true:=by rfl)
  (hline:(ap.endLine==cp.line)=true:=by rfl) (hst:starEach (e::[]) X.env=(false,eval e X.env)::starEach [] X.env:=by rfl) (hplain:(backTo cp (starEach [] X.env)).any (·.1)=false:=by rfl)
  (hsw:swapsWith (.Call (.Attribute (.Name x p) "append" ap) [e] [] cp) none pos.line X.env=pure false:=by rfl) :
  DS X (.Expr (.Call (.Attribute (.Name x p) "append" ap) [e] [] cp) pos) (uC i fa):=⟨fun pins s σ H D I ⟨ρ,o,H0,G₀,G,ef,R,q⟩=>
 yT (a1X PySem.F.plainAttrs_list PySem.F.slot_list_append PySem.F.type_list_append qP (eF hN hv hd hcd) (dR h.run iZ hst) hbase hfew hline hst hplain) hsw pins s σ H D I (by
  unfold uC at ef
  split at ef
  ·rename_i ds hi
   obtain ⟨a,xs,e1,h1,h2,h3,r⟩:=R.own hi
   refine ⟨.ref a,e1,.inl ⟨rfl,xs,.of h1⟩,sE R ef q fun d v G1 H1 g1 R1 rv e2 q1=>?_⟩
   split at e2
   ·rename_i hz
    cases (Option.some.inj e2)
    exact ⟨a,xs,v,rfl,rfl,g1.hh.lst h1,by rw [r.length];exact a6c hz,q1 G1 _ σ (.refl _) (R1.wrote hi e1 ((r.mono g1.gg).append (.cons rv .nil)))⟩
   ·cases e2
  ·cases ef)⟩
end
end L2.L3
namespace L2.L3
open PySem PySem.Spec PyProof.Rows
section
variable {X:Cx} {st:Stmt} {rest:List Stmt} {f g:SF} {fa fb:EF} {ft:TF} {e c b:Expr} {pos p:Pos}
inductive Tg where
 | nm (i:Nat)
 | tp (is:List Nat)
 | nn (i:Nat) (js:List Nat)
noncomputable def iV:List Ent→List Nat→List PyData→List Ent
 | ρ,i::is,d::ds=>iV (ρ.set i (.val d)) is ds
 | ρ,_,_=>ρ
noncomputable def tgD (t:Tg) (ρ:List Ent) (d:PyData):Option (List Ent):=match t,d with
 | .nm i,d=>some (ρ.set i (.val d))
 | .tp is,.tuple ds=>if is.length=ds.length then some (iV ρ is ds) else none
 | .nn i js,.tuple [d,.tuple ds]=>if js.length=ds.length then some (iV (ρ.set i (.val d)) js ds) else none
 | _,_=>none
structure DG (X:Cx) (tg:Expr) (t:Tg):Prop where
 run:∀ ρ d ρ',tgD t ρ d=some ρ'→PGD X tg ρ d ρ'
structure DGs (X:Cx) (ts:List Expr) (is:List Nat):Prop where
 run:∀ ρ ds,is.length=ds.length→PGsD X ts ρ ds (iV ρ is ds)
theorem dH (i:Nat) {x:Str} (hN:X.N.Nodup) (hi:X.N[i]?=some x:=by rfl) (hx:Loc X.env.scope x:=by first | exact Or.inl rfl | exact Or.inr rfl) (hf:X.fn x=true∨X.env.scope.names.lookup x=some .local:=by first | exact .inl rfl | exact .inr rfl) :
  DG X (.Name x pos) (.nm i):=⟨fun ρ d ρ' h=>by cases (Option.some.inj h);exact uO i hN hi hx hf⟩
theorem kT:DGs X [] []:=⟨fun ρ ds h=>by
 cases ds with
 | nil=>exact a1R
 | cons _ _=>cases h⟩
theorem cG (i:Nat) {x:Str} {es:List Expr} {is:List Nat} (hN:X.N.Nodup) (h:DGs X es is) (hi:X.N[i]?=some x:=by rfl) (hx:Loc X.env.scope x:=by first | exact Or.inl rfl | exact Or.inr rfl)
  (hf:X.fn x=true∨X.env.scope.names.lookup x=some .local:=by first | exact .inl rfl | exact .inr rfl)
  (hs:(assignEach (.Name x pos::es) X.env).map (·.2)=assign (.Name x pos) X.env::(assignEach es X.env).map (·.2):=by rfl):DGs X (.Name x pos::es) (i::is):=⟨fun ρ ds hl=>by
 cases ds with
 | nil=>cases hl
 | cons d ds=>exact a0w (uO i hN hi hx hf) (h.run _ ds (by simpa using hl)) hs⟩
theorem pF {es:List Expr} {is:List Nat} {k:Nat} (hc:X.calm=true) (h:DGs X es is) (hn:(assignEach es X.env).length=is.length:=by rfl) (hst:(assignEach es X.env).findIdx? (·.1)=none:=by rfl):DG X (.Tuple es k pos) (.tp is):=⟨fun ρ d ρ' hq=>by
 cases d with
 | tuple ds=>
  have hq:(if is.length=ds.length then some (iV ρ is ds) else none)=some ρ':=hq
  split at hq
  ·rename_i hl
   cases (Option.some.inj hq)
   exact a4A hc (h.run ρ ds hl) (hn.trans hl) hst
  ·cases hq
 | none=>cases hq
 | bool _=>cases hq
 | int _=>cases hq
 | str _=>cases hq
 | list _=>cases hq
 | dict _=>cases hq⟩
theorem tgD_nn {i:Nat} {js:List Nat} {ρ ρ':List Ent} {d:PyData} (h:tgD (.nn i js) ρ d=some ρ'):∃ a ds,d=.tuple [a,.tuple ds]∧js.length=ds.length∧ρ'=iV (ρ.set i (.val a)) js ds:=by
 unfold tgD at h
 split at h
 ·rename_i e;cases e
 ·rename_i e;cases e
 ·rename_i i' js' a ds e
  cases e
  split at h
  ·rename_i hl;exact ⟨a,ds,rfl,hl,(Option.some.inj h).symm⟩
  ·cases h
 ·cases h
noncomputable def rG (X:Cx) (t:Tg):TG:=fun v σ H Q=>∃ ρ d ρ' H0 G₀ G,tgD t ρ d=some ρ'∧RepS X.K H0 G₀ G H σ ρ∧Rep X.K G v d∧∀ σ',RepS X.K H0 G₀ G H σ' ρ'→Q σ' H
theorem DG.pg {tg:Expr} {t:Tg} (h:DG X tg t):PG X tg (rG X t):=fun pins s σ H v u Q I r ⟨ρ,d,ρ',H0,G₀,G,e,R,rv,q⟩=>(h.run ρ d ρ' e).run pins s σ H v u Q I r ⟨H0,G₀,G,R,rv,q⟩
noncomputable def unpS (t:Tg) (fa:EF):SF:=fun ρ=>bns (fa ρ) ρ fun d=>(tgD t ρ d).map So.nx
theorem ds_unp {tg:Expr} {t:Tg} (h:DE X e fa) (hg:DG X tg t) (hs:swapsWithSole [tg] e pos.line X.env=pure false:=by rfl) (hw:swappedStores [tg] e X.env=pure none:=by rfl)
  (h1:(assignEach [tg] X.env).map (·.2)=[assign tg X.env]:=by rfl):DS X (.Assign [tg] e pos) (unpS t fa):=⟨fun pins s σ H D I ⟨ρ,o,H0,G₀,G,ef,R,q⟩=>
 ps_asg h.run hg.pg hs hw h1 pins s σ H D I (sE R ef q fun d v G1 H1 g1 R1 rv e1 q1=>by
  obtain ⟨ρ',e2,rfl⟩:=Option.map_eq_some_iff.mp e1
  exact ⟨ρ,d,ρ',H0,G₀,G1,e2,R1,rv,fun σ' R'=>q1 G1 H1 σ' (.refl _) R'⟩)⟩
noncomputable def EndI (X:Cx) (H0 G₀ G:Hp) (ρ:List Ent) (H:Hp) (R:It→Hp→Prop):Re (List PyData)→Prop
 | .ok ds=>∀ J G' H',Grow G H G' H'→Walk X.K J G' ds→R J H'
 | .ex c=>gM X H0 G₀ G ρ c
noncomputable def rIt (X:Cx) (f:AF):TI:=fun σ H R=>∃ ρ r H0 G₀ G,f ρ=some r∧RepS X.K H0 G₀ G H σ ρ∧EndI X H0 G₀ G ρ H R r
structure DI (X:Cx) (tg iter:Expr) (f:AF):Prop where
 run:PI X tg iter (rIt X f)
theorem DI.pid {tg iter:Expr} {f:AF} (h:DI X tg iter f) {ρ:List Ent} {ds:List PyData} (e:f ρ=some (.ok ds)):PID X tg iter ρ ds:=⟨fun pins s σ H R I ⟨H0,G₀,G,S,q⟩=>h.run pins s σ H R I ⟨ρ,_,H0,G₀,G,e,S,q⟩⟩
theorem di_of {tg iter:Expr} {f:AF} (h:∀ ρ r,f ρ=some r→∃ ds,r=.ok ds∧PID X tg iter ρ ds):DI X tg iter f:=⟨fun pins s σ H R I ⟨ρ,r,H0,G₀,G,e,S,q⟩=>by
 obtain ⟨ds,rfl,hp⟩:=h ρ r e
 exact hp.run pins s σ H R I ⟨H0,G₀,G,S,q⟩⟩
noncomputable def uL:PyData→Option (List PyData)
 | .list ds=>some ds
 | .tuple ds=>some ds
 | _=>none
noncomputable def iW (fa:EF):AF:=fun ρ=>bnd (fa ρ) fun x=>lft (uL x)
theorem iJ {tg iter:Expr} (h:DE X iter fa):DI X tg iter (iW fa):=⟨fun pins s σ H R I ⟨ρ,r,H0,G₀,G,e,S,q⟩=>by
 rcases cQ e with ⟨x,e1,e2⟩ | ⟨c,e1,e2⟩
 ·obtain ⟨ds,e3,rfl⟩:=bI e2
  cases x with
  | list es=>cases (Option.some.inj e3);exact (a1P (h.pd e1)).run pins s σ H R I ⟨H0,G₀,G,S,q⟩
  | tuple es=>cases (Option.some.inj e3);exact (a4x (h.pd e1)).run pins s σ H R I ⟨H0,G₀,G,S,q⟩
  | none=>cases e3
  | bool _=>cases e3
  | int _=>cases e3
  | str _=>cases e3
  | dict _=>cases e3
 ·subst e2
  exact sO h.run pins s σ H R I ⟨ρ,_,H0,G₀,G,e1,S,q⟩⟩
noncomputable def intD:PyData→Option Int
 | .int i=>some i
 | _=>none
theorem kN {d:PyData} {i:Int} (h:intD d=some i):d=.int i:=by
 cases d<;>first | (cases h;done) | (cases (Option.some.inj h);rfl)
noncomputable def zI (n:Int):Bool:=decide (-(2 ^ 62)≤n)&&decide (n<2 ^ 62)
theorem vH {n:Int} (h:zI n=true):-(2 ^ 62)≤n∧n<2 ^ 62:=by
 unfold zI at h
 rw [Bool.and_eq_true] at h
 exact ⟨of_decide_eq_true h.1,of_decide_eq_true h.2⟩
noncomputable def sL (fa:EF):AF:=fun ρ=>match fa ρ with
 | some (.ok (.int n))=>if zI n then some (.ok (jY 0 n.toNat)) else none
 | _=>none
theorem zN {tg a:Expr} (hm:X.mg "range" = none) (h:DE X a fa) (hs:starEach [a] X.env=[(false,eval a X.env)]:=by rfl) (hs':starEach [a] X.env=(false,eval a X.env)::starEach [] X.env:=by rfl) (hg:Gl X "range":=by rfl) :
  DI X tg (.Call (.Name "range" p) [a] [] pos) (sL fa):=di_of fun ρ r e=>by
 unfold sL at e
 split at e
 ·rename_i n en
  split at e
  ·rename_i hr
   exact ⟨_,(Option.some.inj e).symm,wW hm (h.pd en) (vH hr).1 (vH hr).2 hs hs' hg⟩
  ·cases e
 ·cases e
noncomputable def fR (t:Tg) (fb:SF):List PyData→List Ent→Option So
 | [],ρ=>some (.nx ρ)
 | d::ds,ρ=>match tgD t ρ d with
  | none=>none
  | some ρ1=>(match fb ρ1 with
   | some (.nx ρ2)=>fR t fb ds ρ2
   | some (.ct ρ2)=>fR t fb ds ρ2
   | some (.bk ρ2)=>some (.nx ρ2)
   | some (.rt d)=>some (.rt d)
   | some (.xc c ρ2)=>some (.xc c ρ2)
   | none=>none)
noncomputable def a3b (t:Tg) (fi:AF) (fb:SF):SF:=fun ρ=>bns (fi ρ) ρ fun ds=>fR t fb ds ρ
theorem xT {tg iter:Expr} {body:List Stmt} {t:Tg} {fi:AF} (hp:PassesOwn (model X.prog X.w) X.A X.env X.xe) (hc:X.calm=true) (hi:DI X tg iter fi) (hg:DG X tg t) (hb:DB X body g)
  (hs:∀ x,foldedSetIterable iter X.env x=pure x:=by intro _;rfl):DS X (.For tg iter body [] pos) (a3b t fi g):=⟨fun pins s σ H D I ⟨ρ,o,H0,G₀,G,ef,R,q⟩=>
 ps_for hp hc hi.run hg.pg hb.run hs pins s σ H D I (by
  rcases gW ef with ⟨ds,e1,e2⟩ | ⟨c,e1,e2⟩
  ·refine ⟨ρ,_,H0,G₀,G,e1,R,fun J G1 H1 g1 wk=>?_⟩
   refine ⟨fun i m σ' H'=>m=ds.length - i∧i≤ds.length∧∃ ρ' G',aS G1 G'∧RepS X.K H0 G₀ G' H' σ' ρ'∧fR t g (ds.drop i) ρ'=some o,⟨ds.length,by simp,Nat.zero_le _,ρ,G1,.refl _,R.more g1,by simpa using e2⟩,?_⟩
   rintro i m σ' H' ⟨rfl,hin,ρ',G',s',R',e'⟩
   obtain ⟨wgo,wstop⟩:=wk i G' H' s' R'.sub
   by_cases hlt:i<ds.length
   ·rw [List.drop_eq_getElem_cons hlt] at e'
    have hx:ds[i]?=some ds[i]:=List.getElem?_eq_getElem hlt
    refine .inr ⟨(wgo _ hx).1,fun σ2 H2=>∃ ρ2 G2,aS G1 G2∧RepS X.K H0 G₀ G2 H2 σ2 ρ2∧fR t g (ds.drop (i+1)) ρ2=some o,?_,fun x H2 y=>?_⟩
    ·rintro σ2 H2 ⟨ρ2,G2,s2,R2,e2⟩
     exact ⟨ds.length - (i+1),by omega,rfl,hlt,ρ2,G2,s2,R2,e2⟩
    ·obtain ⟨G2,g2,rx⟩:=(wgo _ hx).2 x H2 y
     unfold fR at e'
     split at e'
     ·cases e'
     ·rename_i ρ1 et
      refine ⟨ρ',ds[i],ρ1,H0,G₀,G2,et,R'.more g2,rx,fun σ3 R3=>?_⟩
      have sg:aS G1 G2:=s'.trans g2.gg
      split at e'
      ·rename_i ρ2 eb
       exact ⟨ρ1,_,H0,G₀,G2,eb,R3,fun G4 H4 σ4 s4 R4=>⟨ρ2,G4,sg.trans s4,R4,e'⟩⟩
      ·rename_i ρ2 eb
       exact ⟨ρ1,_,H0,G₀,G2,eb,R3,fun G4 H4 σ4 s4 R4=>⟨ρ2,G4,sg.trans s4,R4,e'⟩⟩
      ·rename_i ρ2 eb
       cases (Option.some.inj e')
       exact ⟨ρ1,_,H0,G₀,G2,eb,R3,fun G4 H4 σ4 s4 R4=>q G4 H4 σ4 (g1.gg.trans (sg.trans s4)) R4⟩
      ·rename_i d' eb
       cases (Option.some.inj e')
       exact ⟨ρ1,_,H0,G₀,G2,eb,R3,fun v G4 H4 s4 gr rv=>q v G4 H4 (g1.gg.trans (sg.trans s4)) gr rv⟩
      ·rename_i c' ρ2 eb
       cases (Option.some.inj e')
       exact ⟨ρ1,_,H0,G₀,G2,eb,R3,gM.mono q (g1.gg.trans sg)⟩
      ·cases e'
   ·have hi':i=ds.length:=by omega
    subst hi'
    rw [List.drop_length] at e'
    cases (Option.some.inj e')
    exact .inl ⟨wstop (Nat.le_refl _),q G' H' σ' (g1.gg.trans s') R'⟩
  ·subst e2
   exact ⟨ρ,_,H0,G₀,G,e1,R,q⟩)⟩
end
end L2.L3
namespace L2.L3
open PySem PySem.Spec PyProof.Rows
noncomputable def kJ (t:Tg) (ρb:List Ent) (ft:TF) (fe:EF):List PyData→Option (List PyData)
 | []=>some []
 | d::ds=>match tgD t ρb d with
  | none=>none
  | some ρx=>(match ft ρx with
   | some (.ok true)=>(match fe ρx with
    | some (.ok v)=>(kJ t ρb ft fe ds).map (v::·)
    | _=>none)
   | some (.ok false)=>kJ t ρb ft fe ds
   | _=>none)
noncomputable def dL (t:Tg) (cap:List (Option Nat)) (fi:AF) (ft:TF) (fe:EF):EF:=fun ρ=>bnd (fi ρ) fun ds=>if dB ds.length then lft ((kJ t (bK cap ρ) ft fe ds).map .list) else none
noncomputable def ttT:TF:=fun _=>some (.ok true)
noncomputable def cX (t:Tg) (ρb:List Ent) (d:PyData):List Ent:=(tgD t ρb d).getD []
noncomputable def cT (t:Tg) (ρb:List Ent) (ft:TF) (d:PyData):Bool:=match ft (cX t ρb d) with
 | some (.ok b)=>b
 | _=>false
noncomputable def cV (t:Tg) (ρb:List Ent) (fe:EF) (d:PyData):PyData:=match fe (cX t ρb d) with
 | some (.ok v)=>v
 | _=>.none
theorem gO {t:Tg} {ρb:List Ent} {ft:TF} {fe:EF}:∀ {ds es:List PyData},kJ t ρb ft fe ds=some es →
  (∀ d∈ds,tgD t ρb d=some (cX t ρb d)∧ft (cX t ρb d)=some (.ok (cT t ρb ft d))∧(cT t ρb ft d=true→fe (cX t ρb d)=some (.ok (cV t ρb fe d))))∧es=(ds.filter (cT t ρb ft)).map (cV t ρb fe)
 | [],es,h=>by
  cases (Option.some.inj h)
  exact ⟨fun _ z=>absurd z (by simp),rfl⟩
 | d::ds,es,h=>by
  unfold kJ at h
  split at h
  ·cases h
  ·rename_i ρx et
   have ex:cX t ρb d=ρx:=by unfold cX;rw [et];rfl
   split at h
   ·rename_i e1
    have e1':cT t ρb ft d=true:=by unfold cT;rw [ex,e1]
    split at h
    ·rename_i v ev
     obtain ⟨es',e3,rfl⟩:=Option.map_eq_some_iff.mp h
     obtain ⟨i1,i2⟩:=gO e3
     have evv:cV t ρb fe d=v:=by unfold cV;rw [ex,ev]
     refine ⟨fun d' hd=>?_,?_⟩
     ·rcases List.mem_cons.mp hd with rfl | hd
      ·rw [ex,e1',evv];exact ⟨et,e1,fun _=>ev⟩
      ·exact i1 d' hd
     ·rw [List.filter_cons_of_pos e1',List.map_cons,evv,i2]
    ·cases h
   ·rename_i e1
    have e1':cT t ρb ft d=false:=by unfold cT;rw [ex,e1]
    obtain ⟨i1,i2⟩:=gO h
    refine ⟨fun d' hd=>?_,?_⟩
    ·rcases List.mem_cons.mp hd with rfl | hd
     ·rw [ex,e1'];exact ⟨et,e1,fun z=>by cases z⟩
     ·exact i1 d' hd
    ·rw [List.filter_cons_of_neg (by rw [e1'];decide),i2]
   ·cases h
noncomputable def nO (cap:List (Option Nat)):Tg→Bool
 | .nm i=>(match cap[i]? with | some (some _)=>false | _=>true)
 | .tp is=>is.all fun i=>match cap[i]? with | some (some _)=>false | _=>true
 | .nn i js=>(match cap[i]? with | some (some _)=>false | _=>true)&&js.all fun i=>match cap[i]? with | some (some _)=>false | _=>true
theorem iR:∀ {a b:List Ent} {i:Nat} {e:Ent},Weak a b→(b[i]?=some .no∨b[i]?=none)→Weak (a.set i e) b
 | _,_,_,_,.nil,_=>.nil
 | _::_,_,0,_,.keep w,h=>by
  rcases h with h | h
  ·cases (Option.some.inj h);exact .no w
  ·cases h
 | _::_,_,0,_,.no w,_=>.no w
 | _::_,_,i+1,_,.keep w,h=>.keep (iR w (by simpa using h))
 | _::_,_,i+1,_,.no w,h=>.no (iR w (by simpa using h))
theorem tS {cap:List (Option Nat)} {ρ:List Ent} {i:Nat} (h:(match cap[i]? with | some (some _)=>false | _=>true)=true):(bK cap ρ)[i]?=some .no∨(bK cap ρ)[i]?=none:=by
 unfold bK
 rw [List.getElem?_map]
 cases e:cap[i]? with
 | none=>exact .inr rfl
 | some o=>
  rw [e] at h
  cases o with
  | none=>exact .inl rfl
  | some j=>cases h
theorem nK {cap:List (Option Nat)} {ρ:List Ent}:∀ {is:List Nat} {ds:List PyData} {a:List Ent},(is.all fun i=>match cap[i]? with | some (some _)=>false | _=>true)=true→Weak a (bK cap ρ)→Weak (iV a is ds) (bK cap ρ)
 | [],ds,a,_,w=>by cases ds<;>exact w
 | i::is,[],a,_,w=>w
 | i::is,d::ds,a,h,w=>by
  rw [List.all_cons,Bool.and_eq_true] at h
  exact nK (is:=is) (ds:=ds) (a:=a.set i (.val d)) h.2 (iR w (tS h.1))
theorem mW {cap:List (Option Nat)} {ρ ρx:List Ent} {t:Tg} {d:PyData} (hf:nO cap t=true) (h:tgD t (bK cap ρ) d=some ρx):Weak ρx (bK cap ρ):=by
 cases t with
 | nm i=>cases (Option.some.inj h);exact iR (.refl _) (tS hf)
 | tp is=>
  cases d with
  | tuple ds=>
   have h:(if is.length=ds.length then some (iV (bK cap ρ) is ds) else none)=some ρx:=h
   split at h
   ·cases (Option.some.inj h);exact nK hf (.refl _)
   ·cases h
  | none=>cases h
  | bool _=>cases h
  | int _=>cases h
  | str _=>cases h
  | list _=>cases h
  | dict _=>cases h
 | nn i js=>
  obtain ⟨a,ds,rfl,hl,rfl⟩:=tgD_nn h
  have hf:((match cap[i]? with | some (some _)=>false | _=>true)&&js.all fun i=>match cap[i]? with | some (some _)=>false | _=>true)=true:=hf
  rw [Bool.and_eq_true] at hf
  exact nK hf.2 (iR (.refl _) (tS hf.1))
section
variable {X:Cx} {elt iter tg:Expr} {ifs:List Expr} {scope:Scope} {pos spos p:Pos} {N':List Str} {cap:List (Option Nat)} {t:Tg} {fi:AF} {ft:TF} {fe:EF}
structure DTs (X:Cx) (ifs:List Expr) (f:TF):Prop where
 run:∀ ρ b,f ρ=some (.ok b)→PTsD X ifs ρ b
theorem fT:DTs X [] ttT:=⟨fun ρ b e=>by cases (Option.some.inj e);exact a1L⟩
theorem nE {c:Expr} (h:DT X c ft):DTs X [c] ft:=⟨fun ρ b e=>a1K (h.ptd e)⟩
theorem fW (hc:X.calm=true) (B:Blk X scope N' cap) (hi:DI X tg iter fi) (hf:nO cap t=true) (hg:∀ C s₃ H₃ fp,DG (aV X scope N' C s₃ H₃ fp) tg t) (ht:∀ C s₃ H₃ fp,DTs (aV X scope N' C s₃ H₃ fp) ifs ft)
  (he:∀ C s₃ H₃ fp,DE (aV X scope N' C s₃ H₃ fp) elt fe) (hs:∀ x,foldedSetIterable iter X.env x=pure x:=by intro _;rfl):DE X (.ListComp elt [⟨tg,iter,ifs,0⟩] scope pos) (dL t cap fi ft fe):=⟨fun pins s σ H Q I ⟨ρ,r,H0,G₀,G,e,R,q⟩=>by
 rcases cQ e with ⟨ds,e1,e2⟩ | ⟨c,e1,e2⟩
 ·split at e2
  ·rename_i hz
   obtain ⟨d,ed,rfl⟩:=bI e2
   obtain ⟨es,e3,rfl⟩:=Option.map_eq_some_iff.mp ed
   obtain ⟨k1,rfl⟩:=gO e3
   exact (a4G (xs:=ds) (φ:=fun d=>d) (ρb:=bK cap ρ) (ρx:=cX t (bK cap ρ)) (cnd:=cT t (bK cap ρ) ft) (f:=cV t (bK cap ρ) fe) hc B (by simpa using hi.pid e1) (.refl _) (fun x hx=>mW hf (k1 x hx).1) (fJ hz)
    (fun C s₃ H₃ fp x hx=>(hg C s₃ H₃ fp).run _ _ _ (k1 x hx).1) (fun C s₃ H₃ fp x hx=>(ht C s₃ H₃ fp).run _ _ (k1 x hx).2.1) (fun C s₃ H₃ fp x hx hcx=>(he C s₃ H₃ fp).pd ((k1 x hx).2.2 hcx)) hs).run H0 G₀ G pins s σ H Q I R q
  ·cases e2
 ·subst e2
  exact nB (g:=fun _ _ _ _=>False) (tc:=fun _ _ _=>False) (te:=fun _ _ _=>False) hc B hi.run (fun _ _ _ _ _ _ _ _ _ _ _ _ _ z=>z.elim) (fun _ _ _ _ _ _ _ _ _ _ z=>z.elim) (fun _ _ _ _ _ _ _ _ _ _ z=>z.elim) hs pins s σ H Q I
   ⟨ρ,_,H0,G₀,G,e1,R,q⟩⟩
theorem a5z (i:Nat) {x:Str} (hN:X.N.Nodup) (hc:X.calm=true) (B:Blk X scope N' cap) (hi:DI X tg iter fi) (hf:nO cap t=true) (hg:∀ C s₃ H₃ fp,DG (aV X scope N' C s₃ H₃ fp) tg t) (ht:∀ C s₃ H₃ fp,DTs (aV X scope N' C s₃ H₃ fp) ifs ft)
  (he:∀ C s₃ H₃ fp,DE (aV X scope N' C s₃ H₃ fp) elt fe)
  (hxi:X.N[i]?=some x:=by rfl) (hx:X.env.scope.names.lookup x=some .local:=by rfl)
  (hsw:swapsWith (.ListComp elt [⟨tg,iter,ifs,0⟩] scope pos) (some (.Name x p)) spos.line X.env=pure true:=by rfl)
  (hs:∀ x,foldedSetIterable iter X.env x=pure x:=by intro _;rfl):DS X (.Assign [.Name x p] (.ListComp elt [⟨tg,iter,ifs,0⟩] scope pos) spos) (iB i (dL t cap fi ft fe)):=⟨fun pins s σ H D I ⟨ρ,o,H0,G₀,G,e,R,q⟩=>by
 rcases gW e with ⟨d,e1,e2⟩ | ⟨c,e1,e2⟩
 ·cases (Option.some.inj e2)
  rcases cQ e1 with ⟨ds,e3,e4⟩ | ⟨c,_,e4⟩
  ·split at e4
   ·rename_i hz
    obtain ⟨d',ed,z⟩:=bI e4
    cases z
    obtain ⟨es,e5,rfl⟩:=Option.map_eq_some_iff.mp ed
    obtain ⟨k1,rfl⟩:=gO e5
    exact (a1N i (xs:=ds) (φ:=fun d=>d) (ρb:=bK cap ρ) (ρx:=cX t (bK cap ρ)) (cnd:=cT t (bK cap ρ) ft) (f:=cV t (bK cap ρ) fe) hN hc B (by simpa using hi.pid e3) (.refl _) (fun x hx=>mW hf (k1 x hx).1) (fJ hz)
     (fun C s₃ H₃ fp x hx=>(hg C s₃ H₃ fp).run _ _ _ (k1 x hx).1) (fun C s₃ H₃ fp x hx=>(ht C s₃ H₃ fp).run _ _ (k1 x hx).2.1) (fun C s₃ H₃ fp x hx hcx=>(he C s₃ H₃ fp).pd ((k1 x hx).2.2 hcx)) hxi hx hsw hs).run pins s σ H D I ⟨H0,G₀,G,R,q⟩
   ·cases e4
  ·cases e4
 ·subst e2
  rcases cQ e1 with ⟨ds,e3,e4⟩ | ⟨c',e3,e4⟩
  ·split at e4
   ·obtain ⟨_,_,z⟩:=bI e4;cases z
   ·cases e4
  ·cases e4
   exact yS (g:=fun _ _ _ _=>False) (tc:=fun _ _ _=>False) (te:=fun _ _ _=>False) hN hxi hx hc B hi.run (fun _ _ _ _ _ _ _ _ _ _ _ _ _ z=>z.elim) (fun _ _ _ _ _ _ _ _ _ _ z=>z.elim) (fun _ _ _ _ _ _ _ _ _ _ z=>z.elim) hsw hs pins s σ H D I
    ⟨ρ,_,H0,G₀,G,e3,R,q⟩⟩
end
noncomputable def lH (m:Nat) (ds:List PyData):List Ent:=ds.map .val++List.replicate (m - ds.length) .no
noncomputable def dZ (m n:Nat) (f:SF) (ds:List PyData):Mm PyData:=if ds.length=n then (match f (lH m ds) with
 | some (.rt d)=>some (.ok d)
 | some (.nx _)=>some (.ok .none)
 | _=>none) else none
noncomputable abbrev aO (P:Program) (w:World) (K:PySem.W.Frag) (mg:Str→Option Value) (base:Heap) (x:Str) (k:Nat) (ps:List Str) (F:List PyData→Mm PyData):Prop:=
 Callee P w K mg base x k ps fun ds d=>F ds=some (.ok d)
section
variable {P:Program} {w:World} {K:PySem.W.Frag} {mg:Str→Option Value} {base:Heap} {X:Cx} {e:Expr} {es:List Expr} {pos p:Pos} {x:Str} {k:Nat} {ps N:List Str} {F:List PyData→Mm PyData}
noncomputable def aZ (F:List PyData→Mm PyData) (fa:AF):EF:=fun ρ=>bnd (fa ρ) fun ds=>match F ds with
 | some (.ok d)=>some (.ok d)
 | _=>none
theorem bB {fa:AF} (C:aO X.prog X.w X.K X.mg X.base x k ps F) (hr:Room k X.A) (ha:DA X (e::es) fa) (hg:Gl X x:=by rfl) (hdb:(x==("__debug__" : Str))=false:=by decide)
  (he:starEach (e::es) X.env=(false,eval e X.env)::starEach es X.env:=by rfl) (hpl:(backTo pos (starEach es X.env)).any (·.1)=false:=by rfl):DE X (.Call (.Name x p) (e::es) [] pos) (aZ F fa):=⟨fun pins s σ H Q I ⟨ρ,r,H0,G₀,G,e',R,q⟩=>by
 obtain ⟨f,fd,a,b,c,Fk⟩:=C.ex
 refine yU Fk hr hg a b c .nil (a6g (X:=X)) ha.run hdb he hpl pins s σ H Q I (bA R e' q.x fun ds vs G1 H1 g1 R1 rv e1=>?_)
 split at e1
 ·rename_i d ed
  cases (Option.some.inj e1)
  exact ⟨G1,ds,d,⟨g1.sub,R1.tab⟩,by simpa using rv,ed,fun v G2 H2 g2 r2=>q v G2 H2 (g1.trans g2) r2⟩
 ·cases e1⟩
theorem lI (N:List Str) (ds:List PyData):eE N ds=lH N.length ds:=rfl
theorem a3d {st:Stmt} {f:SF} {fa:Addr} {fd:FuncData} (m n:Nat) (Fu:Fun K x x st fa fd) (S:FnScope N ps (aE st)) (hm:N.length=m) (hn:ps.length=n)
  (body:∀ (cdv:Value) (A:Around) (outer:List Env) (s:Shared) (H:Hp) (E:XK),Room k (A.deeper (envOfC x (aE st) s.heap.objs.size fa cdv))→DB (fcx P w K mg base N x (aE st) fa cdv A outer s H E) (bG st) f) :
  FnOk P w K mg base CX0 (k+1) fa fd ps (spD K fun ds d=>dZ m n f ds=some (.ok d)):=by
 refine Fu.ok S (fun vs H Q E ⟨G,ds,d,s,r,hF,_⟩=>?_) (fun cdv A outer s H vs Q E hr ⟨G,ds,d,sm,r,hF,q⟩=>?_)
 ·have hF:dZ m n f ds=some (.ok d):=hF
  unfold dZ at hF
  split at hF
  ·rename_i hl;rw [r.length,hl,hn]
  ·cases hF
 ·have hF:dZ m n f ds=some (.ok d):=hF
  unfold dZ at hF
  split at hF
  ·rw [←hm,←lI] at hF
   split at hF
   ·rename_i d' e
    cases (Option.some.inj hF)
    exact ⟨_,(body cdv A outer s H E hr).run,eE N ds,_,H,G,G,e,cY sm r,fun v G' H' _ g rv=>q v G' H' g rv⟩
   ·rename_i ρ' e
    cases (Option.some.inj hF)
    exact ⟨_,(body cdv A outer s H E hr).run,eE N ds,_,H,G,G,e,cY sm r,fun G' H' σ' _ R'=>q .non G' H' R'.grow .none⟩
   ·cases hF
  ·cases hF
theorem cH {st:Stmt} {f:SF} (m n:Nat) (D:Def K mg x st) (S:FnScope N ps (aE st)) (hm:N.length=m) (hn:ps.length=n)
  (hb:∀ (kV doc pm:Value) (an:Option Addr) (cdv ct:Value) (us:List Value),us.length=ps.length→bindArgs (PySem.W.fnOf x x (cR st) (bG st) (aE st) .none kV doc pm an cdv ct) ⟨us,[]⟩=pure (ps.zip us))
  (body:∀ (fa:Addr) (cdv:Value) (A:Around) (outer:List Env) (s:Shared) (H:Hp) (E:XK),Room k (A.deeper (envOfC x (aE st) s.heap.objs.size fa cdv))→DB (fcx P w K mg base N x (aE st) fa cdv A outer s H E) (bG st) f) :
  aO P w K mg base x (k+1) ps (dZ m n f):=by
 obtain ⟨fa,fd,Fu,hmg⟩:=D.ex
 exact ⟨fa,fd,hmg,Fu.kp,Fu.binds hb,a3d m n Fu S hm hn fun cdv A outer s H E hr=>body fa cdv A outer s H E hr⟩
end
end L2.L3
namespace L2.L3
open PySem PySem.Spec PyProof.Rows
noncomputable def dJ {α:Type} (f:PyData→Option α):List PyData→Option (List α)
 | []=>some []
 | d::ds=>match f d with
  | none=>none
  | some a=>(dJ f ds).map (a::·)
noncomputable def wO:PyData→Option Str
 | .str i=>some i
 | _=>none
theorem yK {d:PyData} {i:Str} (h:wO d=some i):d=.str i:=by
 cases d<;>first | (cases h;done) | (cases (Option.some.inj h);rfl)
theorem dX {α:Type} {f:PyData→Option α} {g:α→PyData} (h:∀ d a,f d=some a→d=g a):∀ {ds:List PyData} {as:List α},dJ f ds=some as→ds=as.map g
 | [],as,e=>by cases (Option.some.inj e);rfl
 | d::ds,as,e=>by
  unfold dJ at e
  split at e
  ·cases e
  ·rename_i a ea
   obtain ⟨as',e',rfl⟩:=Option.map_eq_some_iff.mp e
   rw [List.map_cons,←h d a ea,dX h e']
theorem lB {α:Type} {f:PyData→Option α} {g:α→PyData} (h:∀ a,f (g a)=some a):∀ as:List α,dJ f (as.map g)=some as
 | []=>rfl
 | a::as=>by rw [List.map_cons,dJ,h a];show (dJ f (as.map g)).map (a::·)=_;rw [lB h as];rfl
theorem a0M (ns:List Int):dJ intD (ns.map .int)=some ns:=lB (g:=.int) (fun _=>rfl) ns
section
variable {X:Cx} {x y d:PyData}
theorem a2d {op:Operator} {g:Int→Int→Int} {i j:Int} (ho:OpR X (binaryOp op) (rI0 fun i j=>.int (g i j))):OpD X op (.int i) (.int j) (.int (g i j)):=⟨_,ho,fun v u G H Q s rv ru q=>by
 cases rv;cases ru;exact ⟨_,_,rfl,rfl,q _ _ _ (.refl s) (.int _)⟩⟩
theorem sR {op:Operator} {C:Int→Int→Prop} {g:Int→Int→Int} {i j:Int} (ho:OpR X (binaryOp op) (rI C fun i j=>.int (g i j))) (hc:C i j):OpD X op (.int i) (.int j) (.int (g i j)):=⟨_,ho,fun v u G H Q s rv ru q=>by
 cases rv;cases ru;exact ⟨_,_,rfl,rfl,hc,q _ _ _ (.refl s) (.int _)⟩⟩
noncomputable def bX (x y:PyData):Option PyData:=match x,y with
 | .int i,.int j=>some (.int (i+j))
 | .str i,.str j=>if dB (i.length+j.length) then some (.str (i++j)) else none
 | .list a,.list b=>if dB (a.length+b.length) then some (.list (a++b)) else none
 | .tuple a,.tuple b=>if dB (a.length+b.length) then some (.tuple (a++b)) else none
 | _,_=>none
theorem bQ (x y d:PyData) (h:bX x y=some d):OpD X .Add x y d:=by
 unfold bX at h
 split at h
 ·cases (Option.some.inj h);exact a2d op_add
 ·split at h
  ·rename_i i j hz
   cases (Option.some.inj h)
   exact ⟨_,wX,fun v u G H Q s rv ru q=>by cases rv;cases ru;exact ⟨_,_,rfl,rfl,fJ hz,q _ _ _ (.refl s) (.str _)⟩⟩
  ·cases h
 ·split at h
  ·rename_i a b hz
   cases (Option.some.inj h)
   exact ⟨_,a4M,fun v u G H Q s rv ru q=>by
    cases rv with
    | list h1 r1=>cases ru with
     | list h2 r2=>exact ⟨_,_,_,_,rfl,rfl,s.seq h1,s.seq h2,by rw [r1.length,r2.length];exact fJ hz,fun l hl=>q _ _ _ (.put s hl) (.list (.of aF) ((r1.append r2).mono (aY (s.free hl))))⟩⟩
  ·cases h
 ·split at h
  ·rename_i a b hz
   cases (Option.some.inj h)
   exact ⟨_,a4K,fun v u G H Q s rv ru q=>by
    cases rv with
    | tuple h1 r1=>cases ru with
     | tuple h2 r2=>
      refine ⟨_,_,_,_,rfl,rfl,iC s h1,iC s h2,by rw [r1.length,r2.length];exact fJ hz,fun z=>?_,fun z z2=>?_,fun _ _ l hl=>q _ _ _ (.put s hl) (.tuple (.of aF) ((r1.append r2).mono (aY (s.free hl))))⟩
      ·subst z
       cases r1
       exact q _ G H (.refl s) (.tuple h2 r2)
      ·subst z2
       cases r2
       exact q _ G H (.refl s) (by rw [List.append_nil];exact .tuple h1 r1)⟩
  ·cases h
 ·cases h
noncomputable def sG (x y:PyData):Option PyData:=match x,y with
 | .int i,.int j=>some (.int (i - j))
 | _,_=>none
theorem a1C (x y d:PyData) (h:sG x y=some d):OpD X .Sub x y d:=by
 unfold sG at h
 split at h
 ·cases (Option.some.inj h);exact a2d op_sub
 ·cases h
noncomputable def fZ (i:Int):Bool:=decide (-(2 ^ 64)<i)&&decide (i<2 ^ 64)
theorem qE {i:Int} (h:fZ i=true):-(2 ^ 64)<i∧i<2 ^ 64:=by
 unfold fZ at h
 rw [Bool.and_eq_true] at h
 exact ⟨of_decide_eq_true h.1,of_decide_eq_true h.2⟩
noncomputable def gE (x y:PyData):Option PyData:=match x,y with
 | .int i,.int j=>if fZ i || fZ j then some (.int (i*j)) else none
 | _,_=>none
theorem iF (x y d:PyData) (h:gE x y=some d):OpD X .Mult x y d:=by
 unfold gE at h
 split at h
 ·split at h
  ·rename_i hz
   cases (Option.some.inj h)
   rw [Bool.or_eq_true] at hz
   exact sR op_mul (hz.imp qE qE)
  ·cases h
 ·cases h
noncomputable def xB (x y:PyData):Option PyData:=match x,y with
 | .int i,.int j=>if 0<j then some (.int (i % j)) else none
 | _,_=>none
theorem sW (x y d:PyData) (h:xB x y=some d):OpD X .Mod x y d:=by
 unfold xB at h
 split at h
 ·split at h
  ·rename_i hz
   cases (Option.some.inj h)
   exact sR op_mod hz
  ·cases h
 ·cases h
noncomputable def a5s (x y:PyData):Option PyData:=match x,y with
 | .int i,.int j=>if 0<j∧j<1073741824 then some (.int (i / j)) else none
 | _,_=>none
theorem fdv_ok (x y d:PyData) (h:a5s x y=some d):OpD X .FloorDiv x y d:=by
 unfold a5s at h
 split at h
 ·split at h
  ·rename_i hz
   cases (Option.some.inj h)
   exact sR a4J hz
  ·cases h
 ·cases h
noncomputable def ltD (x y:PyData):Option Bool:=match x,y with
 | .int i,.int j=>some (decide (i<j))
 | _,_=>none
noncomputable def leD (x y:PyData):Option Bool:=match x,y with
 | .int i,.int j=>some (decide (i≤j))
 | .str i,.str j=>some (!decide (j.cps.toList<i.cps.toList))
 | _,_=>none
noncomputable def gtD (x y:PyData):Option Bool:=match x,y with
 | .int i,.int j=>some (decide (j<i))
 | _,_=>none
noncomputable def geD (x y:PyData):Option Bool:=match x,y with
 | .int i,.int j=>some (decide (j≤i))
 | _,_=>none
theorem lt_ok (x y:PyData) (t:Bool) (h:ltD x y=some t):CmpD X .Lt x y t:=by
 unfold ltD at h;split at h
 ·cases (Option.some.inj h);exact cmp_lt
 ·cases h
theorem a2B (x y:PyData) (t:Bool) (h:leD x y=some t):CmpD X .LtE x y t:=by
 unfold leD at h;split at h
 ·cases (Option.some.inj h);exact cmp_le
 ·cases (Option.some.inj h);exact a5I
 ·cases h
theorem gt_ok (x y:PyData) (t:Bool) (h:gtD x y=some t):CmpD X .Gt x y t:=by
 unfold gtD at h;split at h
 ·cases (Option.some.inj h);exact cmp_gt
 ·cases h
noncomputable def eqD (x y:PyData):Option Bool:=match x,y with
 | .int i,.int j=>some (decide (i=j))
 | .str i,.str j=>some (decide (i=j))
 | .bool i,.bool j=>some (decide (i=j))
 | x,y=>if SeqAt.shaped x&&SeqAt.shaped y then some (PyData.eqv x y) else none
noncomputable def neD (x y:PyData):Option Bool:=match x,y with
 | .int i,.int j=>some (!decide (i=j))
 | .str i,.str j=>some (!decide (i=j))
 | .bool i,.bool j=>some (!decide (i=j))
 | x,y=>if SeqAt.shaped x&&SeqAt.shaped y then some (!PyData.eqv x y) else none
theorem vM (hu:X.A.units+64<cLine) (x y:PyData) (t:Bool) (h:eqD x y=some t):CmpD X .Eq x y t:=by
 unfold eqD at h;split at h
 ·cases (Option.some.inj h);exact a5K
 ·cases (Option.some.inj h);exact a5J
 ·cases (Option.some.inj h);exact a5L
 ·split at h
  ·rename_i hz
   rw [Bool.and_eq_true] at hz
   cases (Option.some.inj h);exact cmp_eq hu hz.1 hz.2
  ·cases h
theorem oO (hu:X.A.units+64<cLine) (x y:PyData) (t:Bool) (h:neD x y=some t):CmpD X .NotEq x y t:=by
 unfold neD at h;split at h
 ·cases (Option.some.inj h);exact a5G
 ·cases (Option.some.inj h);exact a5F
 ·cases (Option.some.inj h);exact a5H
 ·split at h
  ·rename_i hz
   rw [Bool.and_eq_true] at hz
   cases (Option.some.inj h);exact cmp_ne hu hz.1 hz.2
  ·cases h
theorem yM {K:PySem.W.Frag} {G H:Hp} {v:V} {y:PyData} {ds:List PyData} (s:aS G H) (h:uL y=some ds) (r:Rep K G v y):∃ p vs,v=.ref p∧(SqL K H p vs∨SqT K H p vs)∧RepAll K G vs ds:=by
 cases r with
 | list hq r=>cases (Option.some.inj h);exact ⟨_,_,rfl,.inl (s.seq hq),r⟩
 | tuple hq r=>cases (Option.some.inj h);exact ⟨_,_,rfl,.inr (iC s hq),r⟩
 | dict _ _ _=>cases h
 | none=>cases h
 | bool _=>cases h
 | int _=>cases h
 | str _=>cases h
noncomputable def oQ (ds:List PyData):Option PyData:=match ds with
 | [.list xs]=>some (.int xs.length)
 | [.tuple xs]=>some (.int xs.length)
 | [.str z]=>if dB z.length then some (.int z.length) else none
 | _=>none
theorem tF (ds:List PyData) (d:PyData) (h:oQ ds=some d):CallD X (.builtin "len") ds d:=by
 unfold oQ at h;split at h
 ·cases (Option.some.inj h)
  exact ⟨_,kY,fun vs G H Q s r q=>by
   cases r with | cons r rr=>cases rr;cases r with | list hq r=>exact ⟨_,_,rfl,.inl (s.seq hq),by rw [r.length];exact q _ G H (.refl s) (.int _)⟩⟩
 ·cases (Option.some.inj h)
  exact ⟨_,kY,fun vs G H Q s r q=>by
   cases r with | cons r rr=>cases rr;cases r with | tuple hq r=>exact ⟨_,_,rfl,.inr (iC s hq),by rw [r.length];exact q _ G H (.refl s) (.int _)⟩⟩
 ·split at h
  ·rename_i hz
   cases (Option.some.inj h)
   exact ⟨_,tT,fun vs G H Q s r q=>by
    cases r with | cons r rr=>cases rr;cases r with | str z=>exact ⟨_,rfl,fJ hz,q _ G H (.refl s) (.int _)⟩⟩
  ·cases h
 ·cases h
noncomputable def a2u (ds:List PyData):Option PyData:=match ds with
 | [.int i,.int j]=>some (.int (max i j))
 | [.list xs]=>(match dJ intD xs with | some (n::ns)=>some (.int (maxI (n::ns))) | _=>none)
 | _=>none
noncomputable def a5b (ds:List PyData):Option PyData:=match ds with
 | [.int i,.int j]=>some (.int (min i j))
 | [.list xs]=>(match dJ intD xs with | some (n::ns)=>some (.int (minI (n::ns))) | _=>none)
 | _=>none
theorem a2t (hc:X.calm=true) (ds:List PyData) (d:PyData) (h:a2u ds=some d):CallD X (.builtin "max") ds d:=by
 unfold a2u at h;split at h
 ·rename_i i j
  cases (Option.some.inj h)
  exact ⟨_,a1a hc,fun vs G H Q s r q=>by
   cases r with | cons r rr=>cases rr with | cons r' rr=>cases rr;cases r;cases r';exact ⟨i,j,rfl,by rw [show (if j > i then j else i)=max i j by split<;>omega];exact q _ G H (.refl s) (.int _)⟩⟩
 ·split at h
  ·rename_i xs n ns e
   cases (Option.some.inj h)
   have:=dX (g:=.int) (fun d a q=>kN q) e
   subst this
   exact ⟨_,a0Z hc,fun vs G H Q s r q=>by
    cases r with | cons r rr=>cases rr;cases r with | list hq r=>
     have e:=r.ints
     subst e
     exact ⟨_,n::ns,rfl,s.seq hq,by simp,fun M m1 m2=>by rw [a5e m1 m2];exact q _ G H (.refl s) (.int _)⟩⟩
  ·cases h
 ·cases h
theorem min_ok (hc:X.calm=true) (ds:List PyData) (d:PyData) (h:a5b ds=some d):CallD X (.builtin "min") ds d:=by
 unfold a5b at h;split at h
 ·rename_i i j
  cases (Option.some.inj h)
  exact ⟨_,a0Y hc,fun vs G H Q s r q=>by
   cases r with | cons r rr=>cases rr with | cons r' rr=>cases rr;cases r;cases r';exact ⟨i,j,rfl,by rw [show (if j<i then j else i)=min i j by split<;>omega];exact q _ G H (.refl s) (.int _)⟩⟩
 ·split at h
  ·rename_i xs n ns e
   cases (Option.some.inj h)
   have:=dX (g:=.int) (fun d a q=>kN q) e
   subst this
   exact ⟨_,a0X hc,fun vs G H Q s r q=>by
    cases r with | cons r rr=>cases rr;cases r with | list hq r=>
     have e:=r.ints
     subst e
     exact ⟨_,n::ns,rfl,s.seq hq,by simp,fun M m1 m2=>by rw [a5a m1 m2];exact q _ G H (.refl s) (.int _)⟩⟩
  ·cases h
 ·cases h
noncomputable def a4d (ds:List PyData):Option PyData:=match ds with
 | [.list xs]=>(dJ intD xs).map fun ns=>.int ns.sum
 | _=>none
theorem sum_ok (hc:X.calm=true) (ds:List PyData) (d:PyData) (h:a4d ds=some d):CallD X (.builtin "sum") ds d:=by
 unfold a4d at h;split at h
 ·obtain ⟨ns,e,rfl⟩:=Option.map_eq_some_iff.mp h
  have:=dX (g:=.int) (fun d a q=>kN q) e
  subst this
  exact ⟨_,a0W hc,fun vs G H Q s r q=>by
   cases r with | cons r rr=>cases rr;cases r with | list hq r=>
    have e:=r.ints
    subst e
    exact ⟨_,ns,rfl,s.seq hq,q _ G H (.refl s) (.int _)⟩⟩
 ·cases h
noncomputable def a0f (ds:List PyData):Option PyData:=match ds with
 | [.list xs]=>some (.tuple xs)
 | [.tuple xs]=>some (.tuple xs)
 | _=>none
theorem tup_ok (ds:List PyData) (d:PyData) (h:a0f ds=some d):CallD X (.type "tuple") ds d:=by
 unfold a0f at h;split at h
 ·cases (Option.some.inj h)
  exact ⟨_,jV,fun vs G H Q s r q=>by
   cases r with | cons r rr=>cases rr;cases r with | list hq r=>exact ⟨_,_,rfl,.inl ⟨s.seq hq,fun l hl=>q _ _ _ (.put s hl) (.tuple (.of aF) (r.mono (aY (s.free hl))))⟩⟩⟩
 ·cases (Option.some.inj h)
  exact ⟨_,jV,fun vs G H Q s r q=>by
   cases r with | cons r rr=>cases rr;cases r with | tuple hq r=>exact ⟨_,_,rfl,.inr ⟨iC s hq,q _ G H (.refl s) (.tuple hq r)⟩⟩⟩
 ·cases h
noncomputable def a2w (ds:List PyData):Option PyData:=match ds with
 | [.list xs]=>some (.list xs)
 | [.tuple xs]=>some (.list xs)
 | _=>none
theorem lst_ok (ds:List PyData) (d:PyData) (h:a2w ds=some d):CallD X (.type "list") ds d:=by
 unfold a2w at h;split at h
 ·cases (Option.some.inj h)
  exact ⟨_,kX,fun vs G H Q s r q=>by
   cases r with | cons r rr=>cases rr;cases r with | list hq r=>exact ⟨_,_,rfl,.inl (s.seq hq),fun l hl=>q _ _ _ (.put s hl) (.list (.of aF) (r.mono (aY (s.free hl))))⟩⟩
 ·cases (Option.some.inj h)
  exact ⟨_,kX,fun vs G H Q s r q=>by
   cases r with | cons r rr=>cases rr;cases r with | tuple hq r=>exact ⟨_,_,rfl,.inr (iC s hq),fun l hl=>q _ _ _ (.put s hl) (.list (.of aF) (r.mono (aY (s.free hl))))⟩⟩
 ·cases h
noncomputable def intC (ds:List PyData):Option PyData:=match ds with
 | [.bool b]=>some (.int (if b then 1 else 0))
 | [.int i]=>some (.int i)
 | _=>none
end
section
variable {X:Cx} {a b:Expr} {pos p p2:Pos} {fa fb:EF}
noncomputable def a2k:PyData→Option PyData
 | .int i=>some (.int (-i))
 | _=>none
noncomputable def op1 (g:PyData→Option PyData) (fa:EF):EF:=fun ρ=>bnd (fa ρ) fun x=>lft (g x)
theorem de_neg (ha:DE X a fa):DE X (.UnaryOp .USub a pos) (op1 a2k fa):=⟨fun pins s σ H Q I ⟨ρ,r,H0,G₀,G,e,R,q⟩=>pe_un un_neg ha.run pins s σ H Q I (bE R e q.x fun x v G1 H1 g1 R1 rv e1=>by
 obtain ⟨d,ed,rfl⟩:=bI e1
 cases x with
 | int i=>cases (Option.some.inj ed);cases rv;exact ⟨_,rfl,q _ _ _ g1 (.int _)⟩
 | none=>cases ed
 | bool _=>cases ed
 | str _=>cases ed
 | list _=>cases ed
 | tuple _=>cases ed
 | dict _=>cases ed)⟩
end
end L2.L3
namespace L2.L3
open PySem PySem.Spec PyProof.Rows
noncomputable def chn3E (g1 g2 g3:PyData→PyData→Option Bool) (fa fb fc fd:EF):EF:=fun ρ=>bnd (fa ρ) fun x=>bnd (fb ρ) fun y=>bnd (lft (g1 x y)) fun t=>if t then bnd (fc ρ) fun z=>bnd (lft (g2 y z)) fun u=>if u then bnd (fd ρ) fun w=>lft ((g3 z w).map .bool) else some (.ok (.bool false)) else some (.ok (.bool false))
noncomputable def isB (k x:PyData):Option Bool:=match k,x with
 | .none,.none=>some true
 | .none,.bool _=>some false
 | .none,.int _=>some false
 | .none,.str _=>some false
 | .none,.list _=>some false
 | .none,.tuple _=>some false
 | .none,.dict _=>some false
 | .bool a,.bool b=>some (b==a)
 | _,_=>none
noncomputable def isE (neg:Bool) (k:PyData) (fa:EF):EF:=fun ρ=>bnd (fa ρ) fun x=>lft ((isB k x).map fun t=>.bool (neg != t))
noncomputable def isT (neg:Bool) (k:PyData) (fa:EF):TF:=fun ρ=>bnd (fa ρ) fun x=>lft ((isB k x).map fun t=>neg != t)
noncomputable abbrev OF:=List Ent→Mm (Option Int)
noncomputable def iP:OF:=fun _=>some (.ok none)
noncomputable def iO (fa:EF):OF:=fun ρ=>bnd (fa ρ) fun x=>lft ((intD x).map some)
noncomputable def slD (x:PyData) (lo hi:Option Int):Option PyData:=match x with
 | .list ds=>some (.list (cutD ds lo hi))
 | .tuple ds=>if HT.sIx ds.length 0 lo=0∧HT.sIx ds.length ds.length hi=ds.length then none else some (.tuple (cutD ds lo hi))
 | _=>none
noncomputable def slE (fa:EF) (lo hi:OF):EF:=fun ρ=>bnd (fa ρ) fun x=>bnd (lo ρ) fun l=>bnd (hi ρ) fun h=>lft (slD x l h)
noncomputable def tyI:PyData→Option Bool
 | .int _=>some true
 | .bool _=>some true
 | .dict _=>none
 | _=>some false
noncomputable def tyB:PyData→Option Bool
 | .bool _=>some true
 | .dict _=>none
 | _=>some false
noncomputable def tyS:PyData→Option Bool
 | .str _=>some true
 | .dict _=>none
 | _=>some false
noncomputable def tyT:PyData→Option Bool
 | .tuple _=>some true
 | .dict _=>none
 | _=>some false
noncomputable def isTy (T:String) (x:PyData):Option Bool:=if T = "int" then tyI x else if T = "bool" then tyB x else if T = "str" then tyS x else if T = "tuple" then tyT x else none
noncomputable def isD (T:String) (x:PyData):Option PyData:=(isTy T x).map .bool
noncomputable def kC (ns:List Str):List Str:=ns.foldl (fun a n=>if n∈a then a else a++[n]) []
noncomputable def cM (a b:Str):Bool:=!decide (b.cps.toList<a.cps.toList)
end L2.L3
namespace L2.L3
open PySem PySem.Spec PyProof.Rows
section
variable {X:Cx} {e a b c d:Expr} {es:List Expr} {pos p p2:Pos} {fa fb fc fd:EF}
end
end L2.L3
namespace L2.L3
open PySem PySem.Spec PyProof.Rows
theorem Inv.turnNew {X:Cx} {pins:List (Addr×Obj)} {σ:St} {H:Hp} {s:Shared} {h':Heap} {t':Nat} {T:Addr} {xs:List V} (ch:List Addr) (I:Inv X pins σ H s) (hf:∀ b∈ch,lE X pins H b)
  (k:∀ b o,b∉ch→s.heap.get? b=some o→h'.get? b=some o) (hT:s.heap.objs.size≤T) (new:bR X.prog X.w (upd H T (.tup xs)) h' T (.tup xs)):Inv X pins σ (upd H T (.tup xs)) { s with heap:=h',toks:=t' }:=by
 have nT:H T=none:=I.hok.fresh hT
 have ne:∀ b o,s.heap.get? b=some o→b≠T:=fun b o e=>Nat.ne_of_lt (Nat.lt_of_lt_of_le (Heap.lt_size e) hT)
 have up:∀ b u,H b=some u→upd H T (.tup xs) b=some u:=fun b u e=>by rw [aD (aM e nT)];exact e
 refine I.step (g':=s.gens) (d':=s.drawn) (ch:=ch) (fun b hb=>?_) (fun b o _ _ hc e _=>k b o hc e) (fun b o _ _ hc e _=>⟨o.slots,k b o hc e⟩) (fun b o _ e n=>by rw [aD (ne b o e)];exact n)
  (fun b o hc e=>⟨o,k b o hc e⟩) (fun b u e=>up b _ e) (fun b o u e=>up b _ e) (fun b ps e=>⟨#[],by rw [up b _ e];simp⟩) (fun m hm=>?_) (fun b u e=>?_) I.bare
 ·obtain ⟨f0,f1,f2,f3,f4,f5⟩:=hf b hb
  exact ⟨f3,f1,f4,f5⟩
 ·obtain ⟨o,es,ep,ho,r⟩:=hm
  exact ⟨o,es,ep,k _ o (fun z=>(hf _ z).2.1 rfl) ho,r⟩
 ·by_cases hb:b=T
  ·subst hb
   rw [aF] at e
   cases e
   exact new
  ·rw [aD hb] at e
   refine (I.hok b u e).stay (fun c v hc q=>k c v (fun z=>?_) q) (fun q e'=>up _ _ e') fun c v q=>up _ _ q
   have f0:=(hf c z).1
   rcases hc with z' | z'
   ·rw [z',e] at f0;cases f0
   ·rw [z'] at f0;cases f0
theorem Inv.turnAll {X:Cx} {pins:List (Addr×Obj)} {σ:St} {H:Hp} {s:Shared} {h':Heap} {t':Nat} (ch:List Addr) (I:Inv X pins σ H s) (hf:∀ b∈ch,lE X pins H b)
  (k:∀ b o,b∉ch→s.heap.get? b=some o→h'.get? b=some o):Inv X pins σ H { s with heap:=h',toks:=t' }:=by
 refine I.step (g':=s.gens) (d':=s.drawn) (ch:=ch) (fun b hb=>?_) (fun b o _ _ hc e _=>k b o hc e) (fun b o _ _ hc e _=>⟨o.slots,k b o hc e⟩) (fun b o _ e n=>n)
  (fun b o hc e=>⟨o,k b o hc e⟩) (fun b u e=>e) (fun b o u e=>e) (fun b ps e=>⟨#[],by rw [e];simp⟩) (fun m hm=>?_) (fun b u e=>?_) I.bare
 ·obtain ⟨f0,f1,f2,f3,f4,f5⟩:=hf b hb
  exact ⟨f3,f1,f4,f5⟩
 ·obtain ⟨o,es,ep,ho,r⟩:=hm
  exact ⟨o,es,ep,k _ o (fun z=>(hf _ z).2.1 rfl) ho,r⟩
 ·refine (I.hok b u e).stay (fun c v hc q=>k c v (fun z=>?_) q) (fun q e'=>e') fun c v q=>q
  have f0:=(hf c z).1
  rcases hc with z' | z'
  ·rw [z',e] at f0;cases f0
  ·rw [z'] at f0;cases f0
section
variable {X:Cx} {a b:Expr} {elts:List Expr} {k0:Nat} {p0 pos p:Pos} {fa fb:EF}
end
end L2.L3
namespace L2.SX
open PySem
noncomputable def pP (xs:Array Nat):Prop:=xs.toList.Pairwise (·<·)
theorem pP.lt {xs:Array Nat} (h:pP xs) {i j:Nat} (hij:i<j) (hj:j<xs.size):xs[i]<xs[j]:=by
 have:=List.pairwise_iff_getElem.mp h i j (by simpa using Nat.lt_trans hij hj) (by simpa using hj) hij
 simpa using this
theorem a2W {xs:Array Nat} {j:Nat} (h:pP xs):∀ (fuel lo hi:Nat),hi - lo≤fuel→lo≤hi→hi≤xs.size→(∀ i (hi':i<xs.size),i<lo→xs[i]<j)→(∀ i (hi':i<xs.size),hi≤i→j≤xs[i]) →
  SetTable.below.go xs j fuel lo hi≤xs.size∧(∀ i (hi':i<xs.size),i<SetTable.below.go xs j fuel lo hi→xs[i]<j)∧∀ i (hi':i<xs.size),SetTable.below.go xs j fuel lo hi≤i→j≤xs[i]
 | 0,lo,hi,hf,hl,hs,h1,h2=>by
  have:lo=hi:=by omega
  subst this
  unfold SetTable.below.go
  exact ⟨hs,h1,h2⟩
 | fuel+1,lo,hi,hf,hl,hs,h1,h2=>by
  unfold SetTable.below.go
  by_cases hlt:lo<hi
  ·rw [if_pos hlt]
   dsimp only
   have hm:(lo+hi) / 2<xs.size:=by omega
   have hg:xs.getD ((lo+hi) / 2) j=xs[(lo+hi) / 2]:=by simp [Array.getD,hm]
   rw [hg]
   by_cases hc:xs[(lo+hi) / 2]<j
   ·rw [if_pos hc]
    refine a2W h fuel _ hi (by omega) (by omega) hs (fun i hi' hlt'=>?_) h2
    by_cases he:i=(lo+hi) / 2
    ·subst he;exact hc
    ·exact Nat.lt_trans (h.lt (by omega) hm) hc
   ·rw [if_neg hc]
    refine a2W h fuel lo _ (by omega) (by omega) (by omega) h1 (fun i hi' hge=>?_)
    by_cases he:i=(lo+hi) / 2
    ·subst he;omega
    ·have:=h.lt (i:=(lo+hi) / 2) (j:=i) (by omega) hi'
     omega
  ·rw [if_neg hlt]
   have:lo=hi:=by omega
   subst this
   exact ⟨hs,h1,h2⟩
theorem a3Q {xs:Array Nat} (h:pP xs) (j:Nat):SetTable.below xs j≤xs.size∧(∀ i (hi':i<xs.size),i<SetTable.below xs j→xs[i]<j)∧∀ i (hi':i<xs.size),SetTable.below xs j≤i→j≤xs[i]:=
 a2W h _ _ _ (by omega) (Nat.zero_le _) (Nat.le_refl _) (fun _ _ z=>absurd z (by omega)) (fun i hi' z=>absurd z (by omega))
theorem a1G {xs:Array Nat} (h:pP xs) {j:Nat} (hn:xs[SetTable.below xs j]?≠some j):pP (SetTable.insertAt xs (SetTable.below xs j) j):=by
 obtain ⟨b1,b2,b3⟩:=a3Q h j
 unfold pP
 rw [SetTable.toList_insertAt,List.pairwise_append]
 have ne:∀ i (hi':i<xs.size),SetTable.below xs j≤i→j<xs[i]:=fun i hi' hge=>by
  have a:=b3 i hi' hge
  by_cases e:xs[i]=j
  ·exfalso
   by_cases e2:i=SetTable.below xs j
   ·exact hn (by rw [←e2];simp [hi',e])
   ·have lt:SetTable.below xs j<i:=by omega
    have:=h.lt (i:=SetTable.below xs j) (j:=i) lt hi'
    have:=b3 (SetTable.below xs j) (by omega) (Nat.le_refl _)
    omega
  ·omega
 refine ⟨h.sublist (List.take_sublist _ _),?_,fun a ha b hb=>?_⟩
 ·rw [List.pairwise_cons]
  refine ⟨fun a ha=>?_,h.sublist (List.drop_sublist _ _)⟩
  obtain ⟨k,hk,e⟩:=List.mem_iff_getElem.mp ha
  rw [List.getElem_drop] at e
  subst e
  have:SetTable.below xs j+k<xs.size:=by simpa using (by rw [List.length_drop,Array.length_toList] at hk;omega:SetTable.below xs j+k<xs.size)
  have:=ne (SetTable.below xs j+k) this (by omega)
  simpa using this
 ·obtain ⟨k,hk,e⟩:=List.mem_iff_getElem.mp ha
  rw [List.getElem_take] at e
  subst e
  rw [List.length_take,Array.length_toList] at hk
  have k1:k<xs.size:=by omega
  have ak:=b2 k k1 (by omega)
  have ak':xs.toList[k]'(by simpa using k1)<j:=by simpa using ak
  rcases List.mem_cons.mp hb with rfl | hb
  ·exact ak'
  ·obtain ⟨k',hk',e'⟩:=List.mem_iff_getElem.mp hb
   rw [List.getElem_drop] at e'
   subst e'
   have k2:SetTable.below xs j+k'<xs.size:=by rw [List.length_drop,Array.length_toList] at hk';omega
   have:=ne (SetTable.below xs j+k') k2 (by omega)
   have:j<xs.toList[SetTable.below xs j+k']'(by simpa using k2):=by simpa using this
   omega
structure TOk (t:SetTable) (led:Bool):Prop where
 led:t.led=led
 rise:t.plain=true→pP t.place
theorem TOk.fresh (led:Bool):TOk (SetTable.fresh 0 0 led) led:=⟨rfl,fun _=>by simp [SetTable.fresh,pP]⟩
theorem TOk.standIn {t:SetTable} {led:Bool} (h:TOk t led) (n:Nat):TOk (t.standIn n) led:=⟨h.led,fun z=>by cases z⟩
theorem TOk.off {t:SetTable} {led:Bool} (h:TOk t led):TOk { t with plain:=false } led:=⟨h.led,fun z=>by cases z⟩
theorem TOk.orStandIn {t:SetTable} {led:Bool} (h:TOk t led) (n:Nat):TOk (t.orStandIn n) led:=by
 unfold SetTable.orStandIn
 split
 ·exact h
 ·exact h.standIn n
theorem a0o {t:SetTable} {j:Nat} (h:t.slot j=.empty∨t.slot j=.dummy):t.place[SetTable.below t.place j]?≠some j:=by
 intro z
 have:t.slot j=.live (SetTable.below t.place j):=by
  unfold SetTable.slot
  dsimp only
  rw [if_pos (by rw [z];simp)]
 rcases h with h | h<;>(rw [this] at h;cases h)
theorem jZ {t:SetTable} {f:Nat→Int} {h:Int}:∀ (fuel:Nat) (p:SetTable.Probe) (j:Nat) (d:Option Nat),(∀ k,p.dummy=some k→t.slot k=.dummy)→SetTable.probe.go t f h fuel p=some (.empty j d) →
  (t.slot j=.empty)∧∀ k,d=some k→t.slot k=.dummy
 | 0,p,j,d,_,e=>by unfold SetTable.probe.go at e;cases e
 | fuel+1,p,j,d,hd,e=>by
  unfold SetTable.probe.go at e
  split at e
  ·rename_i es
   cases (Option.some.inj e)
   exact ⟨es,hd⟩
  ·rename_i es
   refine jZ fuel _ j d (fun k hk=>?_) e
   have adv:∀ q:SetTable.Probe,(t.advance q).dummy=q.dummy:=fun q=>by unfold SetTable.advance;split<;>rfl
   rw [adv] at hk
   cases hk
   exact es
  ·split at e
   ·cases e
   ·refine jZ fuel _ j d (fun k hk=>?_) e
    have adv:∀ q:SetTable.Probe,(t.advance q).dummy=q.dummy:=fun q=>by unfold SetTable.advance;split<;>rfl
    rw [adv] at hk
    exact hd k hk
theorem TOk.layNew {t:SetTable} {led:Bool} (h:TOk t led) (es:Array (Int×Value)) (hs:Int) (x:Value):TOk (layNew t es hs x).2.1 led:=by
 unfold PySem.layNew
 split
 ·rename_i slot wd e
  dsimp only
  have hput:TOk (t.put slot).1 led:=by
   refine ⟨h.led,fun hp=>?_⟩
   have hr:pP t.place:=h.rise hp
   refine a1G hr (a0o ?_)
   unfold SetTable.freeSlot SetTable.probe at e
   split at e
   ·rename_i j d em
    obtain ⟨a,b⟩:=jZ _ _ j d (fun k hk=>by simp [SetTable.probeStart] at hk) em
    cases (Option.some.inj e)
    cases d with
    | none=>exact .inl a
    | some k=>exact .inr (b k rfl)
   ·cases e
  exact hput.orStandIn _
 ·exact h.standIn _
theorem TOk.relayAll {t:SetTable} {led:Bool} (h:TOk t led) (es:Array (Int×Value)) (wanted:Nat):TOk (relayAll t es wanted).2.1 led:=by
 unfold PySem.relayAll
 split
 ·rename_i t' order e
  dsimp only
  split
  ·unfold SetTable.relaid SetTable.laid at e
   cases ho:SetTable.layClean (SetTable.sizeAbove wanted - 1) (es.map (·.1)) with
   | none=>rw [ho] at e;cases e
   | some owner=>
    rw [ho] at e
    have e:=Option.some.inj e
    have e1:=(congrArg Prod.fst e).symm
    dsimp only at e1
    subst e1
    refine ⟨h.led,fun _=>?_⟩
    show List.Pairwise (·<·) _
    simp only [List.toList_toArray]
    rw [List.pairwise_map,List.pairwise_filterMap]
    refine List.pairwise_lt_range.imp ?_
    intro a b hab x hx y hy
    obtain ⟨u,_,rfl⟩:=Option.map_eq_some_iff.mp hx
    obtain ⟨v,_,rfl⟩:=Option.map_eq_some_iff.mp hy
    exact hab
  ·exact h.standIn _
 ·exact h.standIn _
end L2.SX
namespace L2.SX
open PySem PyProof.Rows
section
variable {prog:Program} {w:World} {K:Type} [DecidableEq K]
structure Good (knd:KeyKind prog w K) (h:Heap) (a:Addr) (ks:List K) (led:Bool):Prop where
 ex:∃ o es ep t,h.get? a=some o∧o.ExactSet∧o.data=.set es ep t∧ElemsOf knd es.toList∧(∀ k,k∈ks↔∃ e∈es.toList,knd.is k e.2=true)∧es.size=ks.length∧t.fits es.size=true∧TOk t led
 nd:ks.Nodup
 few:ks.length<scanBound
noncomputable def addK (ks:List K) (k:K):List K:=if k∈ks then ks else ks++[k]
variable {knd:KeyKind prog w K} {A:Around} {E:Value→Shared→Prop} {s:Shared} {a:Addr} {ks:List K} {led:Bool}
theorem Good.keeps {h h':Heap} (g:Good knd h a ks led) (k:∀ o,h.get? a=some o→h'.get? a=some o):Good knd h' a ks led:=by
 obtain ⟨o,es,ep,t,ho,r⟩:=g.ex
 exact ⟨⟨o,es,ep,t,k o ho,r⟩,g.nd,g.few⟩
theorem stored {h:Heap} {o:Obj} {es es':Array (Int×Value)} {ep:Nat} {t t':SetTable} (ho:h.get? a=some o) (hd:o.data=.set es ep t):(h.update a (Obj.putSet es' t')).get? a=some { o with data:=.set es' (ep+1) t' }:=by
 have e:=putSet_of es' t' hd
 have q:=Heap.get?_update_self (Obj.putSet es' t') ho (by rw [e];rfl)
 rw [e] at q
 exact q
theorem bQ {k:K} {x:Value} {Q:Bool→Shared→Prop} (hkey:knd.is k x=true) (hsc:x.scannable=true) (g:Good knd s.heap a ks led) (hroom:ks.length+1<scanBound)
  (h:∀ h' b,Heap.SameBut a s.heap h'→Good knd h' a (addK ks k) led→Q b { s with heap:=h' }):wpAny (model prog w) A (setAddHashed a x (knd.hash k)) Q E s:=by
 obtain ⟨o,es,ep,t,ho,hex,hd,hel,hmem,hn,hf,hT⟩:=g.ex
 have hb:es.size<scanBound:=by rw [hn];exact g.few
 unfold setAddHashed setAddHashedIn
 refine wpAny_holding (wpAny_bind (wpAny_setState_of ho hd hf ?_))
 dsimp only
 rw [byScan_of hsc hb hel]
 simp only [↓reduceIte]
 unfold setAddByScan
 refine wpAny_bind (wpAny_bind (wpAny_rule (wpAny_bind (wpAny_setScan_of hkey ho hd hf hel ?_))))
 cases hr:List.findIdx? (fun e=>knd.is k e.2) es.toList with
 | some j=>
  dsimp only
  obtain ⟨hj,hpj,_⟩:=List.findIdx?_eq_some_iff_getElem.mp hr
  have hk:k∈ks:=(hmem k).mpr ⟨es.toList[j],List.getElem_mem hj,hpj⟩
  refine wpAny_pure (wpAny_pure ?_)
  have q:=h s.heap false (Heap.SameBut.refl a s.heap) (by unfold addK;rw [if_pos hk];exact g)
  exact q
 | none=>
  dsimp only
  have hk:k∉ks:=fun z=>by
   obtain ⟨e,he,hp⟩:=(hmem k).mp z
   have:=List.findIdx?_eq_none_iff.mp hr e he
   rw [hp] at this
   cases this
  have gone:∀ (b:Bool) {s₁:Shared} {Q':Unit→Shared→Prop},Q' () s₁→wpAny (model prog w) A (match b with | true=>rule "set.scan.the-table-gave-way" | false=>pure ()) Q' E s₁:=by
   intro b s₁ Q' q
   cases b
   ·exact wpAny_pure q
   ·exact wpAny_rule q
  have hperm:=layNew_perm t es (knd.hash k) x
  have hfits:=layNew_fits t es (knd.hash k) x
  have hTL:=hT.layNew es (knd.hash k) x
  generalize layNew t es (knd.hash k) x=L at hperm hfits hTL ⊢
  obtain ⟨es1,t1,wd,gave⟩:=L
  dsimp only at hperm hfits hTL ⊢
  rw [Array.toList_push] at hperm
  have hel1:ElemsOf knd es1.toList:=(hel.push hkey hsc).perm hperm
  have hmem1:∀ k',k'∈addK ks k↔∃ e∈es1.toList,knd.is k' e.2=true:=by
   intro k'
   unfold addK
   rw [if_neg hk,List.mem_append,List.mem_singleton,hmem k']
   constructor
   ·rintro (⟨e,he,hp⟩ | rfl)
    ·exact ⟨e,hperm.mem_iff.mpr (List.mem_append_left _ he),hp⟩
    ·exact ⟨_,hperm.mem_iff.mpr (List.mem_append_right _ (List.mem_singleton.mpr rfl)),hkey⟩
   ·rintro ⟨e,he,hp⟩
    rcases List.mem_append.mp (hperm.mem_iff.mp he) with he | he
    ·exact .inl ⟨e,he,hp⟩
    ·rw [List.mem_singleton] at he
     subst he
     exact .inr (knd.inj x k' k hp hkey)
  have hlen:(addK ks k).length=ks.length+1:=by unfold addK;rw [if_neg hk];simp
  have hsz1:es1.size=(addK ks k).length:=by rw [hlen,←hn,←Array.length_toList,hperm.length_eq];simp
  have hb1:es1.size<scanBound:=by rw [hsz1,hlen];exact hroom
  have hnd:(addK ks k).Nodup:=by
   unfold addK
   rw [if_neg hk,List.nodup_append]
   exact ⟨g.nd,by simp,fun a ha b hb=>by rw [List.mem_singleton] at hb;subst hb;exact fun z=>hk (z▸ha)⟩
  have tail:∀ {gv:Bool→Sem Unit} (hgv:∀ (b:Bool) (s₁:Shared) (Q':Unit→Shared→Prop),Q' () s₁→wpAny (model prog w) A (gv b) Q' E s₁) {t2:SetTable},t2.fits es1.size=true→TOk t2 led→∀ {R:Option Bool→Shared→Prop},(∀ h',Heap.SameBut a s.heap h'→Good knd h' a (addK ks k) led→R (some true) { s with heap:=h' }) →
    wpAny (model prog w) A (do
     storeSet a es1 t2
     if (!wd&&t2.tooFull)=true then do
       gv (relayAll t2 es1 (SetTable.grown es1.size)).2.2
       storeSet a (relayAll t2 es1 (SetTable.grown es1.size)).1 (relayAll t2 es1 (SetTable.grown es1.size)).2.1
       pure (some true)
      else pure (some true)) R E s:=by
   intro gv hgv t2 hf2 hT2 R hR
   refine wpAny_bind (wpAny_storeSet_of ho hd ?_ (fits_of_scanBound hb1))
   have ho1:=stored (es':=es1) (t':=t2) ho hd
   have sb1:=Heap.SameBut.update s.heap a (Obj.putSet es1 t2)
   split
   ·have p2:=relayAll_perm t2 es1 (SetTable.grown es1.size)
    have f2:=relayAll_fits t2 es1 (SetTable.grown es1.size)
    have hT3:=hT2.relayAll es1 (SetTable.grown es1.size)
    generalize relayAll t2 es1 (SetTable.grown es1.size)=W at p2 f2 hT3 ⊢
    obtain ⟨es2,t3,gv2⟩:=W
    dsimp only at p2 f2 hT3 ⊢
    have sz2:es2.size=es1.size:=by rw [←Array.length_toList,p2.length_eq,Array.length_toList]
    refine wpAny_bind (hgv _ _ _ ?_)
    refine wpAny_bind (wpAny_storeSet_of ho1 rfl ?_ (fits_of_scanBound (by rw [sz2];exact hb1)))
    have ho2:=stored (a:=a) (es':=es2) (t':=t3) ho1 rfl
    refine wpAny_pure (hR _ (sb1.trans (Heap.SameBut.update _ a _)) ⟨⟨_,es2,_,t3,ho2,hex,rfl,hel1.perm p2,fun k'=>(hmem1 k').trans ⟨fun ⟨e,he,q⟩=>⟨e,p2.mem_iff.mpr he,q⟩,fun ⟨e,he,q⟩=>⟨e,p2.mem_iff.mp he,q⟩⟩,by rw [sz2];exact hsz1,f2,hT3⟩,hnd,by rw [hlen];exact hroom⟩)
   ·exact wpAny_pure (hR _ sb1 ⟨⟨_,es1,_,t2,ho1,hex,rfl,hel1,hmem1,hsz1,hf2,hT2⟩,hnd,by rw [hlen];exact hroom⟩)
  refine wpAny_bind (gone _ ?_)
  split
  ·refine wpAny_bind ?_
   rw [hashByValue_scannable 8 hsc]
   refine wpAny_pure ?_
   split
   ·refine tail (fun b s₁ Q' q=>by cases b<;>first | exact wpAny_pure q | exact wpAny_rule q) hfits hTL fun h' sb gg=>?_
    dsimp only
    exact wpAny_pure (h h' true sb gg)
   ·refine tail (fun b s₁ Q' q=>by cases b<;>first | exact wpAny_pure q | exact wpAny_rule q) (SetTable.fits_plain_off hfits) hTL.off fun h' sb gg=>?_
    dsimp only
    exact wpAny_pure (h h' true sb gg)
  ·refine wpAny_bind (wpAny_pure ?_)
   simp only [↓reduceIte]
   refine tail (fun b s₁ Q' q=>by cases b<;>first | exact wpAny_pure q | exact wpAny_rule q) hfits hTL fun h' sb gg=>?_
   dsimp only
   exact wpAny_pure (h h' true sb gg)
end
section
variable {prog:Program} {w:World} {K:Type} [DecidableEq K] {knd:KeyKind prog w K} {A:Around} {R:Result→Shared→Prop} {I:Addr} {fp wr:List Addr} {G:Array GenState→Array GenState→Prop} {n:Nat} {P:Nat→Value→Prop} {St:Nat→Shared→Prop} {led:Bool}
noncomputable def metK (val:Nat→K) (i:Nat):List K:=((List.range i).map val).foldl addK []
theorem qS (val:Nat→K) (i:Nat):metK val (i+1)=addK (metK val i) (val i):=by unfold metK;rw [List.range_succ,List.map_append,List.foldl_append];rfl
theorem uW (val:Nat→K):∀ i,(metK val i).length≤i
 | 0=>by simp [metK]
 | i+1=>by
  have:=uW val i
  rw [qS];unfold addK;split
  ·omega
  ·simp;omega
theorem a5f (W:WalksS prog w A.in1 I fp wr G n P St) (S:Addr) (hSf:S∉fp) (val:Nat→K) (hval:∀ i v,P i v→knd.is (val i) v=true∧v.scannable=true)
  (hpy:∀ i v (A':Around) (E':Value→Shared→Prop) (s':Shared) (Q':Int→Shared→Prop),P i v→Q' (knd.hash (val i)) { s' with toks:=s'.toks+1 }→wpAny (model prog w) A' (pyHash v) Q' E' s') (hb:n+1<scanBound) :
  ∀ (m i:Nat) (s:Shared),n - i=m→i≤n→St i s→Good knd s.heap S (metK val i) led→(∀ s',Moved (S::wr) G s s'→Good knd s'.heap S (metK val n) led→R (.ok (.ret .none)) s') →
   codeAny (model prog w) A (.builtin "set.update.loop" ⟨[.ref S,.ref I],[]⟩) R s:=by
 have nw:S∉wr:=fun z=>hSf (W.sub _ z)
 have up:∀ b∈wr,b∈S::wr:=fun b hb=>List.mem_cons_of_mem _ hb
 intro m
 induction m with
 | zero=>
  intro i s hm hi st g hR
  obtain rfl:i=n:=by omega
  refine codeAny_builtin F.entry_set_update_loop ?_
  rw [Around.under_plainId F.plain_set_update_loop _]
  show wpAny _ A.in1 (pyNext (.ref I)>>=_) _ _ s
  refine wpAny_bind (W.done s _ _ st fun s' mv=>?_)
  exact wpAny_pure (hR s' (mv.mono up) (g.keeps fun o e=>mv.heap S o nw e))
 | succ m ih=>
  intro i s hm hi st g hR
  have lt:i<n:=by omega
  refine codeAny_builtin F.entry_set_update_loop ?_
  rw [Around.under_plainId F.plain_set_update_loop _]
  show wpAny _ A.in1 (pyNext (.ref I)>>=_) _ _ s
  refine wpAny_bind (W.item i s _ _ lt st fun v s' pv st' mv=>?_)
  have g':=g.keeps (h':=s'.heap) fun o e=>mv.heap S o nw e
  obtain ⟨hk,hsc⟩:=hval i v pv
  show wpAny _ A.in1 (holding [v] (setAdd S v)>>=_) _ _ s'
  refine wpAny_bind (wpAny_holding ?_)
  unfold setAdd
  refine wpAny_holding (wpAny_bind (hpy i v _ _ _ _ pv ?_))
  have room:(metK val i).length+1<scanBound:=by have:=uW val i;omega
  refine bQ (knd:=knd) (s:={ s' with toks:=s'.toks+1 }) hk hsc g' room fun h' b sb g2=>?_
  rw [←qS] at g2
  refine wpAny_pure ⟨plainId_quiet F.plain_set_update_loop _,ih (i+1) _ (by omega) lt (W.frame _ s' _ _ st' (Nat.le_succ _) fun c hc o e=>?_) g2 fun s'' mv'' g''=>?_⟩
  ·rw [sb.2 c (fun z:c=S=>hSf (z▸hc))]
   exact e
  ·refine hR s'' (Moved.trans W.gtrans ((mv.mono up).then_heap (Nat.le_succ _) fun c o hc e=>?_) mv'') g''
   rw [sb.2 c (fun z:c=S=>hc (by rw [z];exact List.mem_cons_self))]
   exact e
end
end L2.SX
namespace L2.SX
open PySem PyProof.Rows
noncomputable def ledOf (w:World):Bool:=!w.params.followText "set-order"
noncomputable abbrev bN (w:World):Obj:={ cls:=.type "set", dict:=none,data:=.set #[] 0 (.fresh 0 0 (ledOf w)) }
section
variable {prog:Program} {w:World} {A:Around} {E:Value→Shared→Prop} {s:Shared} {K:Type} [DecidableEq K] {knd:KeyKind prog w K}
theorem vI (h:Heap):Good knd (h.push (bN w)) h.objs.size [] (ledOf w):=
 ⟨⟨_,#[],0,_,Heap.get?_push_size _ rfl,⟨rfl,rfl,rfl⟩,rfl,fun e he=>by simp at he,fun k=>by simp,rfl,rfl,.fresh _⟩,List.nodup_nil,by show 0<scanBound;decide⟩
theorem new_one (v:Value) {Q1:Value→Shared→Prop} (h:Q1 (.ref s.heap.objs.size) { s with heap:=s.heap.push (bN w) }):codeAny (model prog w) A (.call (.builtin "set.__new__") ⟨[.type "set", v],[]⟩) (wants Q1 E) s:=by
 refine codeAny_of_tree ?_
 show wpAny _ A.in1 (checkBuiltinCall "set.__new__" ⟨[.type "set", v],[]⟩>>=fun _=>again (.builtin "set.__new__" ⟨[.type "set", v],[]⟩)) _ _ s
 refine wpAny_bind (wpAny_of_eq (F.newCall_set_1 v) (wpAny_pure ⟨plainId_quiet F.plain_set_new _,codeAny_builtin F.entry_set_new ?_⟩))
 rw [Around.under_plainId F.plain_set_new _]
 unfold Builtin.«set.__new__» Builtin.Frozenset.newClass
 have sub:=sub_set_self
 obtain ⟨hp,gs,dr,tk,os⟩:=s
 dsimp only
 wp_walk
 refine wpAny_askSetting (wpAny_pure ?_)
 dsimp only [newObj]
 exact wpAny_bind (wpAny_alloc (wpAny_pure (wpAny_pure h)))
theorem set_of {l:Addr} {items:Array Value} {val:Nat→K} {Q:Value→Shared→Prop} (hh:A.handled=none) (hl:s.heap.IsList l items) (hval:∀ i v,items[i]?=some v→knd.is (val i) v=true∧v.scannable=true)
  (hpy:∀ i v (A':Around) (E':Value→Shared→Prop) (s':Shared) (Q':Int→Shared→Prop),items[i]?=some v→Q' (knd.hash (val i)) { s' with toks:=s'.toks+1 }→wpAny (model prog w) A' (pyHash v) Q' E' s') (hb:items.size+1<scanBound)
  (h:∀ (h':Heap) (tk:Nat),Good knd h' s.heap.objs.size (metK val items.size) (ledOf w)→(∀ b o,b<s.heap.objs.size→s.heap.get? b=some o→h'.get? b=some o)→Q (.ref s.heap.objs.size) { s with heap:=h',toks:=tk }) :
  wpAny (model prog w) A (call (.type "set") [.ref l]) Q E s:=by
 obtain ⟨c,tl,hmro⟩:=F.called_set.mro
 have hmade:=F.called_set.made
 have hsub:=F.called_set.sub
 refine wpAny_call (codeAny_of_tree ?_)
 show wpAny _ _ (callAny (.type "set") ⟨[.ref l],[]⟩) _ _ _
 refine wpAny_pure ⟨Code.quiet_builtin _ (by decide +kernel),codeAny_builtin F.entry_type_call ?_⟩
 rw [Around.under_plain (weight_type_call_type "set" [.ref l] []) rfl]
 have n1:=F.called_set.notType
 have n2:=F.called_set.canCreate
 have n3:=F.typeCall_set_1 (.ref l)
 repeat (any_goals (first | assumption | wp_step))
 refine codeAny_mono (new_one (.ref l) (E:=E) (Q1:=fun ob s1=>ob=.ref s.heap.objs.size∧s1={ s with heap:=s.heap.push (bN w) }) ⟨rfl,rfl⟩) fun r s1 hr=>?_
 cases r with
 | error e=>exact hr
 | ok fl=>
  cases fl with
  | ret ob=>
   obtain ⟨rfl,rfl⟩:=hr
   have hS:(s.heap.push (bN w)).get? s.heap.objs.size=some (bN w):=Heap.get?_push_size _ rfl
   have hT:Shared.TypeIs { s with heap:=s.heap.push (bN w) } (.ref s.heap.objs.size) "set" := ⟨_,hS,rfl⟩
   have k1:=F.called_set.init.lookup
   have k2:=F.called_set.init.bind (.ref s.heap.objs.size)
   repeat (any_goals (first | assumption | wp_step))
   refine codeAny_mono (codeAny_call_builtin (R:=wants (fun r s2=>r=.none∧∃ h' tk,s2={ s with heap:=h',toks:=tk }∧Good knd h' s.heap.objs.size (metK val items.size) (ledOf w)∧∀ b o,b<s.heap.objs.size→s.heap.get? b=some o→h'.get? b=some o) E)
    F.called_set.init.plain F.entry_set_init (check_set_init_1 hT ?_)) fun r2 s2 hr2=>?_
   ·obtain ⟨ol,g0,c0,nl,d0⟩:=hl
    obtain ⟨ocl,odc,odt,osl⟩:=ol
    dsimp only at c0 d0
    subst c0 d0
    have g1:(s.heap.push (bN w)).get? l=some { cls:=.type "list", dict:=odc,data:=.seq items nl,slots:=osl }:=Heap.get?_push_of_some _ g0
    have s1:=F.sub_list_set
    have s2:=F.sub_list_frozenset
    have ne:(Value.type "list" == Value.type "dict")=false:=by decide
    have L1:(s.heap.push (bN w)).IsList l items:=⟨_,g1,rfl,nl,rfl⟩
    unfold Builtin.«set.__init__» noKeywords Builtin.Frozenset.updateFrom
    generalize hI:pyIter=PI
    wp_walk
    subst hI
    refine wpAny_pyIter_list L1 (wpAny_bind (wpAny_runValue ?_))
    have lt:l<s.heap.objs.size:=Heap.lt_size g0
    have h3:A.in1.in1.in1.handled=none:=by simp [hh]
    have nI:l≠(s.heap.push (bN w)).objs.size:=by
     rw [Heap.size_push];exact Nat.ne_of_lt (Nat.lt_succ_of_lt lt)
    have nf:s.heap.objs.size∉[(s.heap.push (bN w)).objs.size,l]:=by
     rw [Heap.size_push]
     intro z
     rcases List.mem_cons.mp z with z | z
     ·exact absurd z (Nat.ne_of_lt (Nat.lt_succ_self _))
     ·rw [List.mem_singleton] at z
      exact absurd z (Nat.ne_of_gt lt)
    refine a5f (knd:=knd) (led:=ledOf w) ((Walks.list h3 _ l nI items).toS) s.heap.objs.size nf val hval hpy hb (items.size - 0) 0 _ (by omega) (Nat.zero_le _) ⟨⟨_,Heap.get?_push_size _ rfl,rfl,rfl⟩,L1.push _⟩ ?g0 ?gR
    case g0=>exact (vI (knd:=knd) s.heap).keeps fun o e=>Heap.get?_push_of_some _ e
    case gR=>
     intro s' mv g'
     obtain ⟨h',gs',dr',tk',os'⟩:=s'
     obtain rfl:gs'=s.gens:=mv.gens
     obtain rfl:dr'=s.drawn:=mv.drawn
     obtain rfl:os'=s.os:=mv.os
     show wpAny _ _ _ _ _ _
     refine wpAny_pure ?_
     show wpAny _ _ (ret Value.none) _ _ _
     refine wpAny_pure ⟨rfl,h',tk',rfl,g',fun b o hb' e=>?_⟩
     refine mv.heap b o (fun z=>?_) (Heap.get?_push_of_some _ (Heap.get?_push_of_some _ e))
     rcases List.mem_cons.mp z with z | z
     ·exact absurd z (Nat.ne_of_lt hb')
     ·rw [List.mem_singleton,Heap.size_push] at z
      exact absurd z (Nat.ne_of_lt (Nat.lt_succ_of_lt hb'))
   ·cases r2 with
    | error e=>exact hr2
    | ok fl2=>
     cases fl2 with
     | ret r=>
      obtain ⟨rfl,h',tk,rfl,g',kp⟩:=hr2
      repeat (any_goals (first | assumption | wp_step))
      exact h _ _ g' kp
     | _=>exact hr2.elim
  | _=>exact hr.elim
end
end L2.SX
namespace L2.SX
open PySem PyProof.Rows
section
variable {prog:Program} {w:World} {A:Around} {E:Value→Shared→Prop} {s:Shared} {a I:Addr} {es:Array (Int×Value)} {ep i:Nat} {t:SetTable}
end
end L2.SX
namespace L2.SX
open PySem PyProof.Rows
section
variable {prog:Program} {w:World} {A:Around} {E:Value→Shared→Prop} {s:Shared} {a I T:Addr} {es:Array (Int×Value)} {ep i:Nat} {t:SetTable}
end
end L2.SX
namespace L2.SX
open PySem PyProof.Rows
section
variable {prog:Program} {w:World} {E:Value→Shared→Prop} {a I T:Addr} {es:Array (Int×Value)} {ep:Nat} {t:SetTable}
end
end L2.SX
namespace L2.SX
open PySem PyProof.Rows
section
variable {prog:Program} {w:World} {E:Value→Shared→Prop} {a:Addr} {es:Array (Int×Value)} {ep:Nat} {t:SetTable}
end
end L2.SX
namespace L2.SX
open PySem PyProof.Rows
section
variable {prog:Program} {w:World} {K:Type} [DecidableEq K] {knd:KeyKind prog w K}
variable {A:Around} {E:Value→Shared→Prop} {s:Shared} {a:Addr} {es:Array (Int×Value)} {ep:Nat} {t:SetTable}
end
end L2.SX
namespace L2.L3
open PySem PySem.Spec PyProof.Rows
noncomputable def EndO (X:Cx) (H0 G₀ G:Hp) (ρ:List Ent) (H:Hp) (Q:Option Int→Hp→Prop):Re (Option Int)→Prop
 | .ok b=>∀ G' H',Grow G H G' H'→Q b H'
 | .ex c=>gM X H0 G₀ G ρ c
noncomputable def rO (X:Cx) (f:OF):TO:=fun σ H Q=>∃ ρ r H0 G₀ G,f ρ=some r∧RepS X.K H0 G₀ G H σ ρ∧EndO X H0 G₀ G ρ H Q r
structure DO (X:Cx) (e:Option Expr) (f:OF):Prop where
 run:PO X e (rO X f)
section
variable {X:Cx} {H0 G₀ G G1 H H1:Hp} {ρ:List Ent} {σ:St} {a b c d e:Expr} {lo hi:Option Expr} {pos p p2 pos2:Pos} {fa fb fc fd:EF} {fl fh:OF}
theorem bO {fa:OF} {β:Type} {k:Option Int→Mm β} {r:Re β} (R:RepS X.K H0 G₀ G H σ ρ) (e:bnd (fa ρ) k=some r) {T:Option Int→Hp→Prop} (hx:∀ c,r=.ex c→gM X H0 G₀ G ρ c)
  (h:∀ x G1 H1,Grow G H G1 H1→RepS X.K H0 G₀ G1 H1 σ ρ→k x=some r→T x H1):rO X fa σ H T:=by
 rcases cQ e with ⟨x,e1,e2⟩ | ⟨c,e1,e2⟩
 ·exact ⟨ρ,_,H0,G₀,G,e1,R,fun G1 H1 g1=>h x G1 H1 g1 (R.more g1) e2⟩
 ·exact ⟨ρ,_,H0,G₀,G,e1,R,hx c e2⟩
theorem nG:DO X none iP:=⟨fun pins s σ H Q I ⟨ρ,r,H0,G₀,G,e,R,q⟩=>by
 cases (Option.some.inj e)
 exact a4v pins s σ H Q I (q G H (.refl R.sub))⟩
theorem nF (ha:DE X a fa):DO X (some a) (iO fa):=⟨fun pins s σ H Q I ⟨ρ,r,H0,G₀,G,e,R,q⟩=>by
 refine a4u ha.run pins s σ H Q I (bE R e (fun c z=>by subst z;exact q) fun x v G1 H1 g1 R1 rv e1=>?_)
 obtain ⟨k,ek,rfl⟩:=bI e1
 cases x<;>simp only [intD,Option.map] at ek<;>cases ek
 cases rv
 exact ⟨_,rfl,q G1 H1 g1⟩⟩
theorem zR (ha:DE X a fa) (hl:DO X lo fl) (hh:DO X hi fh):DE X (.Subscript a (.Slice lo hi none p2) pos) (slE fa fl fh):=⟨fun pins s σ H Q I ⟨ρ,r,H0,G₀,G,e,R,q⟩=>
 a1U (a4h.or sl_tup) ha.run hl.run hh.run pins s σ H Q I (bE R e q.x fun x v G1 H1 g1 R1 rv e1=>bO R1 e1 (q.more g1).x fun l G2 H2 g2 R2 e2=>bO R2 e2 ((q.more g1).more g2).x fun h G3 H3 g3 R3 e3=>by
  obtain ⟨d,ed,rfl⟩:=bI e3
  have g23:=g2.trans g3
  unfold slD at ed
  split at ed
  ·cases (Option.some.inj ed)
   cases rv with
   | list hq r=>
    refine .inl ⟨_,_,rfl,(g23.gg.trans g23.sub).seq hq,fun l hl=>q _ _ _ ((g1.trans g23).trans (.put g23.sub hl)) ?_⟩
    exact .list (.of aF) (vT (r.mono (g23.gg.trans (aY (g23.sub.free hl)))) _ _)
  ·split at ed
   ·cases ed
   ·rename_i hw
    cases (Option.some.inj ed)
    cases rv with
    | tuple hq r=>
     refine .inr ⟨_,_,rfl,iC (g23.gg.trans g23.sub) hq,by rw [r.length];exact hw,fun l hl=>q _ _ _ ((g1.trans g23).trans (.put g23.sub hl)) ?_⟩
     exact .tuple (.of aF) (vT (r.mono (g23.gg.trans (aY (g23.sub.free hl)))) _ _)
  ·cases ed)⟩
theorem yJ {vs:List Value} {ns:List Str} (h:StrsAre vs ns):∀ (i:Nat) (v:Value),vs[i]?=some v→∃ t:Tok,v=Value.str (ns.getD i "") t:=by
 induction h with
 | nil=>intro i v e;simp at e
 | cons n t _ ih=>
  intro i v e
  cases i with
  | zero=>simp at e;exact ⟨t,by simp [←e]⟩
  | succ i=>simpa using ih i v (by simpa using e)
theorem wN {ns:List Str}:∀ {us:List Value},aR (ns.map V.str) us→StrsAre us ns:=by
 induction ns with
 | nil=>intro us r;cases r;exact .nil
 | cons n ns ih=>intro us r;cases r with | cons r1 r2=>obtain ⟨t,rfl⟩:=r1;exact .cons n t (ih r2)
theorem uI {vs:List Value} {ns:List Str} (h:StrsAre vs ns):vs.length=ns.length:=by induction h<;>simp [*]
theorem uY {a b c:Str} (h1:cM a b=true) (h2:cM b c=true):cM a c=true:=by
 unfold cM at *
 simp only [Bool.not_eq_true',decide_eq_false_iff_not,List.not_lt] at *
 exact List.le_trans h1 h2
theorem jC (a b:Str):(cM a b || cM b a)=true:=by
 unfold cM
 simp only [Bool.or_eq_true,Bool.not_eq_true',decide_eq_false_iff_not,List.not_lt]
 exact List.le_total _ _
theorem xH {a b:Str} (h1:cM a b=true) (h2:cM b a=true):a=b:=by
 unfold cM at *
 simp only [Bool.not_eq_true',decide_eq_false_iff_not,List.not_lt] at *
 have e:=List.le_antisymm h1 h2
 cases a;cases b
 congr 1
 exact Array.toList_inj.mp e
end
section
variable {X:Cx} {H0 G₀ G G1 H H1:Hp} {ρ:List Ent} {σ:St} {a b c d e iter:Expr} {es:List Expr} {pos p p2 pos2 px:Pos} {x:Str} {fa fb fc fd:EF}
end
section
variable {X:Cx} {H0 G₀ G G1 H H1:Hp} {ρ:List Ent} {σ:St} {a b c d e iter:Expr} {es:List Expr} {pos p p2 pos2 px:Pos} {x:Str} {fa fb fc fd:EF}
end
section
variable {X:Cx} {H0 G₀ G G1 H H1:Hp} {ρ:List Ent} {σ:St} {a b c d e iter:Expr} {es:List Expr} {pos p p2 pos2 px:Pos} {x:Str} {fa fb fc fd:EF}
end
noncomputable def pD (ds:List PyData):List PyData:=(List.range ds.length).map fun (k:Nat)=>.tuple [.int (k:Int),ds.getD k .none]
theorem zM (ds:List PyData) (i:Nat):(pD ds)[i]?=(ds[i]?).map fun d=>.tuple [.int (i:Int),d]:=by
 unfold pD
 rw [List.getElem?_map]
 by_cases h:i<ds.length
 ·rw [List.getElem?_range h,List.getElem?_eq_getElem h];simp [h]
 ·rw [List.getElem?_eq_none (by simp;omega),List.getElem?_eq_none (by omega)];rfl
section
variable {X:Cx} {a b e:Expr} {elts:List Expr} {k0:Nat} {p0 pos p:Pos} {fa fb:EF} {st:Stmt}
end
end L2.L3
namespace L2.ZT
open PySem PyProof.Rows
section
variable {prog:Program} {w:World} {A:Around} {E:Value→Shared→Prop} {s:Shared}
theorem tup_next {c t:Addr} {i:Nat} {xs:Array Value} {x:Value} {Q:Value→Shared→Prop} (hc:s.heap.IsTupleIter c t i) (ht:s.heap.IsTuple t xs) (hx:xs[i]?=some x)
  (q:∀ k,k.IsTupleIter c t (i+1)→Heap.SameBut c s.heap k→Q x { s with heap:=k }):wpAny (model prog w) A (Builtin.SmallTypes.nextOf (.ref c)) Q E s:=by
 obtain ⟨oc,gc,ec,dc⟩:=id hc
 obtain ⟨ot,gt,_,nt,dt⟩:=ht
 unfold Builtin.SmallTypes.nextOf
 refine wpAny_bind (wpAny_callSpecial?_slot (name:=Str.ofString "__next__") hc.typeIs F.slot_tuple_iterator_next (wpAny_call_entry F.slot_tuple_iterator_next hc.typeIs F.entry_tuple_iterator_next ?_ (F.args_tuple_iterator_next_1 _)))
 show wpAny _ _ (field (.ref c) 0>>=_) _ _ s
 refine wpAny_bind (wpAny_field gc dc (x:=.ref t) rfl ?_)
 show wpAny _ _ (if (Value.ref t==Value.none)=true then _ else _) _ _ s
 rw [if_neg (fun z=>by cases z)]
 show wpAny _ _ (field (.ref c) 1>>=_) _ _ s
 refine wpAny_bind (wpAny_field gc dc (x:=.int i 0) rfl ?_)
 show wpAny _ _ (seqItems? (.ref t)>>=_) _ _ s
 refine wpAny_bind (wpAny_seqItems gt dt ?_)
 simp only [Int.toNat_natCast,hx]
 refine wpAny_bind (wpAny_setField gc dc (by simp) (wpAny_pure ⟨x,rfl,wpAny_pure (q _ ?_ (Heap.SameBut.update ..))⟩))
 refine ⟨_,Heap.get?_update_self _ gc (Obj.isFreed_of_fields (Obj.data_mapFields dc _)),(Obj.cls_mapFields ..).trans ec,?_⟩
 rw [Obj.data_mapFields dc]
 simp [rawInt]
theorem tup_stop {c t:Addr} {i:Nat} {xs:Array Value} {Q:Value→Shared→Prop} (hh:A.handled=none) (hc:s.heap.IsTupleIter c t i) (ht:s.heap.IsTuple t xs) (hx:xs[i]?=none)
  (q:∀ k e,Heap.ExtBut c s.heap k→(∃ o,k.get? e=some o∧o.cls=.type "StopIteration")→E (.ref e) { s with heap:=k }):wpAny (model prog w) A (Builtin.SmallTypes.nextOf (.ref c)) Q E s:=by
 obtain ⟨oc,gc,ec,dc⟩:=id hc
 obtain ⟨ot,gt,_,nt,dt⟩:=ht
 unfold Builtin.SmallTypes.nextOf
 refine wpAny_bind (wpAny_callSpecial?_slot (name:=Str.ofString "__next__") hc.typeIs F.slot_tuple_iterator_next (wpAny_call_entry F.slot_tuple_iterator_next hc.typeIs F.entry_tuple_iterator_next ?_ (F.args_tuple_iterator_next_1 _)))
 show wpAny _ _ (field (.ref c) 0>>=_) _ _ s
 refine wpAny_bind (wpAny_field gc dc (x:=.ref t) rfl ?_)
 show wpAny _ _ (if (Value.ref t==Value.none)=true then _ else _) _ _ s
 rw [if_neg (fun z=>by cases z)]
 show wpAny _ _ (field (.ref c) 1>>=_) _ _ s
 refine wpAny_bind (wpAny_field gc dc (x:=.int i 0) rfl ?_)
 show wpAny _ _ (seqItems? (.ref t)>>=_) _ _ s
 refine wpAny_bind (wpAny_seqItems gt dt ?_)
 simp only [Int.toNat_natCast,hx]
 refine wpAny_bind (wpAny_rule (wpAny_bind (wpAny_setField gc dc (by simp) ?_)))
 unfold Builtin.SmallTypes.stopIteration
 refine wpAny_bind ?_
 simp only [newExc,newTuple]
 refine wpAny_bind (wpAny_newObj_type ?_ (by size_fits))
 refine wpAny_bind (m:=firstArgMember _ _) (wpAny_of_eq (a:=Value.none) (by simp only [firstArgMember];rfl) ?_)
 refine wpAny_newObj_type ?_ (by size_fits)
 simp only [raiseNew]
 refine wpAny_bind (wpAny_handled ?_)
 rw [show A.in1.handled=none from hh]
 refine wpAny_bind (wpAny_pure (wpAny_throw (q _ _ ?_ ⟨_,Heap.get?_push_size _ rfl,rfl⟩)))
 exact ((Heap.SameBut.update ..).extBut.push _).push _
variable {z TI TO c d t u:Addr} {i j:Nat} {xs ys:Array Value} {a b:Value}
end
section
variable {prog:Program} {w:World} {A:Around} {E:Value→Shared→Prop} {s:Shared}
end
end L2.ZT
namespace L2.L3
open PySem PySem.Spec PyProof.Rows
noncomputable def Itt (K:PySem.W.Frag) (l1 l2:Addr):It:=
 ⟨fun i H=>∃ xs ys x y,SqT K H l1 xs∧SqT K H l2 ys∧xs[i]?=some x∧ys[i]?=some y,
 fun i H v H'=>∃ T x y,H T=none∧v=.ref T∧H'=upd H T (.tup [x,y])∧(∀ xs,SqT K H l1 xs→xs[i]?=some x)∧∀ ys,SqT K H l2 ys→ys[i]?=some y,
 fun i H=>∃ xs ys,SqT K H l1 xs∧SqT K H l2 ys∧(xs.length≤i∨ys.length≤i)⟩
section
variable {X:Cx} {a b:Expr} {elts:List Expr} {k0:Nat} {p0 pos p:Pos} {fa fb:EF}
end
end L2.L3
namespace L2.ST
open PySem PySem.W PyProof.Rows
section
variable {α β:Type} {lt:Nat→Nat→Bool} {n:Nat}
noncomputable def run (lt:Nat→Nat→Bool):KasT α→α
 | .ret a=>a
 | .ask i j k=>run lt (k (lt i j))
noncomputable def asks (n:Nat) (lt:Nat→Nat→Bool):KasT α→Prop
 | .ret _=>True
 | .ask i j k=>i<n∧j<n∧asks n lt (k (lt i j))
noncomputable def Hq (n:Nat) (lt:Nat→Nat→Bool) (t:KasT α) (Q:α→Prop):Prop:=asks n lt t∧Q (run lt t)
theorem fD {a:α} {Q:α→Prop} (h:Q a):Hq n lt (.ret a) Q:=⟨trivial,h⟩
theorem lX {i j:Nat} {k:Bool→KasT α} {Q:α→Prop} (hi:i<n) (hj:j<n) (h:Hq n lt (k (lt i j)) Q):Hq n lt (.ask i j k) Q:=⟨⟨hi,hj,h.1⟩,h.2⟩
theorem jO {f:α→KasT β} {Q:β→Prop}:∀ {t:KasT α},Hq n lt t (fun a=>Hq n lt (f a) Q)→Hq n lt (t.bind f) Q
 | .ret _,h=>h.2
 | .ask i j k,h=>lX h.1.1 h.1.2.1 (jO (t:=k (lt i j)) ⟨h.1.2.2,h.2⟩)
theorem eO {t:KasT α} {Q Q':α→Prop} (h:Hq n lt t Q) (hq:∀ a,Q a→Q' a):Hq n lt t Q':=⟨h.1,hq _ h.2⟩
theorem wp_run {cmp:Nat→Nat→(Bool→Shared→Prop)→Shared→Prop} {s:Shared} (hc:∀ i j C,i<n→j<n→C (lt i j) s→cmp i j C s):∀ (t:KasT α) {Q:α→Shared→Prop},asks n lt t→Q (run lt t) s→t.kasWp cmp Q s
 | .ret _,_,_,h=>h
 | .ask i j k,Q,a,h=>hc i j _ a.1 a.2.1 (wp_run hc (k (lt i j)) a.2.2 h)
end
section
variable {r:Nat→Int} {n:Nat} {p:Array Nat}
noncomputable def vl (r:Nat→Int) (p:Array Nat) (k:Nat):Int:=r (p.getD k 0)
noncomputable def ltr (r:Nat→Int) (i j:Nat):Bool:=decide (r i<r j)
noncomputable def Up (r:Nat→Int) (p:Array Nat) (k:Nat):Prop:=∀ i j,i≤j→j<k→vl r p i≤vl r p j
noncomputable def kD (r:Nat→Int) (p:Array Nat) (k:Nat):Prop:=∀ i j,i≤j→j<k→vl r p j≤vl r p i
structure Pm (n:Nat) (p:Array Nat):Prop where
 size:p.size=n
 perm:p.Perm (List.range n).toArray
theorem Pm.lt (h:Pm n p) (hn:0<n) (k:Nat):p.getD k 0<n:=by
 by_cases hk:k<p.size
 ·have e:p.getD k 0=p[k]:=by simp [Array.getD,hk]
  rw [e]
  have:p[k]∈(List.range n).toArray:=h.perm.mem_iff.mp (Array.getElem_mem hk)
  simpa using this
 ·have e:p.getD k 0=0:=by simp [Array.getD,hk]
  rw [e];exact hn
theorem Pm.rev (h:Pm n p) (i j:Nat):Pm n (kas_rev p i j):=⟨by unfold kas_rev;rw [mirror_size];exact h.size,(mirror_perm _ _ _ _).trans h.perm⟩
theorem Pm.bub (h:Pm n p) (i j:Nat):Pm n (bubble p i j):=⟨by rw [bubble_size];exact h.size,(bubble_perm _ _ _).trans h.perm⟩
theorem kP {p q:Array Nat} {i j:Nat} (h:p[i]?=q[j]?):p.getD i 0=q.getD j 0:=by
 rw [Array.getD_eq_getD_getElem?,Array.getD_eq_getD_getElem?,h]
theorem wI {i j:Nat} (hj:j≤p.size) (k:Nat):vl r (kas_rev p i j) k=if i≤k∧k<j then vl r p (i+j - 1 - k) else vl r p k:=by
 have e:=getElem?_mirror_all (i:=i) hj k
 unfold vl kas_rev
 by_cases h:i≤k∧k<j
 ·rw [if_pos h] at e ⊢;rw [kP e]
 ·rw [if_neg h] at e ⊢;rw [kP e]
theorem a1q {src d:Nat} (hs:src<p.size) (hd:d≤src) (k:Nat):vl r (bubble p src d) k=if k=src - d then vl r p src else if src - d<k∧k≤src then vl r p (k - 1) else vl r p k:=by
 have e:=getElem?_bubble hs d hd k
 unfold vl
 by_cases h:k=src - d
 ·rw [if_pos h] at e ⊢;rw [kP e]
 ·rw [if_neg h] at e ⊢
  by_cases h2:src - d<k∧k≤src
  ·rw [if_pos h2] at e ⊢;rw [kP e]
  ·rw [if_neg h2] at e ⊢;rw [kP e]
theorem Up.snoc {k:Nat} (h:Up r p k) (hk:0<k) (hl:vl r p (k - 1)≤vl r p k):Up r p (k+1):=fun i j hij hj=>by
 by_cases e:j=k
 ·subst e
  by_cases e2:i=j
  ·subst e2;exact Int.le_refl _
  ·exact Int.le_trans (h i (j - 1) (by omega) (by omega)) hl
 ·exact h i j hij (by omega)
theorem kD.snoc {k:Nat} (h:kD r p k) (hk:0<k) (hl:vl r p k≤vl r p (k - 1)):kD r p (k+1):=fun i j hij hj=>by
 by_cases e:j=k
 ·subst e
  by_cases e2:i=j
  ·subst e2;exact Int.le_refl _
  ·exact Int.le_trans hl (h i (j - 1) (by omega) (by omega))
 ·exact h i j hij (by omega)
theorem a2U (P:Pm n p) (hn:0<n):∀ (f m:Nat),0<m→Up r p m→Hq n (ltr r) (kas_asc p f m) (fun k=>m≤k∧k≤m+f∧Up r p k∧(k<m+f→vl r p k<vl r p (k - 1)))
 | 0,m,hm,h=>fD ⟨Nat.le_refl _,Nat.le_refl _,h,fun z=>absurd z (by omega)⟩
 | f+1,m,hm,h=>by
  refine lX (P.lt hn _) (P.lt hn _) ?_
  by_cases c:r (p.getD m 0)<r (p.getD (m - 1) 0)
  ·rw [show ltr r (p.getD m 0) (p.getD (m - 1) 0)=true from decide_eq_true c,if_pos rfl]
   exact fD ⟨Nat.le_refl _,by omega,h,fun _=>c⟩
  ·rw [show ltr r (p.getD m 0) (p.getD (m - 1) 0)=false from decide_eq_false c,if_neg (by simp)]
   exact eO (a2U P hn f (m+1) (by omega) (h.snoc hm (Int.not_lt.mp c))) fun k ⟨a,b,c,d⟩=>⟨by omega,by omega,c,fun z=>d (by omega)⟩
theorem sC {i j:Nat} (hj:j≤p.size) (he:∀ k,i≤k→k<j→vl r p k=vl r p (j - 1)) (k:Nat):vl r (kas_rev p i j) k=vl r p k:=by
 rw [wI hj]
 by_cases h:i≤k∧k<j
 ·rw [if_pos h,he _ (by omega) (by omega),he k h.1 h.2]
 ·rw [if_neg h]
theorem kD.cong {p':Array Nat} {k:Nat} (e:∀ k,vl r p' k=vl r p k) (h:kD r p k):kD r p' k:=fun i j a b=>by rw [e,e];exact h i j a b
theorem tJ (hn:0<n):∀ (f:Nat) (p:Array Nat) (m q:Nat),Pm n p→q<m→m+f≤n→kD r p m→(∀ k,m - (q+1)≤k→k<m→vl r p k=vl r p (m - 1)) →
  Hq n (ltr r) (kas_desc f p m q) (fun x=>Pm n x.1∧m≤x.2.1∧x.2.1≤m+f∧x.2.2<x.2.1∧kD r x.1 x.2.1∧∀ k,x.2.1 - (x.2.2+1)≤k→k<x.2.1→vl r x.1 k=vl r x.1 (x.2.1 - 1))
 | 0,p,m,q,P,hq,hm,hd,he=>fD ⟨P,Nat.le_refl _,Nat.le_refl _,hq,hd,he⟩
 | f+1,p,m,q,P,hq,hm,hd,he=>by
  have one:∀ p':Array Nat,∀ k,m+1 - (0+1)≤k→k<m+1→vl r p' k=vl r p' (m+1 - 1):=fun p' k a b=>by rw [show k=m+1 - 1 by omega]
  refine lX (P.lt hn _) (P.lt hn _) ?_
  by_cases c:r (p.getD m 0)<r (p.getD (m - 1) 0)
  ·rw [show ltr r (p.getD m 0) (p.getD (m - 1) 0)=true from decide_eq_true c,if_pos rfl]
   have hd':=hd.snoc (by omega) (Int.le_of_lt c)
   by_cases q0:q > 0
   ·rw [if_pos q0]
    have e:=sC (i:=m - (q+1)) (j:=m) (by rw [P.size];omega) he
    exact eO (tJ hn f _ (m+1) 0 (P.rev _ _) (by omega) (by omega) (hd'.cong e) (one _)) fun x ⟨a,b,c,d,e,g⟩=>⟨a,by omega,by omega,d,e,g⟩
   ·rw [if_neg q0]
    exact eO (tJ hn f _ (m+1) 0 P (by omega) (by omega) hd' (one _)) fun x ⟨a,b,c,d,e,g⟩=>⟨a,by omega,by omega,d,e,g⟩
  ·rw [show ltr r (p.getD m 0) (p.getD (m - 1) 0)=false from decide_eq_false c,if_neg (by simp)]
   refine lX (P.lt hn _) (P.lt hn _) ?_
   by_cases c2:r (p.getD (m - 1) 0)<r (p.getD m 0)
   ·rw [show ltr r (p.getD (m - 1) 0) (p.getD m 0)=true from decide_eq_true c2,if_pos rfl]
    exact fD ⟨P,Nat.le_refl _,Nat.le_add_right _ _,hq,hd,he⟩
   ·rw [show ltr r (p.getD (m - 1) 0) (p.getD m 0)=false from decide_eq_false c2,if_neg (by simp)]
    have eq:vl r p m=vl r p (m - 1):=by unfold vl;omega
    refine eO (tJ hn f p (m+1) (q+1) P (by omega) (by omega) (hd.snoc (by omega) (by omega)) fun k a b=>?_) fun x ⟨a,b,c,d,e,g⟩=>⟨a,by omega,by omega,d,e,g⟩
    rw [show m+1 - 1=m by omega,eq]
    by_cases e2:k=m
    ·rw [e2,eq]
    ·exact he k (by omega) (by omega)
theorem kD.rev {m:Nat} (P:Pm n p) (hm:m≤n) (h:kD r p m):Up r (kas_rev p 0 m) m:=fun i j hij hj=>by
 rw [wI (by rw [P.size];omega),wI (by rw [P.size];omega),if_pos (by omega),if_pos (by omega)]
 exact h _ _ (by omega) (by omega)
noncomputable abbrev Goal (r:Nat→Int) (n:Nat) (x:Nat×Array Nat):Prop:=Pm n x.2∧0<x.1∧x.1≤n∧Up r x.2 x.1
theorem a2T (hn:0<n) {m:Nat} (P:Pm n p) (h0:0<m) (hm:m≤n) (hd:kD r p m):Hq n (ltr r) (kas_tail3 m n p) (Goal r n):=by
 unfold kas_tail3
 refine jO (eO (a2U (P.rev 0 m) hn (n - m) m h0 (hd.rev P hm)) fun k ⟨a,b,c,d⟩=>fD ⟨P.rev 0 m,by show 0<k;omega,by show k≤n;omega,c⟩)
theorem oX (hn:0<n) {m:Nat} (P:Pm n p) (hm:m+1≤n) (hd:kD r p (m+1)):Hq n (ltr r) (kas_descPart m n p) (Goal r n):=by
 unfold kas_descPart
 refine jO (eO (tJ hn (n - (m+1)) p (m+1) 0 P (by omega) (by omega) hd (fun k a b=>by rw [show k=m+1 - 1 by omega])) fun x ⟨a,b,c,d,e,g⟩=>?_)
 by_cases h:x.2.2 > 0
 ·rw [if_pos h]
  exact a2T hn (a.rev _ _) (by omega) (by omega) (e.cong (sC (by rw [a.size];omega) g))
 ·rw [if_neg h]
  exact a2T hn a (by omega) (by omega) e
theorem a5m (hn:0<n) (P:Pm n p):Hq n (ltr r) (kas_count n p) (Goal r n):=by
 unfold kas_count
 refine jO (eO (a2U P hn (n - 1) 1 (by decide) (fun i j a b=>by rw [show i=j by omega];exact Int.le_refl _)) fun m ⟨a,b,c,d⟩=>?_)
 by_cases h:(m==n)=true
 ·rw [if_pos h]
  exact fD ⟨P,by show 0<m;omega,by show m≤n;omega,c⟩
 ·rw [if_neg h]
  have hmn:m<n:=by have:m≠n:=fun z=>h (by rw [z];simp);omega
  have dr:=d (by omega)
  by_cases h1:m > 1
  ·rw [if_pos h1]
   refine lX (P.lt hn _) (P.lt hn _) ?_
   by_cases c2:r (p.getD 0 0)<r (p.getD (m - 1) 0)
   ·rw [show ltr r (p.getD 0 0) (p.getD (m - 1) 0)=true from decide_eq_true c2,if_pos rfl]
    exact fD ⟨P,by show 0<m;omega,by show m≤n;omega,c⟩
   ·rw [show ltr r (p.getD 0 0) (p.getD (m - 1) 0)=false from decide_eq_false c2,if_neg (by simp)]
    have eqs:∀ k,k<m→vl r p k=vl r p (m - 1):=fun k hk=>by
     have a1:=c 0 k (Nat.zero_le _) hk
     have a2:=c k (m - 1) (by omega) (by omega)
     have a3:vl r p (m - 1)≤vl r p 0:=Int.not_lt.mp c2
     omega
    have e:=sC (r:=r) (i:=0) (j:=m) (by rw [P.size];omega) (fun k _ hk=>eqs k hk)
    refine oX hn (P.rev 0 m) (by omega) (kD.cong e ?_)
    refine kD.snoc (fun i j hij hj=>?_) (by omega) (Int.le_of_lt dr)
    rw [eqs i (by omega),eqs j hj];exact Int.le_refl _
  ·rw [if_neg h1]
   refine oX hn P (by omega) (kD.snoc (fun i j hij hj=>?_) (by omega) (Int.le_of_lt dr))
   rw [show i=j by omega];exact Int.le_refl _
theorem tI (hn:0<n) (P:Pm n p) {k:Nat} (hu:Up r p k):∀ (f l u:Nat),l≤u→u≤k→u - l≤f→(∀ i,i<l→vl r p i≤vl r p k)→(∀ i,u≤i→i<k→vl r p k<vl r p i) →
  Hq n (ltr r) (kas_place p k f l u) (fun x=>x≤k∧(∀ i,i<x→vl r p i≤vl r p k)∧∀ i,x≤i→i<k→vl r p k<vl r p i)
 | 0,l,u,h1,h2,h3,a,b=>fD ⟨by omega,a,fun i hi hk=>b i (by omega) hk⟩
 | f+1,l,u,h1,h2,h3,a,b=>by
  unfold kas_place
  by_cases h:l≥u
  ·rw [if_pos h];exact fD ⟨by omega,a,fun i hi hk=>b i (by omega) hk⟩
  ·rw [if_neg h]
   refine lX (P.lt hn _) (P.lt hn _) ?_
   by_cases c:r (p.getD k 0)<r (p.getD ((l+u) / 2) 0)
   ·rw [show ltr r (p.getD k 0) (p.getD ((l+u) / 2) 0)=true from decide_eq_true c,if_pos rfl]
    refine tI hn P hu f l ((l+u) / 2) (by omega) (by omega) (by omega) a fun i hi hk=>?_
    have c':vl r p k<vl r p ((l+u) / 2):=c
    exact Int.lt_of_lt_of_le c' (hu _ _ hi hk)
   ·rw [show ltr r (p.getD k 0) (p.getD ((l+u) / 2) 0)=false from decide_eq_false c,if_neg (by simp)]
    refine tI hn P hu f ((l+u) / 2+1) u (by omega) (by omega) (by omega) (fun i hi=>?_) b
    have c':vl r p ((l+u) / 2)≤vl r p k:=Int.not_lt.mp c
    exact Int.le_trans (hu i ((l+u) / 2) (by omega) (by omega)) c'
theorem h_bin (hn:0<n):∀ (f:Nat) (p:Array Nat) (k:Nat),Pm n p→0<k→k+f=n→Up r p k→Hq n (ltr r) (kas_bin f p k) (fun q=>Pm n q∧Up r q n)
 | 0,p,k,P,_,hk,hu=>fD ⟨P,by rw [show n=k by omega];exact hu⟩
 | f+1,p,k,P,h0,hk,hu=>by
  unfold kas_bin
  refine jO (eO (tI hn P hu k 0 k (Nat.zero_le _) (Nat.le_refl _) (by omega) (fun i hi=>absurd hi (by omega)) (fun i hi hk=>absurd hi (by omega))) fun l ⟨a,b,c⟩=>?_)
  refine h_bin hn f _ (k+1) (P.bub _ _) (by omega) (by omega) fun i j hij hj=>?_
  have hs:k<p.size:=by rw [P.size];omega
  have ei:=a1q (r:=r) hs (show k - l≤k by omega) i
  have ej:=a1q (r:=r) hs (show k - l≤k by omega) j
  rw [show k - (k - l)=l by omega] at ei ej
  rw [ei,ej]
  by_cases i1:i=l
  ·rw [if_pos i1]
   by_cases j1:j=l
   ·rw [if_pos j1];exact Int.le_refl _
   ·rw [if_neg j1,if_pos (by omega)];exact Int.le_of_lt (c (j - 1) (by omega) (by omega))
  ·rw [if_neg i1]
   by_cases i2:l<i∧i≤k
   ·rw [if_pos i2,if_neg (by omega),if_pos (by omega)];exact hu _ _ (by omega) (by omega)
   ·rw [if_neg i2]
    by_cases j1:j=l
    ·rw [if_pos j1];exact b i (by omega)
    ·rw [if_neg j1]
     by_cases j2:l<j∧j≤k
     ·rw [if_pos j2];exact hu _ _ (by omega) (by omega)
     ·rw [if_neg j2];exact hu _ _ hij (by omega)
theorem h_sort (hn:2≤n):Hq n (ltr r) (kas_sort n) (fun q=>Pm n q∧Up r q n):=by
 unfold kas_sort
 refine jO (eO (a5m (by omega) ⟨by simp,Array.Perm.refl _⟩) fun x ⟨a,b,c,d⟩=>?_)
 by_cases h:x.1<n
 ·rw [if_pos h,show max x.1 1=x.1 by omega]
  exact h_bin (by omega) _ _ _ a b (by omega) d
 ·rw [if_neg h]
  exact fD ⟨a,by rw [show n=x.1 by omega];exact d⟩
end
end L2.ST
namespace L2.L3
open PySem
noncomputable def ltC:PyData→PyData→Bool
 | .int a,.int b=>decide (a<b)
 | .str a,.str b=>!cM b a
 | _,_=>false
noncomputable def eqC:PyData→PyData→Bool
 | .int a,.int b=>a==b
 | .str a,.str b=>a==b
 | _,_=>false
noncomputable def ltR:List PyData→List PyData→Bool
 | a::r,b::s=>if eqC a b then ltR r s else ltC a b
 | _,_=>false
noncomputable def dF:List Bool→List PyData→Bool
 | [],[]=>true
 | true::g,.int _::r=>dF g r
 | false::g,.str _::r=>dF g r
 | _,_=>false
theorem fM {a:List PyData} (h:dF [] a=true):a=[]:=by
 cases a with
 | nil=>rfl
 | cons x r=>cases x<;>cases h
theorem sig_int {g:List Bool} {a:List PyData} (h:dF (true::g) a=true):∃ i r,a=.int i::r∧dF g r=true:=by
 cases a with
 | nil=>cases h
 | cons x r=>cases x<;>first | exact ⟨_,_,rfl,h⟩ | cases h
theorem sig_str {g:List Bool} {a:List PyData} (h:dF (false::g) a=true):∃ i r,a=.str i::r∧dF g r=true:=by
 cases a with
 | nil=>cases h
 | cons x r=>cases x<;>first | exact ⟨_,_,rfl,h⟩ | cases h
theorem xG (a:Str):cM a a=true:=by have:=jC a a;rwa [Bool.or_self] at this
theorem tB:∀ (g:List Bool) (a:List PyData),dF g a=true→ltR a a=false
 | [],a,h=>by rw [fM h];rfl
 | true::g,a,h=>by
  obtain ⟨i,r,rfl,h⟩:=sig_int h
  simp [ltR,eqC,tB g r h]
 | false::g,a,h=>by
  obtain ⟨i,r,rfl,h⟩:=sig_str h
  simp [ltR,eqC,tB g r h]
theorem sZ:∀ (g:List Bool) (a b:List PyData),dF g a=true→dF g b=true→ltR a b=true∨a=b∨ltR b a=true
 | [],a,b,h,h'=>by rw [fM h,fM h'];exact .inr (.inl rfl)
 | true::g,a,b,h,h'=>by
  obtain ⟨i,r,rfl,h⟩:=sig_int h
  obtain ⟨j,q,rfl,h'⟩:=sig_int h'
  by_cases e:i=j
  ·subst e
   rcases sZ g r q h h' with z | z | z
   ·exact .inl (by simp [ltR,eqC,z])
   ·exact .inr (.inl (by rw [z]))
   ·exact .inr (.inr (by simp [ltR,eqC,z]))
  ·by_cases l:i<j
   ·exact .inl (by simp [ltR,eqC,e,ltC,l])
   ·exact .inr (.inr (by have:¬j=i:=fun z=>e z.symm;simp [ltR,eqC,this,ltC];omega))
 | false::g,a,b,h,h'=>by
  obtain ⟨i,r,rfl,h⟩:=sig_str h
  obtain ⟨j,q,rfl,h'⟩:=sig_str h'
  by_cases e:i=j
  ·subst e
   rcases sZ g r q h h' with z | z | z
   ·exact .inl (by simp [ltR,eqC,z])
   ·exact .inr (.inl (by rw [z]))
   ·exact .inr (.inr (by simp [ltR,eqC,z]))
  ·have e':¬j=i:=fun z=>e z.symm
   cases l:cM j i with
   | false=>exact .inl (by simp [ltR,eqC,e,ltC,l])
   | true=>
    cases l2:cM i j with
    | false=>exact .inr (.inr (by simp [ltR,eqC,e',ltC,l2]))
    | true=>exact absurd (xH l2 l) e
theorem xE:∀ (g:List Bool) (a b c:List PyData),dF g a=true→dF g b=true→dF g c=true→ltR a b=true→ltR b c=true→ltR a c=true
 | [],a,b,c,h,_,_,z,_=>by rw [fM h] at z;cases z
 | true::g,a,b,c,h,h',h'',z,z'=>by
  obtain ⟨i,r,rfl,h⟩:=sig_int h
  obtain ⟨j,q,rfl,h'⟩:=sig_int h'
  obtain ⟨k,u,rfl,h''⟩:=sig_int h''
  simp only [ltR,eqC,ltC,beq_iff_eq] at z z' ⊢
  by_cases e:i=j
  ·subst e
   rw [if_pos rfl] at z
   by_cases e2:i=k
   ·subst e2;rw [if_pos rfl] at z' ⊢;exact xE g r q u h h' h'' z z'
   ·rw [if_neg e2] at z' ⊢;exact z'
  ·rw [if_neg e] at z
   by_cases e2:j=k
   ·subst e2;rw [if_neg e];exact z
   ·rw [if_neg e2] at z'
    rw [decide_eq_true_eq] at z z'
    rw [if_neg (by omega)];exact decide_eq_true (by omega)
 | false::g,a,b,c,h,h',h'',z,z'=>by
  obtain ⟨i,r,rfl,h⟩:=sig_str h
  obtain ⟨j,q,rfl,h'⟩:=sig_str h'
  obtain ⟨k,u,rfl,h''⟩:=sig_str h''
  simp only [ltR,eqC,ltC,beq_iff_eq] at z z' ⊢
  by_cases e:i=j
  ·subst e
   rw [if_pos rfl] at z
   by_cases e2:i=k
   ·subst e2;rw [if_pos rfl] at z' ⊢;exact xE g r q u h h' h'' z z'
   ·rw [if_neg e2] at z' ⊢;exact z'
  ·rw [if_neg e] at z
   by_cases e2:j=k
   ·subst e2;rw [if_neg e];exact z
   ·rw [if_neg e2] at z'
    have z1:cM j i=false:=by simpa using z
    have z2:cM k j=false:=by simpa using z'
    have y1:cM i j=true:=by have:=jC i j;rw [z1,Bool.or_false] at this;exact this
    have y2:cM j k=true:=by have:=jC j k;rw [z2,Bool.or_false] at this;exact this
    have z3:cM k i=false:=by
     cases q3:cM k i with
     | false=>rfl
     | true=>rw [uY q3 y1] at z2;cases z2
    have e3:¬i=k:=fun w=>by subst w;rw [xG] at z3;cases z3
    rw [if_neg e3,z3];rfl
noncomputable def ltT:PyData→PyData→Bool
 | .tuple a,.tuple b=>ltR a b
 | _,_=>false
noncomputable def bP (g:List Bool):PyData→Bool
 | .tuple a=>dF g a
 | _=>false
theorem eM {g:List Bool} {d:PyData} (h:bP g d=true):∃ a,d=.tuple a∧dF g a=true:=by
 cases d<;>first | exact ⟨_,rfl,h⟩ | cases h
section
variable {g:List Bool} {a b c:PyData}
theorem sY (h:bP g a=true):ltT a a=false:=by obtain ⟨x,rfl,h⟩:=eM h;exact tB g x h
theorem nD (h:bP g a=true) (h':bP g b=true):ltT a b=true∨a=b∨ltT b a=true:=by
 obtain ⟨x,rfl,h⟩:=eM h
 obtain ⟨y,rfl,h'⟩:=eM h'
 exact (sZ g x y h h').imp id (Or.imp (fun e=>by rw [e]) id)
theorem sX (h:bP g a=true) (h':bP g b=true) (h'':bP g c=true) (z:ltT a b=true) (z':ltT b c=true):ltT a c=true:=by
 obtain ⟨x,rfl,h⟩:=eM h
 obtain ⟨y,rfl,h'⟩:=eM h'
 obtain ⟨u,rfl,h''⟩:=eM h''
 exact xE g x y u h h' h'' z z'
theorem ltT_le (h:bP g a=true) (h':bP g b=true) (h'':bP g c=true) (z:ltT b a=false) (z':ltT c b=false):ltT c a=false:=by
 cases e:ltT c a with
 | false=>rfl
 | true=>
  rcases nD h h' with q | q | q
  ·rw [sX h'' h h' e q] at z';cases z'
  ·subst q;rw [e] at z';cases z'
  ·rw [q] at z;cases z
end
noncomputable def pS (x:PyData):List PyData→List PyData
 | []=>[x]
 | y::l=>if ltT y x then y::pS x l else x::y::l
noncomputable def nU (l:List PyData):List PyData:=l.foldr pS []
theorem lW (x:PyData):∀ l:List PyData,(pS x l).Perm (x::l)
 | []=>.refl _
 | y::l=>by
  unfold pS
  split
  ·exact ((lW x l).cons y).trans (.swap x y l)
  ·exact .refl _
theorem lJ:∀ l:List PyData,(nU l).Perm l
 | []=>.refl _
 | x::l=>(lW x _).trans ((lJ l).cons x)
noncomputable abbrev pO (l:List PyData):Prop:=l.Pairwise fun a b=>ltT b a=false
theorem mO {g:List Bool} {x:PyData} (hx:bP g x=true):∀ l:List PyData,(∀ d∈l,bP g d=true)→pO l→pO (pS x l)
 | [],_,_=>by simp [pS]
 | y::l,h,hp=>by
  have hp':=List.pairwise_cons.mp hp
  have hy:=h y (by simp)
  unfold pS
  by_cases e:ltT y x=true
  ·rw [if_pos e,pO,List.pairwise_cons]
   refine ⟨fun z hz=>?_,mO hx l (fun d hd=>h d (List.mem_cons_of_mem _ hd)) hp'.2⟩
   rcases List.mem_cons.mp ((lW x l).mem_iff.mp hz) with rfl | hz
   ·cases q:ltT z y with
    | false=>rfl
    | true=>have:=sX hx hy hx q e;rw [sY hx] at this;cases this
   ·exact hp'.1 z hz
  ·rw [if_neg e,pO,List.pairwise_cons]
   have e':ltT y x=false:=by simpa using e
   refine ⟨fun z hz=>?_,hp⟩
   rcases List.mem_cons.mp hz with rfl | hz
   ·exact e'
   ·exact ltT_le hx hy (h z (List.mem_cons_of_mem _ hz)) e' (hp'.1 z hz)
theorem iU {g:List Bool}:∀ l:List PyData,(∀ d∈l,bP g d=true)→pO (nU l)
 | [],_=>.nil
 | x::l,h=>mO (h x (by simp)) _ (fun d hd=>h d (List.mem_cons_of_mem _ ((lJ l).mem_iff.mp hd))) (iU l fun d hd=>h d (List.mem_cons_of_mem _ hd))
theorem uJ {g:List Bool}:∀ (l m:List PyData),l.Perm m→(∀ d∈l,bP g d=true)→pO l→pO m→l=m
 | [],m,hp,_,_,_=>by rw [List.nil_perm.mp hp]
 | x::l,[],hp,_,_,_=>by have:=hp.length_eq;simp at this
 | x::l,y::m,hp,h,h1,h2=>by
  have q1:=List.pairwise_cons.mp h1
  have q2:=List.pairwise_cons.mp h2
  have hy:y∈x::l:=hp.mem_iff.mpr (by simp)
  have hx:x∈y::m:=hp.mem_iff.mp (by simp)
  have e:x=y:=by
   rcases List.mem_cons.mp hy with z | z
   ·exact z.symm
   ·rcases List.mem_cons.mp hx with w | w
    ·exact w
    ·rcases nD (h x (by simp)) (h y hy) with u | u | u
     ·rw [q2.1 x w] at u;cases u
     ·exact u
     ·rw [q1.1 y z] at u;cases u
  subst e
  rw [uJ l m (List.Perm.cons_inv hp) (fun d hd=>h d (List.mem_cons_of_mem _ hd)) q1.2 q2.2]
theorem a4e {g:List Bool} {l m:List PyData} (hp:l.Perm m) (h:∀ d∈m,bP g d=true) (hs:pO l):l=nU m:=
 uJ (g:=g) l (nU m) (hp.trans (lJ m).symm) (fun d hd=>h d (hp.mem_iff.mp hd)) hs (iU m h)
noncomputable def rk (ds:List PyData) (i:Nat):Int:=((ds.filter fun x=>ltT x (ds.getD i .none)).length:Nat)
theorem tK {α:Type} {p q:α→Bool}:∀ l:List α,(∀ x∈l,p x=true→q x=true)→(l.filter p).length≤(l.filter q).length
 | [],_=>by simp
 | x::l,h=>by
  have ih:=tK l fun y hy=>h y (List.mem_cons_of_mem _ hy)
  cases e:p x with
  | false=>
   rw [List.filter_cons_of_neg (by simp [e])]
   cases e2:q x with
   | false=>rw [List.filter_cons_of_neg (by simp [e2])];exact ih
   | true=>rw [List.filter_cons_of_pos e2,List.length_cons];omega
  | true=>rw [List.filter_cons_of_pos e,List.filter_cons_of_pos (h x (by simp) e),List.length_cons,List.length_cons];omega
theorem zL {α:Type} {p q:α→Bool}:∀ l:List α,(∀ x∈l,p x=true→q x=true)→(∃ x∈l,p x=false∧q x=true)→(l.filter p).length<(l.filter q).length
 | [],_,⟨x,hx,_⟩=>by cases hx
 | x::l,h,⟨y,hy,h1,h2⟩=>by
  have ih:=tK l fun y hy=>h y (List.mem_cons_of_mem _ hy)
  rcases List.mem_cons.mp hy with rfl | hy
  ·rw [List.filter_cons_of_neg (by simp [h1]),List.filter_cons_of_pos h2,List.length_cons];omega
  ·have ih2:=zL l (fun y hy=>h y (List.mem_cons_of_mem _ hy)) ⟨y,hy,h1,h2⟩
   cases e:p x with
   | false=>
    rw [List.filter_cons_of_neg (by simp [e])]
    cases e2:q x with
    | false=>rw [List.filter_cons_of_neg (by simp [e2])];exact ih2
    | true=>rw [List.filter_cons_of_pos e2,List.length_cons];omega
   | true=>rw [List.filter_cons_of_pos e,List.filter_cons_of_pos (h x (by simp) e),List.length_cons,List.length_cons];omega
theorem a6d {g:List Bool} {ds:List PyData} (h:∀ d∈ds,bP g d=true) {i j:Nat} (hi:i<ds.length) (hj:j<ds.length):ltT (ds.getD i .none) (ds.getD j .none)=ST.ltr (rk ds) i j:=by
 have mi:ds.getD i .none∈ds:=by rw [List.getD_eq_getElem?_getD,List.getElem?_eq_getElem hi];exact List.getElem_mem hi
 have mj:ds.getD j .none∈ds:=by rw [List.getD_eq_getElem?_getD,List.getElem?_eq_getElem hj];exact List.getElem_mem hj
 unfold ST.ltr rk
 generalize ds.getD i PyData.none=a at *
 generalize ds.getD j PyData.none=b at *
 have ha:=h a mi
 have hb:=h b mj
 cases e:ltT a b with
 | true=>
  refine (decide_eq_true ?_).symm
  have:=zL (p:=fun x=>ltT x a) (q:=fun x=>ltT x b) ds (fun x hx z=>sX (h x hx) ha hb z e) ⟨a,mi,sY ha,e⟩
  omega
 | false=>
  refine (decide_eq_false ?_).symm
  have:=tK (p:=fun x=>ltT x b) (q:=fun x=>ltT x a) ds (fun x hx z=>by
   rcases nD ha hb with q | q | q
   ·rw [e] at q;cases q
   ·subst q;exact z
   ·exact sX (h x hx) hb ha z q)
  omega
theorem oM {g:List Bool} {ds:List PyData} (h:∀ d∈ds,bP g d=true) {p:Array Nat} (P:ST.Pm ds.length p) (U:ST.Up (rk ds) p ds.length):(p.toList.map fun i=>ds.getD i .none)=nU ds:=by
 have hl:p.toList.length=ds.length:=by rw [Array.length_toList];exact P.size
 have hr:(List.range ds.length).map (fun i=>ds.getD i .none)=ds:=by
  refine List.ext_getElem (by simp) fun i h1 h2=>?_
  simp [List.getD_eq_getElem?_getD,h2]
 have hp:(p.toList.map fun i=>ds.getD i .none).Perm ds:=by
  have:=(Array.perm_iff_toList_perm.mp P.perm).map fun i=>ds.getD i PyData.none
  simp only [List.toList_toArray] at this
  rw [hr] at this
  exact this
 refine a4e hp h ?_
 unfold pO
 rw [List.pairwise_map,List.pairwise_iff_getElem]
 intro i j hi hj hij
 have hi':i<p.size:=by simpa using hi
 have hj':j<p.size:=by simpa using hj
 have u:=U i j (Nat.le_of_lt hij) (by rw [P.size] at hj';exact hj')
 unfold ST.vl at u
 have ei:p.toList[i]=p.getD i 0:=by simp [Array.getD,hi']
 have ej:p.toList[j]=p.getD j 0:=by simp [Array.getD,hj']
 rw [ei,ej]
 by_cases hn:0<ds.length
 ·rw [a6d h (P.lt hn j) (P.lt hn i)]
  exact decide_eq_false (by omega)
 ·rw [P.size] at hi';omega
end L2.L3
namespace L2.L3
open PySem PySem.W PyProof.Rows PySem.Calls
section
variable {prog:Program} {w:World} {A:Around} {E:Value→Shared→Prop} {s:Shared}
theorem a4O {Q:Bool→Shared→Prop} (b:Bool) (m n:Int) (t u:Tok) (h:Q (decide (m<n)) s):wpAny (model prog w) A (oneLt' b (.int m t) (.int n u)) Q E s:=by
 cases b with
 | true=>exact oneLt_int h
 | false=>exact kat_one _ _ (lt_int h)
theorem a4N {Q:Bool→Shared→Prop} (b:Bool) (m n:Str) (t u:Tok) (h:Q (decide (m.cps.toList<n.cps.toList)) s):wpAny (model prog w) A (oneLt' b (.str m t) (.str n u)) Q E s:=by
 cases b with
 | true=>exact oneLt_str h
 | false=>exact kat_one _ _ (lt_str h)
theorem pL {Q:Bool→Shared→Prop}:∀ (g:List Bool) (xs ys:List Value) (ds es:List PyData) (as bs:List Addr) (i:Nat),ReadsAll s.heap xs ds as→ReadsAll s.heap ys es bs→dF g ds=true→dF g es=true→Q (ltR ds es) s →
  KatLex prog w A true false Q (xs.zip ys) i s
 | [],xs,ys,ds,es,as,bs,i,r,r',h,h',q=>by
  have e1:=fM h
  have e2:=fM h'
  subst e1;subst e2
  cases r;cases r'
  exact kat_nil q
 | true::g,xs,ys,ds,es,as,bs,i,r,r',h,h',q=>by
  obtain ⟨m,r1,rfl,h⟩:=sig_int h
  obtain ⟨n,r2,rfl,h'⟩:=sig_int h'
  cases r with | cons v rr=>
  cases r' with | cons v' rr'=>
  cases v;cases v'
  refine kat_cons (SeqAt.EqAt.int_int _ _ _ _ _ _ _ _ ?_)
  by_cases e:m=n
  ·subst e
   rw [beq_self_eq_true]
   refine kat_yes (pL g _ _ _ _ _ _ _ rr rr' h h' ?_)
   simpa [ltR,eqC] using q
  ·rw [beq_eq_false_iff_ne.mpr e]
   refine kat_no (a4O _ _ _ _ _ ?_)
   simpa [ltR,eqC,e,ltC] using q
 | false::g,xs,ys,ds,es,as,bs,i,r,r',h,h',q=>by
  obtain ⟨m,r1,rfl,h⟩:=sig_str h
  obtain ⟨n,r2,rfl,h'⟩:=sig_str h'
  cases r with | cons v rr=>
  cases r' with | cons v' rr'=>
  cases v;cases v'
  refine kat_cons (SeqAt.EqAt.str_str _ _ _ _ _ _ _ _ ?_)
  by_cases e:m=n
  ·subst e
   rw [beq_self_eq_true]
   refine kat_yes (pL g _ _ _ _ _ _ _ rr rr' h h' ?_)
   simpa [ltR,eqC] using q
  ·rw [beq_eq_false_iff_ne.mpr e]
   refine kat_no (a4N _ _ _ _ _ ?_)
   have:ltR (.str m::r1) (.str n::r2)=decide (m.cps.toList<n.cps.toList):=by
    simp [ltR,eqC,e,ltC,cM]
   rw [←this];exact q
theorem row_lt {Q:Bool→Shared→Prop} {g:List Bool} {v u:Value} {d e:PyData} {as bs:List Addr} (r:Reads s.heap v d as) (r':Reads s.heap u e bs) (h:bP g d=true) (h':bP g e=true) (q:Q (ltT d e) s) :
  wpAny (model prog w) A (keyLt' (tuples' true) v u) Q E s:=by
 obtain ⟨x,rfl,h⟩:=eM h
 obtain ⟨y,rfl,h'⟩:=eM h'
 cases r with
 | tuple hg hc hd rr=>
  cases r' with
  | tuple hg' hc' hd' rr'=>
   refine kat_lt hg hd hg' hd' ?_
   have sz:∀ (g:List Bool) (x y:List PyData),dF g x=true→dF g y=true→x.length=y.length:=by
    intro g
    induction g with
    | nil=>intro x y h h';rw [fM h,fM h']
    | cons b g ih=>
     intro x y h h'
     cases b with
     | true=>obtain ⟨_,_,rfl,h⟩:=sig_int h;obtain ⟨_,_,rfl,h'⟩:=sig_int h';simp [ih _ _ h h']
     | false=>obtain ⟨_,_,rfl,h⟩:=sig_str h;obtain ⟨_,_,rfl,h'⟩:=sig_str h';simp [ih _ _ h h']
   have ln:∀ {vs:List Value} {ds:List PyData} {as:List Addr},ReadsAll s.heap vs ds as→vs.length=ds.length:=by
    intro vs
    induction vs with
    | nil=>intro ds as r;cases r;rfl
    | cons v vs ih=>intro ds as r;cases r with | cons _ r=>simp [ih r]
   have e1:=ln rr
   have e2:=ln rr'
   have e3:=sz _ _ _ h h'
   rw [decide_eq_false (by rw [←Array.length_toList,←Array.length_toList];omega)]
   exact pL g _ _ _ _ _ _ 0 rr rr' h h' q
inductive Rows (h:Heap):List Value→List PyData→Prop
 | nil:Rows h [] []
 | cons {v:Value} {vs:List Value} {d:PyData} {ds:List PyData} {as:List Addr}:Reads h v d as→Rows h vs ds→Rows h (v::vs) (d::ds)
theorem Rows.at {h:Heap} {vs:List Value} {ds:List PyData} (r:Rows h vs ds):∀ i,i<vs.length→∃ as,Reads h (vs.getD i .none) (ds.getD i .none) as:=by
 induction r with
 | nil=>intro i hi;simp at hi
 | cons r _ ih=>
  intro i hi
  cases i with
  | zero=>exact ⟨_,r⟩
  | succ i=>exact ih i (by simpa using hi)
theorem Rows.firsts {h:Heap} {g:List Bool} {k:Bool} {vs:List Value} {ds:List PyData} (r:Rows h vs ds) (hs:∀ d∈ds,bP (k::g) d=true) :
  ∃ fs:List Value,KatTups h vs fs∧fs.length=vs.length∧∀ v∈fs,(k=true∧∃ i t,v=.int i t)∨(k=false∧∃ i t,v=.str i t):=by
 induction r with
 | nil=>exact ⟨[],.nil,rfl,fun v hv=>by cases hv⟩
 | @cons v vs d ds as r _ ih=>
  obtain ⟨fs,t,l,a⟩:=ih fun d hd=>hs d (List.mem_cons_of_mem _ hd)
  obtain ⟨x,rfl,hx⟩:=eM (hs d (by simp))
  cases r with
  | tuple hg hc hd rr=>
   cases k with
   | true=>
    obtain ⟨i,y,rfl,hy⟩:=sig_int hx
    generalize hv:Array.toList _=vl at rr
    cases rr with | cons z rr=>
    cases z with | int _ tk=>
    refine ⟨.int i tk::fs,KatTups.cons hg hc hd (by rw [←Array.getElem?_toList,hv];rfl) t,by simp [l],fun v hv=>?_⟩
    ·rcases List.mem_cons.mp hv with rfl | hv
     ·exact .inl ⟨rfl,_,_,rfl⟩
     ·exact a v hv
   | false=>
    obtain ⟨i,y,rfl,hy⟩:=sig_str hx
    generalize hv:Array.toList _=vl at rr
    cases rr with | cons z rr=>
    cases z with | str _ tk=>
    refine ⟨.str i tk::fs,KatTups.cons hg hc hd (by rw [←Array.getElem?_toList,hv];rfl) t,by simp [l],fun v hv=>?_⟩
    ·rcases List.mem_cons.mp hv with rfl | hv
     ·exact .inr ⟨rfl,_,_,rfl⟩
     ·exact a v hv
theorem a0t {g:List Bool} {k:Bool} {vs:List Value} {ds:List PyData} (r:Rows s.heap vs ds) (hs:∀ d∈ds,bP (k::g) d=true) (hne:0<vs.length) {Q:SortKind→Shared→Prop} (h:Q (tuples' true) s) :
  wpAny (model prog w) A (keyKind' vs.toArray) Q E s:=by
 obtain ⟨fs,t,l,a⟩:=r.firsts hs
 cases k with
 | true=>
  refine kat_kind (T:=.type "int") t (by omega) (fun v hv=>?_) (by decide) h
  rcases a v hv with ⟨_,i,t,rfl⟩ | ⟨z,_⟩
  ·exact Looks.of_pure rfl
  ·cases z
 | false=>
  refine kat_kind (T:=.type "str") t (by omega) (fun v hv=>?_) (by decide) h
  rcases a v hv with ⟨z,_⟩ | ⟨_,i,t,rfl⟩
  ·cases z
  ·exact Looks.of_pure rfl
theorem pV {l:Addr} {T:String} {o:Obj} {vs:List Value} {n:Nat} {Q:List Value→Shared→Prop} (hT:T = "list" ∨ T = "tuple") (ho:s.heap.get? l=some o) (hc:o.cls=.type T) (hd:o.data=.seq vs.toArray n) (few:vs.length≤sizeLine)
  (hQ:∀ h',(∀ b o,s.heap.get? b=some o→h'.get? b=some o)→s.heap.objs.size≤h'.objs.size→Q vs { s with heap:=h' }):wpAny (model prog w) A (collect (.ref l)) Q E s:=by
 unfold collect
 refine wpAny_bind (wpAny_runValue (codeAny_builtin F.entry_proto_collect ?_))
 rw [Around.under_plainId F.plain_proto_collect _]
 show wpAny _ A.in1 (newList []>>=fun l'=>again (.builtin "list.__iadd__" ⟨[l',.ref l],[]⟩)) _ _ s
 refine wpAny_bind (wpAny_newObj_type ?_)
 refine wpAny_pure ⟨plainId_quiet F.plain_list_iadd _,codeAny_builtin F.entry_list_iadd ?_⟩
 rw [Around.under_plainId F.plain_list_iadd _]
 have hS1:(s.heap.push { cls:=.type "list", data:=.seq ([]:List Value).toArray }).get? s.heap.objs.size=some { cls:=.type "list", data:=.seq ([]:List Value).toArray }:=Heap.get?_push_size _ rfl
 have ty1:Shared.TypeIs { s with heap:=s.heap.push { cls:=.type "list", data:=.seq ([]:List Value).toArray } } (.ref l) T:=⟨o,Heap.get?_push_of_some _ ho,hc⟩
 show wpAny _ A.in1 (Builtin.List.listExtendWith (.ref s.heap.objs.size) (.ref l) (.ref s.heap.objs.size)) _ _ _
 unfold Builtin.List.listExtendWith
 refine wpAny_bind (wpAny_typeOf ty1 ?_)
 rw [if_pos (by rcases hT with rfl | rfl<;>simp)]
 refine wpAny_bind (listItems_at (Heap.get?_push_of_some _ ho) hd ?_)
 refine wpAny_bind (listItems_at hS1 rfl ?_)
 rw [if_neg (by simp)]
 refine wpAny_bind (listUpdate_at hS1 rfl ?_ (Nat.zero_le _) (by rw [Array.size_append,List.size_toArray,List.size_toArray,List.length_nil];omega))
 have hS₂:=Heap.get?_update_self (Obj.mapSeq (·++vs.toArray)) hS1 rfl
 refine wpAny_pure ?_
 show wpAny _ A (load s.heap.objs.size>>=_) _ _ _
 refine wpAny_bind (wpAny_load hS₂ (wpAny_pure ?_))
 have e:(([]:List Value).toArray++vs.toArray).toList=vs:=by simp
 show Q (([]:List Value).toArray++vs.toArray).toList _
 rw [e]
 refine hQ _ (fun b o' hb=>?_) (by rw [Heap.size_update,size_push'];omega)
 rw [Heap.get?_update_ne _ _ _ _ (Nat.ne_of_lt (Heap.lt_size hb))]
 exact Heap.get?_push_of_some _ hb
end
end L2.L3
namespace L2.L3
open PySem PySem.W PyProof.Rows
noncomputable def a1D:List PyData→Option (List Bool)
 | []=>some []
 | .int _::r=>(a1D r).map (true::·)
 | .str _::r=>(a1D r).map (false::·)
 | _=>none
noncomputable def a4j:PyData→Option (List Bool)
 | .tuple a=>a1D a
 | _=>none
section
variable {X:Cx} {pins:List (Addr×Obj)} {σ:List (Option V)} {H:Hp} {s:Shared}
theorem yN (I:Inv X pins σ H s):∀ {xs:List V} {ds:List PyData} {us:List Value},RepAll X.K H xs ds→aR xs us→Rows s.heap us ds
 | _,_,_,.nil,.nil=>.nil
 | _,_,_,.cons r rr,.cons t tt=>by
  obtain ⟨as,ra⟩:=r.reads I t
  exact .cons ra (yN I rr tt)
theorem RepAll.at {K:PySem.W.Frag} {G:Hp}:∀ {vs:List V} {ds:List PyData},RepAll K G vs ds→∀ i,i<vs.length→Rep K G (vs.getD i .non) (ds.getD i .none)
 | _,_,.nil,i,h=>by simp at h
 | _,_,.cons r rr,0,_=>r
 | _,_,.cons r rr,i+1,h=>RepAll.at rr i (by simpa using h)
theorem RepAll.len {K:PySem.W.Frag} {G:Hp}:∀ {vs:List V} {ds:List PyData},RepAll K G vs ds→vs.length=ds.length
 | _,_,.nil=>rfl
 | _,_,.cons _ rr=>by simp [RepAll.len rr]
theorem RepAll.pick {K:PySem.W.Frag} {G:Hp} {vs:List V} {ds:List PyData} (r:RepAll K G vs ds):∀ p:List Nat,(∀ i∈p,i<vs.length)→RepAll K G (p.map fun i=>vs.getD i .non) (p.map fun i=>ds.getD i .none)
 | [],_=>.nil
 | i::p,h=>.cons (r.at i (h i (by simp))) (RepAll.pick r p fun j hj=>h j (List.mem_cons_of_mem _ hj))
theorem aR.at':∀ {vs:List V} {us:List Value},aR vs us→∀ i,i<vs.length→RelV (vs.getD i .non) (us.getD i .none)
 | _,_,.nil,i,h=>by simp at h
 | _,_,.cons r rr,0,_=>r
 | _,_,.cons r rr,i+1,h=>aR.at' rr i (by simpa using h)
theorem aR.pick {vs:List V} {us:List Value} (r:aR vs us):∀ p:List Nat,(∀ i∈p,i<vs.length)→aR (p.map fun i=>vs.getD i .non) (p.map fun i=>us.getD i .none)
 | [],_=>.nil
 | i::p,h=>.cons (aR.at' r i (h i (by simp))) (aR.pick r p fun j hj=>h j (List.mem_cons_of_mem _ hj))
theorem qI (I:Inv X pins σ H s) {p:Addr} {vs:List V} (h:SqL X.K H p vs∨SqT X.K H p vs):∃ (its:List Value) (T:String) (o:Obj) (n:Nat),(T = "list" ∨ T = "tuple")∧s.heap.get? p=some o∧o.cls=.type T∧o.data=.seq its.toArray n∧aR vs its:=by
 rcases h with h | h
 ·obtain ⟨its,rv,pl,hz⟩:=I.list h
  obtain ⟨o,ho,hc,n,hd⟩:=pl.isList
  exact ⟨its, "list", o,n,.inl rfl,ho,hc,hd,rv⟩
 ·obtain ⟨its,rv,⟨o,ho,hc,n,hd⟩,hz⟩:=I.tuple h
  exact ⟨its, "tuple", o,n,.inr rfl,ho,hc,hd,rv⟩
end
section
variable {X:Cx}
end
end L2.L3
namespace L2.L3
open PySem
theorem bnd_ok {α β:Type} {m:Mm α} {a:α} {k:α→Mm β} (h:m=some (.ok a)):bnd m k=k a:=by rw [h];rfl
theorem a3N {α:Type} {m:Mm α} {ρ:List Ent} {a:α} {k:α→Option So} (h:m=some (.ok a)):bns m ρ k=k a:=by rw [h];rfl
theorem lT {α:Type} {t:Tg} {ρb:List Ent} {ft:TF} {fe:EF} (φ:α→PyData) (ρx:α→List Ent) (c:α→Bool) (v:α→PyData):∀ (xs:List α),(∀ x∈xs,tgD t ρb (φ x)=some (ρx x))→(∀ x∈xs,ft (ρx x)=some (.ok (c x)))→(∀ x∈xs,c x=true→fe (ρx x)=some (.ok (v x))) →
  kJ t ρb ft fe (xs.map φ)=some ((xs.filter c).map v)
 | [],_,_,_=>rfl
 | x::xs,h1,h2,h3=>by
  have ih:=lT φ ρx c v xs (fun y hy=>h1 y (List.mem_cons_of_mem _ hy)) (fun y hy=>h2 y (List.mem_cons_of_mem _ hy)) (fun y hy=>h3 y (List.mem_cons_of_mem _ hy))
  have e1:=h1 x List.mem_cons_self
  have e2:=h2 x List.mem_cons_self
  rw [List.map_cons,kJ,e1]
  dsimp only
  rw [e2]
  cases hc:c x with
  | true=>
   have e3:=h3 x List.mem_cons_self hc
   dsimp only
   rw [e3]
   dsimp only
   rw [ih,List.filter_cons_of_pos hc]
   rfl
  | false=>
   dsimp only
   rw [ih,List.filter_cons_of_neg (by rw [hc];decide)]
theorem gT {α:Type} {t:Tg} {cap:List (Option Nat)} {fi:AF} {ft:TF} {fe:EF} {ρ:List Ent} (φ:α→PyData) (ρx:α→List Ent) (c:α→Bool) (v:α→PyData) (xs:List α) (hi:fi ρ=some (.ok (xs.map φ))) (hz:xs.length≤100000)
  (h1:∀ x∈xs,tgD t (bK cap ρ) (φ x)=some (ρx x)) (h2:∀ x∈xs,ft (ρx x)=some (.ok (c x))) (h3:∀ x∈xs,c x=true→fe (ρx x)=some (.ok (v x))) :
  dL t cap fi ft fe ρ=some (.ok (.list ((xs.filter c).map v))):=by
 unfold dL
 rw [bnd_ok hi,List.length_map,if_pos (by unfold dB;exact decide_eq_true hz),lT φ ρx c v xs h1 h2 h3]
 rfl
theorem filter_all {α:Type} {c:α→Bool} {xs:List α} (h:∀ x∈xs,c x=true):xs.filter c=xs:=List.filter_eq_self.mpr h
theorem dQ {α:Type} {t:Tg} {cap:List (Option Nat)} {fi:AF} {fe:EF} {ρ:List Ent} (φ:α→PyData) (ρx:α→List Ent) (v:α→PyData) (xs:List α) (hi:fi ρ=some (.ok (xs.map φ))) (hz:xs.length≤100000)
  (h1:∀ x∈xs,tgD t (bK cap ρ) (φ x)=some (ρx x)) (h3:∀ x∈xs,fe (ρx x)=some (.ok (v x))) :
  dL t cap fi ttT fe ρ=some (.ok (.list (xs.map v))):=by
 rw [gT φ ρx (fun _=>true) v xs hi hz h1 (fun _ _=>rfl) (fun x hx _=>h3 x hx),filter_all (fun _ _=>rfl)]
section
variable {α β:Type} {ρ:List Ent} {fa fb fc fd:EF} {ft fu:TF} {aa:AF} {d e:PyData} {i j k:Int}
@[simp] theorem dO (a:α) (k:α→Mm β):bnd (some (.ok a)) k=k a:=rfl
@[simp] theorem bnd_x (c:Str) (k:α→Mm β):bnd (some (.ex c)) k=some (.ex c):=rfl
@[simp] theorem wC (a:α) (k:α→Option So):bns (some (.ok a)) ρ k=k a:=rfl
@[simp] theorem bns_x (c:Str) (k:α→Option So):bns (some (.ex c)) ρ k=some (.xc c ρ):=rfl
@[simp] theorem a2z (a:α):lft (some a)=some (.ok a):=rfl
@[simp] theorem cst_e:cst d ρ=some (.ok d):=rfl
@[simp] theorem a5Y (d:PyData) (r:List Ent):var 0 (.val d::r)=some (.ok d):=rfl
@[simp] theorem a5X (n:Nat) (x:Ent) (r:List Ent):var (n+1) (x::r)=var n r:=rfl
@[simp] theorem dE (g:PyData→PyData→Option PyData):op2 g fa fb ρ=bnd (fa ρ) fun x=>bnd (fb ρ) fun y=>lft (g x y):=rfl
@[simp] theorem op1_e (g:PyData→Option PyData):op1 g fa ρ=bnd (fa ρ) fun x=>lft (g x):=rfl
@[simp] theorem a3V:aJ ρ=some (.ok []):=rfl
@[simp] theorem bC:aC fa aa ρ=bnd (fa ρ) fun x=>bnd (aa ρ) fun xs=>some (.ok (x::xs)):=rfl
@[simp] theorem tupE_e:iS aa ρ=bnd (aa ρ) fun xs=>lft (qQ xs):=rfl
@[simp] theorem lstE_e:jB aa ρ=bnd (aa ρ) fun xs=>lft (qR xs):=rfl
@[simp] theorem szOk_e (n:Nat):dB n=decide (n≤100000):=rfl
@[simp] theorem a4Z (ds:List PyData):qQ ds=if ds.length≤100000 then some (.tuple ds) else none:=by unfold qQ dB;by_cases h:ds.length≤100000<;>simp [h]
@[simp] theorem mkLst_e (ds:List PyData):qR ds=if ds.length≤100000 then some (.list ds) else none:=by unfold qR dB;by_cases h:ds.length≤100000<;>simp [h]
@[simp] theorem a3D (g:PyData→PyData→Option Bool):xY g fa fb ρ=bnd (fa ρ) fun x=>bnd (fb ρ) fun y=>lft ((g x y).map .bool):=rfl
@[simp] theorem xX (g:PyData→PyData→Option Bool):eQ g fa fb ρ=bnd (fa ρ) fun x=>bnd (fb ρ) fun y=>lft (g x y):=rfl
@[simp] theorem chnE_e (g g':PyData→PyData→Option Bool):chnE g g' fa fb fc ρ=bnd (fa ρ) fun x=>bnd (fb ρ) fun y=>bnd (lft (g x y)) fun t=>if t then bnd (fc ρ) fun z=>lft ((g' y z).map .bool) else some (.ok (.bool false)):=rfl
@[simp] theorem chnT_e (g g':PyData→PyData→Option Bool):chnT g g' fa fb fc ρ=bnd (fa ρ) fun x=>bnd (fb ρ) fun y=>bnd (lft (g x y)) fun t=>if t then bnd (fc ρ) fun z=>lft (g' y z) else some (.ok false):=rfl
@[simp] theorem truT_e:a0g fa ρ=bnd (fa ρ) fun x=>lft (nM x):=rfl
@[simp] theorem truD_b (b:Bool):nM (.bool b)=some b:=rfl
@[simp] theorem truD_l (ds:List PyData):nM (.list ds)=some (!ds.isEmpty):=rfl
@[simp] theorem truD_t (ds:List PyData):nM (.tuple ds)=some (!ds.isEmpty):=rfl
@[simp] theorem truD_i (i:Int):nM (.int i)=some (i != 0):=rfl
@[simp] theorem truD_n:nM .none=some false:=rfl
@[simp] theorem notT_e:a0y ft ρ=bnd (ft ρ) fun t=>some (.ok (!t)):=rfl
@[simp] theorem notE_e:notE fa ρ=bnd (fa ρ) fun x=>lft ((mS x).map fun t=>.bool (!t)):=rfl
@[simp] theorem a5N (b:Bool):mS (.bool b)=some b:=rfl
@[simp] theorem intD_i (i:Int):intD (.int i)=some i:=rfl
@[simp] theorem strD_s (i:Str):wO (.str i)=some i:=rfl
@[simp] theorem andT_e:andT ft fu ρ=bnd (ft ρ) fun t=>if t then fu ρ else some (.ok false):=rfl
@[simp] theorem orT_e:orT ft fu ρ=bnd (ft ρ) fun t=>if t then some (.ok true) else fu ρ:=rfl
@[simp] theorem andE_e:a5T fa fb ρ=bnd (fa ρ) fun x=>bnd (lft (mS x)) fun t=>if t then fb ρ else some (.ok (.bool false)):=rfl
@[simp] theorem orE_e:orE fa fb ρ=bnd (fa ρ) fun x=>bnd (lft (mS x)) fun t=>if t then some (.ok (.bool true)) else fb ρ:=rfl
@[simp] theorem ifE_e:ifE ft fa fb ρ=bnd (ft ρ) fun t=>if t then fa ρ else fb ρ:=rfl
@[simp] theorem a3O (g:List PyData→Option PyData):fF g aa ρ=bnd (aa ρ) fun xs=>lft (g xs):=rfl
@[simp] theorem a5M (F:List PyData→Mm PyData):aZ F aa ρ=bnd (aa ρ) fun ds=>(match F ds with | some (.ok d)=>some (.ok d) | _=>none):=rfl
@[simp] theorem a3T:bX (.int i) (.int j)=some (.int (i+j)):=rfl
@[simp] theorem sub_ii:sG (.int i) (.int j)=some (.int (i - j)):=rfl
@[simp] theorem neg_i:a2k (.int i)=some (.int (-i)):=rfl
@[simp] theorem add_tt (a b:List PyData):bX (.tuple a) (.tuple b)=if a.length+b.length≤100000 then some (.tuple (a++b)) else none:=by
 show (if dB (a.length+b.length)=true then _ else _)=_
 by_cases h:a.length+b.length≤100000<;>simp [h]
@[simp] theorem add_ll (a b:List PyData):bX (.list a) (.list b)=if a.length+b.length≤100000 then some (.list (a++b)) else none:=by
 show (if dB (a.length+b.length)=true then _ else _)=_
 by_cases h:a.length+b.length≤100000<;>simp [h]
@[simp] theorem lt_ii:ltD (.int i) (.int j)=some (decide (i<j)):=rfl
@[simp] theorem le_ii:leD (.int i) (.int j)=some (decide (i≤j)):=rfl
@[simp] theorem gt_ii:gtD (.int i) (.int j)=some (decide (j<i)):=rfl
@[simp] theorem ge_ii:geD (.int i) (.int j)=some (decide (j≤i)):=rfl
@[simp] theorem eq_ii:eqD (.int i) (.int j)=some (decide (i=j)):=rfl
@[simp] theorem yX:neD (.int i) (.int j)=some (!decide (i=j)):=rfl
@[simp] theorem eq_ss (a b:Str):eqD (.str a) (.str b)=some (decide (a=b)):=rfl
@[simp] theorem ne_ss (a b:Str):neD (.str a) (.str b)=some (!decide (a=b)):=rfl
@[simp] theorem eq_bb (a b:Bool):eqD (.bool a) (.bool b)=some (decide (a=b)):=rfl
@[simp] theorem ne_bb (a b:Bool):neD (.bool a) (.bool b)=some (!decide (a=b)):=rfl
@[simp] theorem mod_ii:xB (.int i) (.int j)=if 0<j then some (.int (i % j)) else none:=rfl
@[simp] theorem fdv_ii:a5s (.int i) (.int j)=if 0<j∧j<1073741824 then some (.int (i / j)) else none:=rfl
theorem sU (h1:-(2 ^ 64)<j) (h2:j<2 ^ 64):gE (.int i) (.int j)=some (.int (i*j)):=by
 show (if (fZ i || fZ j)=true then _ else _)=_
 rw [if_pos];simp [fZ];right;omega
theorem yY (h1:-(2 ^ 64)<i) (h2:i<2 ^ 64):gE (.int i) (.int j)=some (.int (i*j)):=by
 show (if (fZ i || fZ j)=true then _ else _)=_
 rw [if_pos];simp [fZ];left;omega
@[simp] theorem len_l (xs:List PyData):oQ [.list xs]=some (.int xs.length):=rfl
@[simp] theorem len_t (xs:List PyData):oQ [.tuple xs]=some (.int xs.length):=rfl
@[simp] theorem max_ii:a2u [.int i,.int j]=some (.int (max i j)):=rfl
@[simp] theorem min_ii:a5b [.int i,.int j]=some (.int (min i j)):=rfl
@[simp] theorem tup_l (xs:List PyData):a0f [.list xs]=some (.tuple xs):=rfl
@[simp] theorem tup_t (xs:List PyData):a0f [.tuple xs]=some (.tuple xs):=rfl
@[simp] theorem lst_l (xs:List PyData):a2w [.list xs]=some (.list xs):=rfl
@[simp] theorem lst_t (xs:List PyData):a2w [.tuple xs]=some (.list xs):=rfl
@[simp] theorem int_b (b:Bool):intC [.bool b]=some (.int (if b then 1 else 0)):=rfl
theorem sum_l (ns:List Int):a4d [.list (ns.map .int)]=some (.int ns.sum):=by show (dJ intD (ns.map .int)).map _=_;rw [a0M];rfl
@[simp] theorem seqI_e:iW fa ρ=bnd (fa ρ) fun x=>lft (uL x):=rfl
@[simp] theorem seqD_l (ds:List PyData):uL (.list ds)=some ds:=rfl
@[simp] theorem seqD_t (ds:List PyData):uL (.tuple ds)=some ds:=rfl
@[simp] theorem ixD_t (ds:List PyData):ixD (.tuple ds) (.int i)=atI ds i:=rfl
@[simp] theorem ixD_l (ds:List PyData):ixD (.list ds) (.int i)=atI ds i:=rfl
theorem atI_nn {xs:List α} (n:Nat):atI xs (n:Int)=xs[n]?:=by
 unfold atI ixN
 rw [if_pos (by omega)]
 by_cases h:n<xs.length
 ·rw [if_pos (by omega)];simp
 ·rw [if_neg (by omega)];rw [List.getElem?_eq_none (by omega)];rfl
@[simp] theorem at_0 (a:α) (r:List α):atI (a::r) 0=some a:=by
 unfold atI ixN
 rw [if_pos (by decide),if_pos (by simp<;>omega)];rfl
@[simp] theorem at_1 (a b:α) (r:List α):atI (a::b::r) 1=some b:=by
 unfold atI ixN
 rw [if_pos (by decide),if_pos (by simp<;>omega)];rfl
@[simp] theorem at_2 (a b c:α) (r:List α):atI (a::b::c::r) 2=some c:=by
 unfold atI ixN
 rw [if_pos (by decide),if_pos (by simp<;>omega)];rfl
@[simp] theorem at_3 (a b c d:α) (r:List α):atI (a::b::c::d::r) 3=some d:=by
 unfold atI ixN
 rw [if_pos (by decide),if_pos (by simp<;>omega)];rfl
theorem a5Q (xs:List α) (a:α):atI (xs++[a]) (-1)=some a:=by
 unfold atI ixN
 rw [if_neg (by decide),if_pos (by simp;omega)]
 have e:(-1+(((xs++[a]).length:Nat):Int)).toNat=xs.length:=by simp;omega
 rw [e]
 simp
@[simp] theorem nilS_e:iQ ρ=some (.nx ρ):=rfl
@[simp] theorem gC:retS fa ρ=bns (fa ρ) ρ fun d=>some (.rt d):=rfl
@[simp] theorem exprS_e:exprS fa ρ=bns (fa ρ) ρ fun _=>some (.nx ρ):=rfl
@[simp] theorem lM (i:Nat):iB i fa ρ=bns (fa ρ) ρ fun d=>some (.nx (ρ.set i (.val d))):=rfl
@[simp] theorem unpS_e (t:Tg):unpS t fa ρ=bns (fa ρ) ρ fun d=>(tgD t ρ d).map So.nx:=rfl
@[simp] theorem gP (f g:SF):ifS ft f g ρ=bns (ft ρ) ρ fun t=>if t then f ρ else g ρ:=rfl
@[simp] theorem xN (t:Tg) (fb:SF):a3b t aa fb ρ=bns (aa ρ) ρ fun ds=>fR t fb ds ρ:=rfl
@[simp] theorem newS_e (i:Nat):wZ i aa ρ=bns (aa ρ) ρ fun ds=>if ds.length≤100000 then some (.nx (ρ.set i (.lst ds))) else none:=by
 unfold wZ dB;cases aa ρ with
 | none=>rfl
 | some r=>cases r with
  | ok ds=>by_cases h:ds.length≤100000<;>simp [bns,h]
  | ex c=>rfl
theorem aL {f g:SF} {ρ':List Ent} (h:f ρ=some (.nx ρ')):bL f g ρ=g ρ':=by unfold bL;rw [h]
theorem mY {f g:SF} (h:f ρ=some (.rt d)):bL f g ρ=some (.rt d):=by unfold bL;rw [h]
@[simp] theorem tg_nm (i:Nat):tgD (.nm i) ρ d=some (ρ.set i (.val d)):=rfl
@[simp] theorem tg_tp2 (i j:Nat) (a b:PyData):tgD (.tp [i,j]) ρ (.tuple [a,b])=some ((ρ.set i (.val a)).set j (.val b)):=rfl
@[simp] theorem tg_tp3 (i j k:Nat) (a b c:PyData):tgD (.tp [i,j,k]) ρ (.tuple [a,b,c])=some (((ρ.set i (.val a)).set j (.val b)).set k (.val c)):=rfl
@[simp] theorem tg_tp4 (i j k l:Nat) (a b c d:PyData):tgD (.tp [i,j,k,l]) ρ (.tuple [a,b,c,d])=some ((((ρ.set i (.val a)).set j (.val b)).set k (.val c)).set l (.val d)):=rfl
end
end L2.L3
namespace L2.L3
open PySem
theorem qU {α:Type} {t:Tg} {fb:SF} (φ:α→PyData) (P:Nat→List Ent→Prop):∀ (xs:List α) (i:Nat) (ρ:List Ent),P i ρ →
  (∀ (j:Nat) (x:α) (ρ:List Ent),xs[j]?=some x→P (i+j) ρ→∃ ρ1 ρ2,tgD t ρ (φ x)=some ρ1∧(fb ρ1=some (.nx ρ2)∨fb ρ1=some (.ct ρ2))∧P (i+j+1) ρ2) →
  ∃ ρ',fR t fb (xs.map φ) ρ=some (.nx ρ')∧P (i+xs.length) ρ'
 | [],i,ρ,h,_=>⟨ρ,rfl,by simpa using h⟩
 | x::xs,i,ρ,h,turn=>by
  obtain ⟨ρ1,ρ2,e1,e2,h2⟩:=turn 0 x ρ rfl (by simpa using h)
  obtain ⟨ρ',e3,h3⟩:=qU φ P xs (i+1) ρ2 (by simpa using h2) (fun j y ρ hy hp=>by
   have e:i+1+j=i+(j+1):=by omega
   rw [e] at hp ⊢
   exact turn (j+1) y ρ (by simpa using hy) hp)
  refine ⟨ρ',?_,by rw [List.length_cons,show i+(xs.length+1)=i+1+xs.length by omega];exact h3⟩
  rw [List.map_cons,fR,e1]
  dsimp only
  rcases e2 with e2 | e2<;>(rw [e2];exact e3)
theorem uB {i:Nat} {fa:EF} {ρ:List Ent} {ds:List PyData} {d:PyData} (h:ρ[i]?=some (.lst ds)) (ha:fa ρ=some (.ok d)) (hz:ds.length≤100000):uC i fa ρ=some (.nx (ρ.set i (.lst (ds++[d])))):=by
 unfold uC
 rw [h]
 dsimp only
 rw [a3N ha,if_pos (by unfold dB;exact decide_eq_true hz)]
theorem yO {fa:EF} {ρ:List Ent} {n:Int} (h:fa ρ=some (.ok (.int n))) (h1:-1000000000≤n) (h2:n≤1000000000):sL fa ρ=some (.ok (jY 0 n.toNat)):=by
 unfold sL
 rw [h]
 dsimp only
 rw [if_pos]
 simp [zI];omega
end L2.L3
namespace L2.L3
open PySem PySem.W PyProof.Rows
section
variable {X:Cx} {e:Expr} {fa:EF} {x:Str} {pos:Pos}
noncomputable def dfE (g:PyData→PyData→Option PyData) (fa fb:EF):EF:=fun ρ=>match fa ρ,fb ρ with
 | some (.ok x),some (.ok y)=>lft (g x y)
 | _,_=>none
noncomputable def extX (i:Nat) (fa:EF):SF:=fun ρ=>match ρ[i]? with
 | some (.lst ds)=>bns (fa ρ) ρ fun d=>(match uL d with
  | some es=>if dB (ds.length+es.length) then some (.nx (ρ.set i (.lst (ds++es)))) else none
  | none=>none)
 | _=>none
noncomputable def rExtX (K:PySem.W.Frag):V→List V→Hp→VK→Prop:=fun x vs H Q=>∃ l b xs zs,x=.ref l∧vs=[.ref b]∧H l=some (.lst xs)∧(SqL K H b zs∨SqT K H b zs)∧xs.length+zs.length≤sizeLine∧Q .non (upd H l (.lst (xs++zs)))
theorem a4X:MtM X "list.extend" (rExtX X.K):=by
 intro pins s σ H x vs v us Q I rx rv h
 obtain ⟨l,b,xs,zs,rfl,rfl,hH,hB,hz,q⟩:=h
 cases rx
 obtain ⟨u,rfl,ru⟩:=rv.one
 cases ru
 obtain ⟨z,its,n,r,hl,e⟩:=I.lstM hH
 obtain ⟨its2,T,o,n2,hT,ho,hc,hd,r2⟩:=qI I hB
 have hl2:=r2.length
 have hl1:=r.length
 have hsz:its.toArray.size+its2.toArray.size≤sizeLine:=by rw [List.size_toArray,List.size_toArray];omega
 have hlong:¬(!its.toArray.isEmpty&&Builtin.List.listTooLong (its.toArray.size+its2.toArray.size))=true:=by
  rw [a2f hsz,Bool.and_false]
  exact Bool.false_ne_true
 refine wpAny_call_entry F.slot_list_extend ⟨_,e,rfl⟩ F.entry_list_extend ?_ (F.args_list_extend_2 _ _)
 show wpAny _ _ (Builtin.List.listExtendWith (.ref l) (.ref b) .none) _ _ s
 unfold Builtin.List.listExtendWith
 refine wpAny_bind (wpAny_typeOf (T:=T) ⟨o,ho,hc⟩ ?_)
 rw [if_pos (by rcases hT with rfl | rfl<;>simp)]
 refine wpAny_bind (listItems_at ho hd ?_)
 refine wpAny_bind (listItems_at e rfl ?_)
 rw [if_neg hlong]
 refine wpAny_bind (listUpdate_at e rfl ?_ (by rw [List.size_toArray];omega) (by rw [Array.size_append];omega))
 refine wpAny_pure ⟨_,rfl,.non,_,I.lset (its':=its++its2) (t':=s.toks) hH e (by simp) (r.append r2) ?_,rfl,q⟩
 rw [List.length_append]
 omega
theorem a5B (i:Nat) {p ap cp:Pos} (h:DE X e fa) (hN:X.N[i]?=some x:=by rfl)
  (hv:Vis X.env.scope x:=by first | exact Or.inl rfl | exact Or.inr (Or.inl rfl) | exact Or.inr (Or.inr rfl)) (hd:(x==("__debug__" : Str))=false:=by decide) (hcd:(x==("__classdict__" : Str))=false:=by decide)
  (hbase:attributeBase (.Name x p) "extend" X.env (eval (.Name x p) X.env)=eval (.Name x p) X.env:=by rfl)
  (hfew:((backTo cp (starEach (e::[]) X.env)).all (fun x=>!x.1)&&(backToKw cp (keywordEach [] X.env)).all (fun x=>x.1.isSome)&&decide ((e::[]).length+([]:List Keyword).length+(if ([]:List Keyword).isEmpty then 0 else 1)<30))=true:=by rfl)
  (hline:(ap.endLine==cp.line)=true:=by rfl) (hst:starEach (e::[]) X.env=(false,eval e X.env)::starEach [] X.env:=by rfl) (hplain:(backTo cp (starEach [] X.env)).any (·.1)=false:=by rfl)
  (hsw:swapsWith (.Call (.Attribute (.Name x p) "extend" ap) [e] [] cp) none pos.line X.env=pure false:=by rfl) :
  DS X (.Expr (.Call (.Attribute (.Name x p) "extend" ap) [e] [] cp) pos) (extX i fa):=⟨fun pins s σ H D I ⟨ρ,o,H0,G₀,G,ef,R,q⟩=>
 yT (a1X PySem.F.plainAttrs_list PySem.F.slot_list_extend PySem.F.type_list_extend a4X (eF hN hv hd hcd) (dR h.run iZ hst) hbase hfew hline hst hplain) hsw pins s σ H D I (by
  unfold extX at ef
  split at ef
  ·rename_i ds hi
   obtain ⟨a,xs,e1,h1,h2,h3,r⟩:=R.own hi
   refine ⟨.ref a,e1,.inl ⟨rfl,xs,.of h1⟩,sE R ef q fun d v G1 H1 g1 R1 rv e2 q1=>?_⟩
   split at e2
   ·rename_i es he
    split at e2
    ·rename_i hz
     cases (Option.some.inj e2)
     obtain ⟨b,zs,rfl,hq,r'⟩:=yM g1.sub he rv
     exact ⟨a,_,xs,_,rfl,rfl,g1.hh.lst h1,hq,by rw [r.length,r'.length];exact fJ hz,q1 G1 _ σ (.refl _) (R1.wrote hi e1 ((r.mono g1.gg).append r'))⟩
    ·cases e2
   ·cases e2
  ·cases ef)⟩
end
end L2.L3
namespace L2.L3
open PySem PySem.Spec PySem.Calls PyProof.Rows
noncomputable abbrev a5g (qual:Str) (params:Arguments) (body:Expr) (scope:Scope) (pm:Value) (c:Addr) (ct:Value):Obj:=PySem.W.kla_obj "<lambda>" qual params body scope [] pm c ct
section
variable {P:Program} {w:World} {K:PySem.W.Frag} {mg:Str→Option Value} {base:Heap}
theorem vA {k:Nat} {f c:Addr} {qual x:Str} {params:Arguments} {body:Expr} {scope:Scope} {pm ct u:Value} {fe:EF} {A:Around} {outer:List Env} {s:Shared} {H G:Hp} {v:V} {d kd:PyData}
  (hr:Room (k+1) A) (e0:Env0 P w K mg base A outer s H) (ho:s.heap.get? f=some (a5g qual params body scope pm c ct)) (hcd:s.heap.CodeRec (.ref c) qual) (S:FnScope [x] [x] scope)
  (hb:bindArgs (PySem.W.kla_fn "<lambda>" qual params body scope [] pm (.ref c) ct) ⟨[u],[]⟩=pure [(x,u)])
  (hbody:DE (fcx P w K mg base [x] qual scope f (.ref c) A outer s H E0) body fe)
  (sm:aS G H∧fI K G H) (rep:Rep K G v d) (rel:RelV v u) (hf:fe [.val d]=some (.ok kd)) :
  codeAny (model P w) A (.call (.ref f) ⟨[u],[]⟩) (CR CX0 outer P w H s (fun v' H'=>∃ G',Grow G H G' H'∧Rep K G' v' kd) E0) s:=by
 have lim:s.heap.NoLimit:=e0.mod.nolimit.keeps fun b o e=>(e0.bs b o e).1
 refine PySem.W.kla_callFunE hr.depth ho rfl S.co S.gen rfl hcd ?_
 rw [hb]
 have hkind:∀ y∈[(x,u)],scope.names.lookup y.1=some .local∨(scope.names.lookup y.1=some .cell∧((cellsFrom (s.heap.objs.size+1) scope.names []).lookup y.1).isSome=true):=fun y hy=>by
  obtain rfl:=List.mem_singleton.mp hy
  rcases S.par x (by simp) with q | q
  ·exact .inl q
  ·exact .inr ⟨q,PySem.W.cellsFrom_some _ _ _ (.inl q)⟩
 refine wpAny_pure (wpAny_newFunctionEnv_cells S.kind hkind fun env he s1 xx=>?_)
 subst he
 refine ⟨lim.keeps xx.toInCall.keep,PySem.W.kla_codeExpr ?_⟩
 have I:Inv (fcx P w K mg base [x] qual scope f (.ref c) A outer s H E0) [] (start [x] [v]) H s1:=(rD (CX:=CX0) (E:=E0) (us:=[u]) S hr.hd e0 rfl (.cons rel .nil) xx).wish _
 have R:RepS K H G G H (start [x] [v]) [.val d]:=cY (N:=[x]) (ds:=[d]) sm (.cons rep .nil)
 refine wpAny_mono (hbody.run [] s1 _ H (fun v' H'=>∃ G',Grow G H G' H'∧Rep K G' v' kd) I ⟨_,_,H,G,G,hf,R,fun v' G' H' g rv=>⟨G',g,rv⟩⟩) (fun u' s' hs=>?_) fun e s' hs=>hs.elim
 obtain ⟨v',H',J,rv,q⟩:=hs
 exact ⟨v',H',J.os,J.bare,J.base,J.hok,rv,q⟩
end
end L2.L3
namespace L2.L3
open PySem PySem.Spec PySem.Calls PyProof.Rows
structure BM (mg:Str→Option Value) (base:Heap):Prop where
 ex:∃ bm ob,mg "__builtins__" = some (.ref bm)∧bm≠builtinsNs∧bm≠mainGlobals∧base.get? bm=some ob∧ob.cls=.type "module" ∧ ob.dict=some builtinsNs∧ob.data=.plain
theorem nN (i j:Int) (t u:Tok) (v:Value):∀ (n:Nat) (l:List Value),l.length≤n→TriplesOk l→TriplesOk (l++[.int i t,.int j u,v]):=by
 intro n
 induction n with
 | zero=>
  intro l hl _
  cases l with
  | nil=>trivial
  | cons a l=>cases hl
 | succ n ih=>
  intro l hl h
  unfold TriplesOk at h
  split at h
  ·trivial
  ·rename_i rest
   have hr:rest.length≤n:=by simp only [List.length_cons] at hl;omega
   exact ih rest hr h
  ·cases h
theorem sF (l:List Value) (i j:Int) (t u:Tok) (v:Value) (h:TriplesOk l):TriplesOk (l++[.int i t,.int j u,v]):=nN i j t u v l.length l (Nat.le_refl _) h
theorem pN {p:Pos} {c cv:Value} (i j:Int) (t u:Tok):∀ (l:List Value),TriplesOk l→codeAmong p (l++[.int i t,.int j u,c])=some cv→codeAmong p l=some cv∨cv=c
 | [],_,h=>by
  have h:(if (i==(p.line:Int)&&j==(p.col:Int))=true then some c else none)=some cv:=h
  split at h
  ·exact .inr (Option.some.inj h).symm
  ·cases h
 | .int a _::.int b _::d::r,ht,h=>by
  have h:(if (a==(p.line:Int)&&b==(p.col:Int))=true then some d else codeAmong p (r++[.int i t,.int j u,c]))=some cv:=h
  show (if (a==(p.line:Int)&&b==(p.col:Int))=true then some d else codeAmong p r)=some cv∨_
  split at h
  ·rename_i hc;rw [if_pos hc];exact .inl h
  ·rename_i hc;rw [if_neg hc];exact pN i j t u r ht h
section
variable {X:Cx} {pins:List (Addr×Obj)} {σ:St} {H H0 G₀ G:Hp} {s:Shared} {ρ:List Ent}
theorem uZ {x:Str} {cl:List (Str×Addr)} {c P:Addr} {params:Arguments} {body:Expr} {scope:Scope} {pos:Pos} {E:Value→Shared→Prop} {Q:Value→Shared→Prop} (hx:x∈cN) (ht:PySem.W.tabIn X.K x=some (c,P)) (hc:X.env.code=.ref c)
  (hq:X.env.qual ++ "<lambda>" = lamQ x) (C:PySem.W.codeHdIn X.K c P=true) (M:BM X.mg X.base) (hdef:defaultsOf params X.env=([],[])) (hcl:closureFor scope X.env=pure cl) (I:Inv X pins σ H s) (R:RepS X.K H0 G₀ G H σ ρ)
  (h:∀ f c' ct pm H' s',Inv X pins σ H' s'→Grow G H G H'→s'.heap.get? f=some (PySem.W.kla_obj "<lambda>" (lamQ x) params body scope cl pm c' ct)→H' f=none→s.heap.objs.size≤f→H' c'=some (cdO c' (lamQ x))→Q (.ref f) s') :
  wpAny (model X.prog X.w) X.A (eval (.Lambda params body scope pos) X.env) Q E s:=by
 refine PySem.W.kla_eval hdef ?_
 rw [hq]
 have hTab:=R.tab.1 x hx c P ht
 generalize lamQ x=q at hTab h ⊢
 obtain ⟨ps,hP,hT,hA⟩:=hTab
 have hPo:s.heap.get? P=some (PySem.W.tabObj ps):=I.hok P _ hP
 have C0:PySem.W.CodeHd s.heap c P:=PySem.W.codeHd_of_K I.kIn C
 have hg:s.heap.Ns mainGlobals X.mg:=I.mod.glob.keeps I.bk
 have hgP:mainGlobals≠P:=fun z=>by
  obtain ⟨o,es,ep,e,hd,_⟩:=hg
  rw [z,hPo] at e;cases e;cases hd
 have hB:s.heap.BuiltinsAt X.mg P:=by
  obtain ⟨bm,ob,b1,b2,b3,b4,b5,b6,b7⟩:=M.ex
  refine ⟨bm,ob,b1,b2,b3,fun z=>?_,I.bk _ _ b4,b5,b6,b7⟩
  have e:=I.bk _ _ b4
  rw [z,hPo] at e;cases e;cases b5
 cases hm:codeAmong pos ps.toList with
 | some cv=>
  obtain ⟨c',rfl,hc'⟩:=hA pos cv hm
  refine PySem.W.kla_makeFunctionHit hcl I.ok.glob hg hc C0 hPo hT hm hB fun ct h' tk kp sz=>?_
  exact h _ c' ct _ H _ (I.kept fun b o e=>Heap.get?_push_of_some _ (kp b o e)) (.refl R.sub) (Heap.get?_push_size _ rfl) (I.hok.fresh sz) sz hc'
 | none=>
  refine PySem.W.kla_makeFunction hcl I.ok.glob hg hc C0 hPo hT hm hgP hB fun c' ct h' tk ex ge lt rc tb=>?_
  have hf:H c'=none:=I.hok.fresh ge
  have cP:c'≠P:=fun z=>by rw [z,hP] at hf;cases hf
  have lP:P≠X.env.locals:=fun z=>by have:=I.free;rw [←z,hP] at this;cases this
  -- the heap beside the table
  have kp:∀ b o,b≠P→s.heap.get? b=some o→(h'.push (PySem.W.kla_obj "<lambda>" q params body scope cl ((X.mg "__name__").getD .none) c' ct)).get? b=some o:=fun b o n e=>Heap.get?_push_of_some _ (ex b o n e)
  have hsz:s.heap.objs.size≤h'.objs.size:=Nat.le_trans ge (Nat.le_of_lt lt)
  have H1:∀ b,b≠P→b≠c'→upd (upd H P (.tbl (q,ps++#[rawInt pos.line,rawInt pos.col,.ref c']))) c' (cdO c' (q)) b=H b:=fun b n1 n2=>by rw [aD n2,aD n1]
  have HP:upd (upd H P (.tbl (q,ps++#[rawInt pos.line,rawInt pos.col,.ref c']))) c' (cdO c' (q)) P=some (.tbl (q,ps++#[rawInt pos.line,rawInt pos.col,.ref c'])):=by rw [aD (Ne.symm cP),aF]
  have nb:∀ b o,s.heap.get? b=some o→b≠c':=fun b o e=>Nat.ne_of_lt (Nat.lt_of_lt_of_le (Heap.lt_size e) ge)
  have nH:∀ b o,H b=some o→b≠c':=fun b o e z=>by rw [z,hf] at e;cases e
  have nP:∀ b,H b=none→b≠P:=fun b e z=>by rw [z,hP] at e;cases e
  have hsm:Sm H (upd (upd H P (.tbl (q,ps++#[rawInt pos.line,rawInt pos.col,.ref c']))) c' (cdO c' (q))):=by
   refine ⟨fun b o e n=>?_,fun b p e=>?_,fun P' q' t=>?_⟩
   ·rw [H1 b (fun z=>by rw [z,hP] at e;cases e;exact n _ rfl) (nH b o e)];exact e
   ·by_cases z:b=P
    ·rw [z];exact ⟨_,HP⟩
    ·exact ⟨p,by rw [H1 b z (nH b _ e)];exact e⟩
   ·obtain ⟨ps',g1,g2,g3⟩:=t
    have old:∀ d o,H d=some (cdO d o)→upd (upd H P (.tbl (q,ps++#[rawInt pos.line,rawInt pos.col,.ref c']))) c' (cdO c' (q)) d=some (cdO d o):=fun d o e=>by
     rw [H1 d (fun z=>by rw [z,hP] at e;unfold cdO at e;cases e) (nH d _ e)];exact e
    by_cases z:P'=P
    ·subst z
     rw [hP] at g1
     cases g1
     refine ⟨_,HP,?_,fun p cv e=>?_⟩
     ·rw [Array.toList_append];exact sF _ _ _ _ _ _ g2
     ·rw [Array.toList_append] at e
      rcases pN _ _ _ _ _ g2 e with e | rfl
      ·obtain ⟨d,e1,e2⟩:=g3 p cv e
       exact ⟨d,e1,old d _ e2⟩
      ·exact ⟨c',rfl,aF⟩
    ·refine ⟨ps',by rw [H1 P' z (nH P' _ g1)];exact g1,g2,fun p cv e=>?_⟩
     obtain ⟨d,e1,e2⟩:=g3 p cv e
     exact ⟨d,e1,old d _ e2⟩
  have gw:Grow G H G (upd (upd H P (.tbl (q,ps++#[rawInt pos.line,rawInt pos.col,.ref c']))) c' (cdO c' (q))):=by
   refine ⟨.refl _,hsm,fun b o e=>?_,fun _ e _=>e,id⟩
   rw [H1 b (fun z=>by have:=R.sub b o e;rw [z,hP] at this;cases this;exact R.tab.2 _ _ e) (nH b o (R.sub b o e))]
   exact R.sub b o e
  refine h h'.objs.size c' ct _ _ _ (I.step (ch:=[]) (g':=s.gens) (d':=s.drawn) (t':=tk) (h':=h'.push (PySem.W.kla_obj "<lambda>" q params body scope cl ((X.mg "__name__").getD .none) c' ct)) (fun _ z=>nomatch z) (fun b o _ _ _ e n=>kp b o (nP b n) e) (fun b o _ _ _ e n=>⟨o.slots,kp b o (nP b n) e⟩)
   (fun b o _ e n=>by rw [H1 b (nP b n) (nb b o e)];exact n) (fun b o _ e=>?_) (fun b xs e=>by rw [H1 b (cZ e hP (by nofun)) (nH b _ e)];exact e) (fun b o u e=>by rw [H1 b (cZ e hP (by nofun)) (nH b _ e)];exact e) (fun b p e=>?_) (fun m hn=>(hn.extBut ex (Ne.symm lP)).push _) (fun b u e=>?_) I.bare) gw (Heap.get?_push_size _ rfl) ?_ hsz aF
  ·by_cases z:b=P
   ·rw [z];exact ⟨_,Heap.get?_push_of_some _ tb⟩
   ·exact ⟨o,kp b o z e⟩
  ·by_cases z:b=P
   ·subst z
    rw [hP] at e;cases e
    exact ⟨#[rawInt pos.line,rawInt pos.col,.ref c'],HP⟩
   ·exact ⟨#[],by rw [H1 b z (nH b _ e),e];simp⟩
  ·by_cases z:b=c'
   ·subst z
    rw [aF] at e;cases e
    obtain ⟨c2,o2,vs,t,e1,e2,e3,e4⟩:=rc
    cases e1
    exact ⟨⟨_,o2,vs,t,rfl,Heap.get?_push_of_some _ e2,e3,e4⟩,⟨o2,Heap.get?_push_of_some _ e2⟩,fun h1 h2 ⟨c3,o3,vs3,t3,g1,g2,g3,g4⟩ k=>by cases g1;exact ⟨_,o3,vs3,t3,rfl,k _ g2,g3,g4⟩⟩
   ·by_cases z2:b=P
    ·subst z2
     rw [HP] at e;cases e
     exact Heap.get?_push_of_some _ tb
    ·rw [H1 b z2 z] at e
     refine (I.hok b u e).stay (fun b' u' hb' e'=>kp b' u' (fun y=>?_) e') (fun b' e'=>by rw [H1 b' (cZ e' hP (by nofun)) (nH b' _ e')];exact e') fun b' xs e'=>by rw [H1 b' (cZ e' hP (by nofun)) (nH b' _ e')];exact e'
     rcases hb' with y' | y'
     ·exact z2 (y'.symm.trans y)
     ·rw [y,hP] at y';cases y'
  ·have:=Nat.ne_of_gt lt
   rw [H1 _ (fun z=>absurd (Heap.lt_size hPo) (by rw [←z];exact Nat.not_lt_of_le hsz)) this]
   exact I.hok.fresh hsz
end
end L2.L3
namespace L2.L3
open PySem PySem.W PyProof.Rows PySem.Calls
section
variable {prog:Program} {w:World} {A:Around} {E:Value→Shared→Prop} {s:Shared}
theorem vD {kS a:Addr} {oa:Obj} {vs:List Value} {J:List Value→Shared→Prop} {body:Value→PUnit→Sem (ForInStep PUnit)} (h64:vs.length<64)
  (hb:∀ x ks e (s:Shared),ks.length<64→vs[ks.length]?=some x→s.heap.get? kS=some (seqObj "list" (List.toArray ks) e)→s.heap.get? a=some oa→J ks s →
   wpAny (model prog w) A (body x ⟨⟩) (fun r s'=>r=.yield ⟨⟩∧∃ k c,s'.heap.get? kS=some (seqObj "list" (List.toArray (ks++[k])) c)∧s'.heap.get? a=some oa∧J (ks++[k]) s') E s) :
  ∀ (r ks:List Value) (e:Nat) (s:Shared),vs=(vs.take ks.length)++r→ks.length+r.length=vs.length→s.heap.get? kS=some (seqObj "list" (List.toArray ks) e)→s.heap.get? a=some oa→J ks s →
   wpAny (model prog w) A (forIn r PUnit.unit body) (fun _ s'=>∃ ks e,s'.heap.get? kS=some (seqObj "list" (List.toArray ks) e)∧s'.heap.get? a=some oa∧ks.length=vs.length∧J ks s') E s
 | [],ks,e,s,hv,hl,hk,ha,hJ=>by
  rw [List.forIn_nil]
  exact wpAny_pure ⟨ks,e,hk,ha,by simpa using hl,hJ⟩
 | x::r,ks,e,s,hv,hl,hk,ha,hJ=>by
  rw [List.length_cons] at hl
  rw [List.forIn_cons]
  have hx:vs[ks.length]?=some x:=by
   rw [hv,List.getElem?_append_right (by rw [List.length_take];omega),List.length_take]
   rw [show ks.length - min ks.length vs.length=0 by omega];rfl
  refine wpAny_bind (wpAny_mono (hb x ks e s (by omega) hx hk ha hJ) (fun q s' hq=>?_) fun _ _ x=>x)
  obtain ⟨rfl,k,c,hk',ha',h2⟩:=hq
  show wpAny (model prog w) A (forIn r PUnit.unit body) _ E s'
  refine vD h64 hb r (ks++[k]) c s' ?_ (by rw [List.length_append,List.length_singleton];omega) hk' ha' h2
  rw [List.length_append,List.length_singleton]
  have e1:vs.take (ks.length+1)=vs.take ks.length++[x]:=by rw [List.take_succ,hx];rfl
  rw [e1,List.append_assoc];exact hv
theorem a2F {kS a:Addr} {f:Value} {e1:Nat} {vs:List Value} {kds:List PyData} {k:Bool} {g:List Bool} {J:List Value→Shared→Prop} {P:PySem.Fin→Shared→Prop} (hka:kS≠a) (hk:s.heap.get? kS=some (seqObj "list" #[] 0)) (ha:s.heap.get? a=some (seqObj "list" #[] e1)) (h64:vs.length<64)
  (hs:∀ d∈kds,bP (k::g) d=true) (hlen:kds.length=vs.length) (hJ:J [] s)
  (mono:∀ ks s h',J ks s→(∀ b,b≠kS→h'.get? b=s.heap.get? b)→h'.objs.size=s.heap.objs.size→(∃ o,h'.get? kS=some o)→J ks { s with heap:=h' })
  (step:∀ ks s x,vs[ks.length]?=some x→J ks s→wpAny (model prog w) A (call f [x]) (fun k s'=>J (ks++[k]) s'∧s'.heap.get? a=s.heap.get? a∧s'.heap.get? kS=s.heap.get? kS) (fun _ _=>False) s)
  (fin:∀ ks s,ks.length=vs.length→J ks s→Rows s.heap ks kds)
  (h:∀ (p:Array Nat) ks s' h',ST.Pm kds.length p→(p.toList.map fun i=>kds.getD i .none)=nU kds→J ks s'→(∀ b,b≠kS→b≠a→h'.get? b=s'.heap.get? b)→h'.objs.size=s'.heap.objs.size →
   (∃ c,h'.get? a=some (seqObj "list" (p.toList.map fun i=>vs.getD i .none).toArray c))→P (.done (.ret .none)) { s' with heap:=h' }) :
  wpAny (model prog w) A (ksk_rest a f false vs.toArray e1 (.ref kS)) P E s:=by
 unfold ksk_rest
 refine wpAny_bind (wpAny_rule ?_)
 first
  | rw [List.forIn_toArray]
  | (rw [←Array.forIn_toList];simp only [List.toList_toArray])
  | rw [←Array.forIn_toList]
 refine wpAny_bind (wpAny_mono (vD (J:=J) (oa:=seqObj "list" #[] e1) (a:=a) (kS:=kS) h64 (fun x ks e s' hz hx hk' ha' hj=>?_) vs [] 0 s (by simp) (by simp) hk ha hJ) (fun _ s' hd=>?_) fun _ _ x=>x)
 ·refine wpAny_bind (wpAny_attempt (wpAny_mono (step ks s' x hx hj) (fun kv s'' hq=>?_) fun _ _ hF=>hF.elim))
  obtain ⟨j2,a2,k2⟩:=hq
  rw [hk'] at k2
  rw [ha'] at a2
  have s1:=Heap.SameBut.update s''.heap kS (Obj.mapSeq (·.push kv))
  have ea:(List.toArray ks).push kv=List.toArray (ks++[kv]):=by simp
  obtain ⟨c2,hc2⟩:∃ c2,(s''.heap.update kS (Obj.mapSeq (·.push kv))).get? kS=some (seqObj "list" (List.toArray (ks++[kv])) c2):=⟨_,by rw [←ea];exact get?_update_seq k2 (·.push kv)⟩
  try dsimp only
  refine wpAny_bind (listUpdate_at k2 rfl ?_ (by rw [List.size_toArray,sizeLine_eq];omega) (Nat.le_trans (Nat.le_of_eq (Array.size_push ..)) (by rw [List.size_toArray,sizeLine_eq];omega)))
  exact wpAny_pure ⟨rfl,kv,c2,hc2,(s1.2 a hka.symm).trans a2,mono _ _ _ j2 (fun b hb=>s1.2 b hb) s1.1 ⟨_,hc2⟩⟩
 ·obtain ⟨ks,e,hk',ha',hl,hj⟩:=hd
  try dsimp only
  refine wpAny_bind (listItems_at hk' rfl ?_)
  have rd:=fin ks s' hl hj
  -- the end: the keys' list is emptied,the list is filled
  have tail:∀ (st:SortSt) (p:Array Nat),(arrOf st).map (·.2)=(p.toList.map fun i=>vs.getD i .none).toArray→failedOf st=none→ST.Pm kds.length p→(p.toList.map fun i=>kds.getD i .none)=nU kds →
    wpAny (model prog w) A (ksk_tail a false e1 (.ref kS) st) P E s':=by
   intro st p hout hf hP hS
   have s1:=Heap.SameBut.update s'.heap kS (Obj.mapSeq fun _=>(#[]:Array Value))
   have na:(s'.heap.update kS (Obj.mapSeq fun _=>(#[]:Array Value))).get? a=some (seqObj "list" #[] e1):=(s1.2 a hka.symm).trans ha'
   have s2:=Heap.SameBut.update (s'.heap.update kS (Obj.mapSeq fun _=>(#[]:Array Value))) a (Obj.mapSeq fun _=>(p.toList.map fun i=>vs.getD i Value.none).toArray)
   unfold ksk_tail
   try dsimp only
   rw [hout]
   refine wpAny_bind (listUpdate_at hk' rfl ?_ (by rw [List.size_toArray,sizeLine_eq];omega) (Nat.zero_le _))
   refine wpAny_bind (wpAny_letGo ?_)
   refine wpAny_bind (seqEpoch_at na rfl ?_)
   refine wpAny_bind (listUpdate_at na rfl ?_ (Nat.zero_le _) (by rw [if_neg (by decide),List.size_toArray,List.length_map,Array.length_toList,hP.size,sizeLine_eq];omega))
   rw [hf]
   simp only [bne_self_eq_false,Bool.false_eq_true,if_false]
   refine wpAny_pure (h p ks s' _ hP hS hj (fun b h1 h2=>(s2.2 b h2).trans (s1.2 b h1)) (s2.1.trans s1.1) ⟨_,get?_update_seq na fun _=>(p.toList.map fun i=>vs.getD i Value.none).toArray⟩)
  unfold ksk_end
  try dsimp only
  simp only [Bool.false_eq_true,if_false]
  by_cases h2:vs.toArray.size<2
  ·rw [if_pos h2,if_pos h2]
   refine wpAny_bind (wpAny_pure ?_)
   rw [StateT.run_pure]
   refine wpAny_bind (wpAny_pure ?_)
   have hsz:vs.toArray.size=vs.length:=by simp
   have hpm:ST.Pm kds.length (List.range vs.length).toArray:=by rw [hlen];exact ⟨by simp,Array.Perm.refl _⟩
   refine tail _ (List.range vs.length).toArray ?_ rfl hpm (oM hs hpm (fun i j hij hj=>by rw [show i=j by omega];exact Int.le_refl _))
   show (ks.toArray.zip vs.toArray).map (·.2)=_
   apply Array.toList_inj.mp
   have e:(List.range vs.length).map (fun i=>vs.getD i Value.none)=vs:=by
    refine List.ext_getElem (by simp) fun i h1 h2=>?_
    simp [List.getD_eq_getElem?_getD,h2]
   simp only [List.toList_toArray,e,Array.toList_map,Array.toList_zip]
   rw [List.map_snd_zip (by omega)]
  ·rw [if_neg h2,if_neg h2]
   have hsz:vs.toArray.size=vs.length:=by simp
   refine wpAny_bind (a0t (s:=s') rd hs (by omega) ?_)
   have hq:=ST.h_sort (r:=rk kds) (n:=vs.length) (by omega)
   refine wpAny_bind (wpAny_mono (kat_run (κ:=tuples' true) (ks:=ks) (vs:=vs) (s:=s') (G:=fun p s2=>s2=s'∧ST.Pm vs.length p∧ST.Up (rk kds) p vs.length)
    (Q:=fun st' s2=>∃ p:Array Nat,arrOf st'=p.map (kas_item (ks.toArray.zip vs.toArray))∧failedOf st'=none∧s2=s'∧ST.Pm vs.length p∧ST.Up (rk kds) p vs.length)
    hl (by omega) h64 (fun p' st' s2 a1 a2 a3 a4=>⟨p',a2,a3,a4⟩)
    (ST.wp_run (n:=vs.length) (lt:=ST.ltr (rk kds)) (fun i j C hi hj hC=>?_) _ hq.1 ⟨rfl,hq.2⟩)) ?_ fun _ _ e=>e)
   ·obtain ⟨as,ri⟩:=rd.at i (by omega)
    obtain ⟨bs,rj⟩:=rd.at j (by omega)
    have mi:kds.getD i .none∈kds:=by rw [List.getD_eq_getElem?_getD,List.getElem?_eq_getElem (by omega)];exact List.getElem_mem (by omega)
    have mj:kds.getD j .none∈kds:=by rw [List.getD_eq_getElem?_getD,List.getElem?_eq_getElem (by omega)];exact List.getElem_mem (by omega)
    refine row_lt ri rj (hs _ mi) (hs _ mj) ?_
    rw [a6d hs (by omega) (by omega)]
    exact hC
   ·rintro ⟨⟨⟩,st'⟩ s2 ⟨p,har,hf,rfl,hP,hU⟩
    dsimp only
    rw [←hlen] at hP hU
    exact tail st' p (kat_snds hl har) hf hP (oM hs hP hU)
end
end L2.L3
namespace L2.L3
open PySem PySem.W PyProof.Rows PySem.Calls
section
variable {prog:Program} {w:World} {A:Around} {E:Value→Shared→Prop} {s:Shared}
theorem wQ {l q:Addr} {T:String} {o:Obj} {vs:List Value} {n:Nat} {Q:Value→Shared→Prop} (hT:T = "list" ∨ T = "tuple") (ho:s.heap.get? l=some o) (hc:o.cls=.type T) (hd:o.data=.seq vs.toArray n) (h64:vs.length<64)
  (h:∀ (a kS:Addr) (e1:Nat) (h':Heap) (P:PySem.Fin→Shared→Prop) (E':Value→Shared→Prop),(∀ s',Q (.ref a) s'→P (.done (.ret .none)) s')→s.heap.objs.size≤a→a<kS→(∀ b o,s.heap.get? b=some o→h'.get? b=some o) →
   h'.get? kS=some (seqObj "list" #[] 0)→h'.get? a=some (seqObj "list" #[] e1)→wpAny (model prog w) A.in1.in1 (ksk_rest a (.ref q) false vs.toArray e1 (.ref kS)) P E' { s with heap:=h' }) :
  wpAny (model prog w) A (call (.builtin "sorted") [.ref l] [(Str.ofString "key", .ref q)]) Q E s:=by
 refine call_function_entry_kw kind_sorted plain_sorted entry_sorted (ksk_s1 _ _) ?_
 unfold Builtin.«sorted»
 refine wpAny_bind (m:=checkCount "sorted" 1 1 _) (wpAny_pure ?_)
 refine wpAny_bind (pV hT ho hc hd (by rw [sizeLine_eq];omega) fun h1 kp up=>?_)
 refine wpAny_bind (wpAny_newList ?_ (by rw [sizeLine_eq];omega))
 have hoL:(h1.push (seqObj "list" vs.toArray 0)).get? h1.objs.size=some (seqObj "list" vs.toArray 0):=Heap.get?_push_size _ rfl
 have keep:∀ b o,s.heap.get? b=some o→b≠h1.objs.size∧(h1.push (seqObj "list" vs.toArray 0)).get? b=some o:=fun b o q=>⟨Nat.ne_of_lt (Heap.lt_size (kp _ _ q)),Heap.get?_push_of_some _ (kp _ _ q)⟩
 show wpAny _ _ _ _ _ { s with heap:=h1.push (seqObj "list" vs.toArray 0) }
 refine wpAny_bind (wpAny_holding (wpAny_call_entry_kw slot_list_sort ⟨_,hoL,rfl⟩ entry_list_sort ?body (ksk_l1 _ _)))
 case body=>
  show wpAny (model prog w) A.in1.in1 (Builtin.«list.sort» ⟨[.ref h1.objs.size],[(Str.ofString "key", .ref q)]⟩) _ _ _
  rw [ksk_t1]
  unfold ksk_tree
  obtain ⟨e1,ho1⟩:∃ e1,((h1.push (seqObj "list" vs.toArray 0)).update h1.objs.size (Obj.mapSeq fun _=>(#[]:Array Value))).get? h1.objs.size=some (seqObj "list" #[] e1):=⟨_,get?_update_seq hoL fun _=>#[]⟩
  refine wpAny_bind (listItems_at hoL rfl ?_)
  refine wpAny_bind (listUpdate_at hoL rfl ?_ (by rw [List.size_toArray,sizeLine_eq];omega) (Nat.zero_le _))
  refine wpAny_bind (seqEpoch_at ho1 rfl ?_)
  refine wpAny_bind (wpAny_newTuple ?_ (by show vs.length≤_;rw [sizeLine_eq];omega))
  refine wpAny_bind (wpAny_newList ?_ (Nat.zero_le _))
  refine wpAny_holding ?_
  refine h h1.objs.size (((h1.push (seqObj "list" vs.toArray 0)).update h1.objs.size (Obj.mapSeq fun _=>(#[]:Array Value))).push (seqObj "tuple" vs.toArray 0)).objs.size e1 ((((h1.push (seqObj "list" vs.toArray 0)).update h1.objs.size (Obj.mapSeq fun _=>(#[]:Array Value))).push (seqObj "tuple" vs.toArray 0)).push (seqObj "list" #[] 0)) _ _ (fun s' hq=>⟨_,rfl,wpAny_pure ⟨_,rfl,hq⟩⟩) up ?_ (fun b o e=>?_) (Heap.get?_push_size _ rfl) (Heap.get?_push_of_some _ (Heap.get?_push_of_some _ ho1))
  ·rw [size_push',Heap.size_update,size_push'];exact Nat.lt_succ_of_lt (Nat.lt_succ_self _)
  ·obtain ⟨hb,hq⟩:=keep b o e
   refine Heap.get?_push_of_some _ (Heap.get?_push_of_some _ ?_)
   rw [Heap.get?_update_ne _ _ _ _ hb]
   exact hq
end
end L2.L3
namespace L2.L3
open PySem PySem.Spec PySem.Calls PyProof.Rows
noncomputable def jE (fe:EF):List PyData→Option (List PyData)
 | []=>some []
 | d::r=>match fe [.val d] with
  | some (.ok k)=>(jE fe r).map (k::·)
  | _=>none
noncomputable def keyOk (ks:List PyData):Bool:=match ks with
 | []=>true
 | x::xs=>(match a4j x with
  | some (k::g)=>(x::xs).all (bP (k::g))
  | _=>false)
noncomputable def ixK (k:PyData) (ks:List PyData):Nat:=ks.findIdx fun k'=>!ltT k k'&&!ltT k' k
noncomputable def a0n (ds ks:List PyData):Option (List PyData):=
 if (List.range ks.length).all (fun i=>ixK (ks.getD i .none) ks==i) then some ((nU ks).map fun k=>ds.getD (ixK k ks) .none) else none
noncomputable def nW (fe:EF) (ds:List PyData):Option PyData:=match jE fe ds with
 | some ks=>if keyOk ks&&decide (ks.length<64) then (a0n ds ks).map .list else none
 | none=>none
noncomputable def sI (fa fe:EF):EF:=fun ρ=>match fa ρ with
 | some (.ok x)=>lft ((uL x).bind (nW fe))
 | _=>none
theorem lV {fe:EF}:∀ {ds ks:List PyData},jE fe ds=some ks→ks.length=ds.length
 | [],ks,h=>by cases h;rfl
 | d::r,ks,h=>by
  unfold jE at h
  split at h
  ·obtain ⟨l,e1,rfl⟩:=Option.map_eq_some_iff.mp h
   simp [lV e1]
  ·cases h
theorem oR {fe:EF}:∀ {ds ks:List PyData} {i:Nat} {d:PyData},jE fe ds=some ks→ds[i]?=some d→∃ k,ks[i]?=some k∧fe [.val d]=some (.ok k)
 | [],ks,i,d,h,e=>by simp at e
 | d'::r,ks,i,d,h,e=>by
  unfold jE at h
  split at h
  ·rename_i k ek
   obtain ⟨l,e1,rfl⟩:=Option.map_eq_some_iff.mp h
   cases i with
   | zero=>simp at e;subst e;exact ⟨k,rfl,ek⟩
   | succ i=>
    have e':r[i]?=some d:=by simpa using e
    exact oR (ks:=l) e1 e'
  ·cases h
theorem a0H {ks:List PyData} (h:keyOk ks=true):∃ k g,∀ d∈ks,bP (k::g) d=true:=by
 unfold keyOk at h
 split at h
 ·exact ⟨true,[],fun d hd=>by cases hd⟩
 ·split at h
  ·rename_i k g _;exact ⟨k,g,fun d hd=>List.all_eq_true.mp h d hd⟩
  ·cases h
theorem a0m {ds ks out:List PyData} {p:List Nat} (h:a0n ds ks=some out) (hp:∀ i∈p,i<ks.length) (e:(p.map fun i=>ks.getD i .none)=nU ks):out=p.map fun i=>ds.getD i .none:=by
 unfold a0n at h
 split at h
 ·rename_i hc
  cases (Option.some.inj h)
  rw [←e,List.map_map]
  refine List.map_congr_left fun i hi=>?_
  have:=List.all_eq_true.mp hc i (List.mem_range.mpr (hp i hi))
  show ds.getD (ixK (ks.getD i .none) ks) .none=_
  rw [beq_iff_eq.mp this]
 ·cases h
section
variable {X:Cx} {pins:List (Addr×Obj)} {σ:St} {H H0 G₀ G:Hp} {s:Shared} {ρ:List Ent}
structure KJ (X:Cx) (pins:List (Addr×Obj)) (σ:St) (G H:Hp) (N:Nat) (f c a kS:Addr) (qual:Str) (params:Arguments) (body:Expr) (scope:Scope) (pm ct:Value) (kds:List PyData) (ks:List Value) (s:Shared):Prop where
 ex:∃ G' H' kvs,Inv X pins σ H' s∧Grow G H G' H'∧fI X.K G' H'∧RepAll X.K G' kvs (kds.take ks.length)∧aR kvs ks∧H' f=none∧H' a=none∧H' kS=none
 fo:s.heap.get? f=some (a5g qual params body scope pm c ct)
 oa:∃ o,s.heap.get? a=some o
 okk:∃ o,s.heap.get? kS=some o
theorem oW {N:Nat} {h':Heap} {ch:List Addr} {s0:Shared} {H0:Hp} (I0:Inv X pins σ H0 s0) (I:Inv X pins σ H s) (hch:∀ b∈ch,s0.heap.objs.size≤b∧H b=none) (same:∀ b,b∉ch→h'.get? b=s.heap.get? b) :
  Inv X pins σ H { s with heap:=h' }:=by
 have nt:∀ b u,H b=some u→b∉ch:=fun b u e z=>by rw [(hch b z).2] at e;cases e
 have lt:∀ b∈ch,∀ d,d<s0.heap.objs.size→d≠b:=fun b hb d hd z=>absurd (hch b hb).1 (by rw [←z];exact Nat.not_le_of_lt hd)
 refine I.step (ch:=ch) (g':=s.gens) (d':=s.drawn) (t':=s.toks) (h':=h') (fun b hb=>⟨.inr (Nat.le_trans I0.sz (hch b hb).1),fun z=>lt b hb _ I0.lt z.symm,fun x c e=>lt b hb c (by obtain ⟨v,q⟩:=I0.cell x c e;exact q.lt),fun p hp=>lt b hb p.1 (Heap.lt_size (I0.pin p hp).1)⟩)
  (fun b o _ _ hc e n=>(same b hc).trans e) (fun b o _ _ hc e n=>⟨o.slots,(same b hc).trans e⟩) (fun b o _ _ n=>n) (fun b o hc e=>⟨o,(same b hc).trans e⟩) (fun _ _ e=>e) (fun _ _ _ e=>e) (fun b ps e=>⟨#[],by rw [e];simp⟩) (fun m ⟨o,es,ep,e,r⟩=>⟨o,es,ep,(same _ fun z=>lt _ z _ I0.lt rfl).trans e,r⟩)
  (fun b u e=>(I.hok b u e).stay (fun b' u' hb' e'=>(same b' ?_).trans e') (fun _ z=>z) fun _ _ z=>z) I.bare
 rcases hb' with rfl | z
 ·exact nt _ _ e
 ·exact nt _ _ z
theorem a0L {a:Addr} {o:HO} {s0:Shared} {H0:Hp} (I0:Inv X pins σ H0 s0) (I:Inv X pins σ H s) (ha:s0.heap.objs.size≤a) (hn:H a=none) (new:bR X.prog X.w (upd H a o) s.heap a o):Inv X pins σ (upd H a o) s:=by
 have lt:∀ d,d<s0.heap.objs.size→d≠a:=fun d hd z=>absurd ha (by rw [←z];exact Nat.not_le_of_lt hd)
 have nt:∀ b u,H b=some u→b≠a:=fun b u e z=>by rw [z,hn] at e;cases e
 refine I.step (ch:=[a]) (g':=s.gens) (d':=s.drawn) (t':=s.toks) (h':=s.heap) (fun b hb=>?_) (fun b o _ _ hc e n=>e) (fun b o _ _ hc e n=>⟨o.slots,e⟩) (fun b o hc e n=>by rw [aD (by simpa using hc)];exact n) (fun b o hc e=>⟨o,e⟩)
  (fun b xs e=>by rw [aD (nt b _ e)];exact e) (fun b o u e=>by rw [aD (nt b _ e)];exact e) (fun b ps e=>⟨#[],by rw [aD (nt b _ e),e];simp⟩) (fun m h=>h) (fun b u e=>?_) I.bare
 ·obtain rfl:=List.mem_singleton.mp hb
  exact ⟨.inr (Nat.le_trans I0.sz ha),fun z=>lt _ I0.lt z.symm,fun x c e=>lt c (by obtain ⟨v,q⟩:=I0.cell x c e;exact q.lt),fun p hp=>lt p.1 (Heap.lt_size (I0.pin p hp).1)⟩
 ·by_cases z:b=a
  ·subst z;rw [aF] at e;cases e;exact new
  ·rw [aD z] at e
   exact (I.hok b u e).stay (fun _ _ _ e'=>e') (fun b' e'=>by rw [aD (nt b' _ e')];exact e') fun b' xs e'=>by rw [aD (nt b' _ e')];exact e'
theorem jM (I:Inv X pins σ H s) {b:Addr} (h:s.heap.objs.size≤b):b∉frs X.stack:=fun z=>by
 rcases List.mem_cons.mp (I.stkSub b z) with e | e
 ·exact absurd I.lt (by rw [←e];exact Nat.not_lt_of_le h)
 ·exact I.nofs h e
theorem a3A {k:Nat} {x y:Str} {c P:Addr} {params:Arguments} {body a:Expr} {scope:Scope} {lp kp p pos:Pos} {fa fe:EF} (hx:x∈cN) (ht:PySem.W.tabIn X.K x=some (c,P)) (hcode:X.env.code=.ref c)
  (hq:X.env.qual ++ "<lambda>" = lamQ x) (C:PySem.W.codeHdIn X.K c P=true) (M:BM X.mg X.base) (hr:Room (k+3) X.A) (hm:X.mg "sorted" = none) (ha:DE X a fa) (S:FnScope [y] [y] scope)
  (hbody:∀ (f c:Addr) (A:Around) (outer:List Env) (s:Shared) (H:Hp),Room k (A.deeper (envOfC (lamQ x) scope s.heap.objs.size f (.ref c)))→DE (fcx X.prog X.w X.K X.mg X.base [y] (lamQ x) scope f (.ref c) A outer s H E0) body fe)
  (hbind:∀ (pm ct u:Value) (c:Addr),bindArgs (PySem.W.kla_fn "<lambda>" (lamQ x) params body scope [] pm (.ref c) ct) ⟨[u],[]⟩=pure [(y,u)]:=by intros;rfl)
  (hdef:defaultsOf params X.env=([],[]):=by rfl) (hcl:closureFor scope X.env=pure []:=by rfl)
  (he:starEach [a] X.env=(false,eval a X.env)::starEach [] X.env:=by rfl)
  (he':backTo pos (starEach [a] X.env)=(false,eval a X.env)::backTo pos (starEach [] X.env):=by rfl) (hpl:(backTo pos (starEach [a] X.env)).any (·.1)=false:=by rfl)
  (hk1:(backToKw pos (keywordEach [⟨some "key", .Lambda params body scope lp,kp⟩] X.env)).filterMap (·.1)=[Str.ofString "key"]:=by rfl) (hg:Gl X "sorted":=by rfl) :
  DE X (.Call (.Name "sorted" p) [a] [⟨some "key", .Lambda params body scope lp,kp⟩] pos) (sI fa fe):=⟨fun pins s σ H Q I ⟨ρ,r,H0,G₀,G,ef,R,q⟩=>by
 unfold sI at ef
 refine wpAny_Call_Name_kw (iG I hg hm (by rfl:bootBuiltins "sorted" = some (.builtin "sorted")) ?_ (by decide) (by decide))
 split at ef
 ·rename_i d e1
  obtain ⟨out0,e3,rfl⟩:=bI ef
  obtain ⟨ds,e4,e5⟩:=Option.bind_eq_some_iff.mp e3
  unfold nW at e5
  split at e5
  ·rename_i kds ek
   split at e5
   ·rename_i hok
    rw [Bool.and_eq_true] at hok
    obtain ⟨out,e6,rfl⟩:=Option.map_eq_some_iff.mp e5
    obtain ⟨kk,gg,hs⟩:=a0H hok.1
    have k64:=of_decide_eq_true hok.2
    have kl:=lV ek
    refine callWith_kw (thn ((dD (ha.pd e1) eN he).run H0 G₀ G pos pins s σ H (fun vs H'=>∃ G',Grow G H G' H'∧RepAll X.K G' vs [d]) I R fun vs G' H' g r=>⟨G',g,r⟩) fun us s1 ⟨vs,H1,I1,r1,G1,g1,w1⟩=>?_) he' hpl
    show wpAny _ _ (evalAll ((do let v ←eval (.Lambda params body scope lp) X.env;standAt pos;pure v)::[])) _ _ s1
    refine wpAny_evalAll_cons (wpAny_bind (uZ hx ht hcode hq C M hdef hcl I1 (R.more g1) fun f c' ct pm H2 s2 I2 g2 fo Hf sf hc'=>wpAny_bind (wpAny_standAt (wpAny_pure (wpAny_pure ?_)))))
    rw [hk1]
    cases w1 with | cons wa wn=>
    cases wn
    obtain ⟨u,rfl,ru⟩:=vals1 r1
    obtain ⟨l,ivs,rfl,hsq,ri⟩:=yM g2.sub e4 wa
    cases ru
    obtain ⟨its,T,o,n,hT,ho,hc,hd,rv⟩:=qI I2 hsq
    have l1:=ri.len
    have l2:=rv.length
    have tb2:fI X.K G1 H2:=((R.more g1).more g2).tab
    have nf:f∉frs X.stack:=jM I1 sf
    refine wQ hT ho hc hd (by omega) fun a kS e1' h' Pn E' hP ga gk kp' hk0 ha0=>?_
    have gk':s2.heap.objs.size≤kS:=Nat.le_trans ga (Nat.le_of_lt gk)
    have na:a∉frs X.stack:=jM I2 ga
    have nk:kS∉frs X.stack:=jM I2 gk'
    refine a2F (J:=KJ X pins σ G1 H2 0 f c' a kS (lamQ x) params body scope pm ct kds) (kds:=kds) (Nat.ne_of_gt gk) hk0 ha0 (by omega) hs (by omega) ?start ?mono ?step ?fin ?done
    case start=>exact ⟨⟨G1,H2,[],I2.kept (t':=s2.toks) kp',.refl g2.sub,tb2,.nil,.nil,Hf,I2.hok.fresh ga,I2.hok.fresh gk'⟩,kp' _ _ fo,⟨_,ha0⟩,⟨_,hk0⟩⟩
    case mono=>
     intro ks s3 h3 ⟨⟨G3,H3,kvs,I3,g3,t3,w3,v3,f3,a3,k3⟩,fo3,oa3,ok3⟩ same sz ok
     have fk:f≠kS:=fun z=>absurd (Heap.lt_size fo) (by rw [z];exact Nat.not_lt_of_le gk')
     refine ⟨⟨G3,H3,kvs,oW (N:=0) (ch:=[kS]) I2 I3 (fun b hb=>?_) (fun b hb=>same b (by simpa using hb)),g3,t3,w3,v3,f3,a3,k3⟩,(same f fk).trans fo3,?_,ok⟩
     ·obtain rfl:=List.mem_singleton.mp hb
      exact ⟨gk',k3⟩
     ·obtain ⟨oo,e⟩:=oa3
      exact ⟨oo,(same a (Nat.ne_of_lt gk)).trans e⟩
    case step=>
     intro ks s3 xv hxv ⟨⟨G3,H3,kvs,I3,g3,t3,w3,v3,f3,a3,k3⟩,fo3,oa3,ok3⟩
     have hi:ks.length<its.length:=(List.getElem?_eq_some_iff.mp hxv).1
     have hdi:ds[ks.length]?=some (ds[ks.length]'(by omega)):=List.getElem?_eq_getElem (by omega)
     obtain ⟨kd,ekd,efe⟩:=oR ek hdi
     obtain ⟨iv,eiv,riv⟩:=ri.get hdi
     obtain ⟨xv',exv,rxv⟩:=rv.get eiv
     rw [hxv] at exv;cases exv
     have cr:s3.heap.CodeRec (.ref c') (lamQ x):=(I3.hok c' _ (g3.hh.keep c' _ hc' (by unfold cdO;nofun))).1
     have r3:Room (k+1) X.A.in1.in1:=hr.in1.in1
     refine wpAny_call (codeAny_mono (vA r3 I3.env0.in1.in1 fo3 cr S (hbind pm ct xv c') (hbody f c' _ _ _ _ (r3.deeper _)) ⟨g3.sub,t3⟩ (riv.mono g3.gg) rxv efe) fun r s4 h4=>?_)
     cases r with
     | error e=>exact False.elim h4
     | ok fl=>
      cases fl with
      | next=>exact False.elim h4
      | brk=>exact False.elim h4
      | cont=>exact False.elim h4
      | ret u4=>
       obtain ⟨v4,H4,os4,bare4,un4,hok4,rv4,G4,g4,w4⟩:=h4
       obtain ⟨_,_,I4,_,rfl,rfl⟩:=I3.after (Q:=fun v H=>v=v4∧H=H4) (u:=u4) (s':=s4) ⟨v4,H4,os4,bare4,un4,hok4,rv4,rfl,rfl⟩
       obtain ⟨oo,eoa⟩:=oa3
       obtain ⟨ok',eok⟩:=ok3
       have keepA:=un4.keep a oo eoa a3 na (by simp)
       have keepK:=un4.keep kS ok' eok k3 nk (by simp)
       refine ⟨⟨⟨G4,_,kvs++[_],I4,g3.trans g4,t3.more g4,?_,Paired.snoc v3 rv4,un4.free f _ fo3 f3 (by simp),un4.free a _ eoa a3 (by simp),un4.free kS _ eok k3 (by simp)⟩,un4.keep f _ fo3 f3 nf (by simp),⟨oo,keepA⟩,⟨ok',keepK⟩⟩,keepA.trans eoa.symm,keepK.trans eok.symm⟩
       rw [List.length_append,List.length_singleton,List.take_succ,ekd]
       exact (w3.mono g4.gg).append (.cons w4 .nil)
    case fin=>
     intro ks s3 hl ⟨⟨G3,H3,kvs,I3,g3,t3,w3,v3,f3,a3,k3⟩,fo3,oa3,ok3⟩
     rw [List.take_of_length_le (by omega)] at w3
     exact yN I3 (w3.mono g3.sub) v3
    case done=>
     intro pp ks s3 h3 hPm hS ⟨⟨G3,H3,kvs,I3,g3,t3,w3,v3,f3,a3,k3⟩,fo3,oa3,ok3⟩ same sz ⟨cc,hca⟩
     refine hP _ ?_
     have pl:∀ i∈pp.toList,i<ivs.length:=fun i hi=>by
      have:=(Array.perm_iff_toList_perm.mp hPm.perm).mem_iff.mp hi
      simp at this
      omega
     have I5:Inv X pins σ H3 { s3 with heap:=h3 }:=oW (N:=0) (ch:=[kS,a]) I2 I3 (fun b hb=>by
      rcases List.mem_cons.mp hb with rfl | hb
      ·exact ⟨gk',k3⟩
      ·obtain rfl:=List.mem_singleton.mp hb
       exact ⟨ga,a3⟩) (fun b hb=>same b (fun z=>hb (by simp [z])) fun z=>hb (by simp [z]))
     refine ⟨.ref a,_,a0L (o:=.lst (pp.toList.map fun i=>ivs.getD i .non)) I2 I5 ga a3 ⟨?_,pp.toList.map fun i=>its.getD i Value.none,cc,aR.pick rv _ pl,hca⟩,rfl,?_⟩
     ·rw [List.length_map,Array.length_toList,hPm.size]
      exact Nat.le_of_lt (qF (by omega))
     ·refine q (.ref a) _ _ ((g1.trans g2).trans (g3.trans (.put g3.sub a3))) (.list (.of aF) ?_)
      rw [a0m (p:=pp.toList) e6 (fun i hi=>by have:=pl i hi;omega) hS]
      exact (ri.pick _ pl).mono (g3.gg.trans (Grow.put g3.sub a3).gg)
   ·cases e5
  ·cases e5
 ·cases ef⟩
end
end L2.L3
namespace L2.L3
open PySem PySem.Spec PySem.Calls PyProof.Rows
section
variable {P:Program} {w:World} {K:PySem.W.Frag} {mg:Str→Option Value} {base:Heap} {x:Str} {k:Nat} {ps N:List Str}
theorem a5q {st:Stmt} {f:SF} {fa c T:Addr} {fd:FuncData} (m n:Nat) (Fu:Fun K x x st fa fd) (S:FnScope N ps (aE st)) (hm:N.length=m) (hn:ps.length=n) (kb:K.In base) (nb:base.Ns mainGlobals mg) (hmg:mg x=some (.ref fa)) (ht:PySem.W.tabIn K x=some (c,T))
  (body:∀ (A:Around) (outer:List Env) (s:Shared) (H:Hp) (E:XK),Room k (A.deeper (envOfC x (aE st) s.heap.objs.size fa (.ref c)))→DB (fcx P w K mg base N x (aE st) fa (.ref c) A outer s H E) (bG st) f) :
  FnOk P w K mg base CX0 (k+1) fa fd ps (spD K fun ds d=>dZ m n f ds=some (.ok d)):=by
 obtain ⟨oc,od,kV,doc,pm,an,cdv,ct,osl,rfl,lk,hcd⟩:=Fu.ex
 have hc:cdv=.ref c:=PySem.W.law_code kb nb ht hmg (kb _ _ lk) rfl
 subst hc
 refine a3c lk hcd S (fun vs H Q E ⟨G,ds,d,s,r,hF,_⟩=>?_) (fun A outer s H vs Q E hr ⟨G,ds,d,sm,r,hF,q⟩=>?_)
 ·have hF:dZ m n f ds=some (.ok d):=hF
  unfold dZ at hF
  split at hF
  ·rename_i hl;rw [r.length,hl,hn]
  ·cases hF
 ·have hF:dZ m n f ds=some (.ok d):=hF
  unfold dZ at hF
  split at hF
  ·rw [←hm,←lI] at hF
   split at hF
   ·rename_i d' e
    cases (Option.some.inj hF)
    exact ⟨_,(body A outer s H E hr).run.nox,eE N ds,_,H,G,G,e,cY sm r,fun v G' H' _ g rv=>q v G' H' g rv⟩
   ·rename_i ρ' e
    cases (Option.some.inj hF)
    exact ⟨_,(body A outer s H E hr).run.nox,eE N ds,_,H,G,G,e,cY sm r,fun G' H' σ' _ R'=>q .non G' H' R'.grow .none⟩
   ·cases hF
  ·cases hF
theorem mR {st:Stmt} {f:SF} {c T:Addr} (m n:Nat) (D:Def K mg x st) (S:FnScope N ps (aE st)) (hm:N.length=m) (hn:ps.length=n) (kb:K.In base) (nb:base.Ns mainGlobals mg) (ht:PySem.W.tabIn K x=some (c,T))
  (hb:∀ (kV doc pm:Value) (an:Option Addr) (cdv ct:Value) (us:List Value),us.length=ps.length→bindArgs (PySem.W.fnOf x x (cR st) (bG st) (aE st) .none kV doc pm an cdv ct) ⟨us,[]⟩=pure (ps.zip us))
  (body:∀ (fa:Addr) (A:Around) (outer:List Env) (s:Shared) (H:Hp) (E:XK),Room k (A.deeper (envOfC x (aE st) s.heap.objs.size fa (.ref c)))→DB (fcx P w K mg base N x (aE st) fa (.ref c) A outer s H E) (bG st) f) :
  aO P w K mg base x (k+1) ps (dZ m n f):=by
 obtain ⟨fa,fd,Fu,hmg⟩:=D.ex
 exact ⟨fa,fd,hmg,Fu.kp,Fu.binds hb,a5q m n Fu S hm hn kb nb hmg ht fun A outer s H E hr=>body fa A outer s H E hr⟩
end
theorem uX {β:Type}:∀ {l:List (Addr×β)} {a:Addr} {b:β},l.lookup a=some b→(a,b)∈l
 | [],_,_,e=>by cases e
 | (c,y)::r,a,b,e=>by
  rw [List.lookup_cons] at e
  cases hb:a==c with
  | true=>rw [hb] at e;cases e;rw [eq_of_beq hb];exact .head _
  | false=>rw [hb] at e;exact .tail _ (uX e)
theorem a0F {P:Program} {w:World} {K:PySem.W.Frag} {mg mb:Str→Option Value} {k:Nat} {fa a:Addr} {fd:FuncData} {x:Str} {F:List PyData→Mm PyData} {s₁:Shared} {vs:List Value} {ns:List Int} {ts:List (Addr×Str)}
  (KX:K.In s₁.heap) (hns:s₁.heap.Ns mainGlobals mg) (hb:s₁.heap.Ns builtinsNs mb) (hbb:∀ x:Str,x ≠ "__name__" → mb x=bootBuiltins x) (hlim:s₁.heap.NoLimit) (hg:s₁.gens=#[])
  (ha:s₁.heap.get? a=some { cls:=.type "list", data:=.seq vs.toArray }) (hi:IntsAre vs ns) (hl:ns.length≤sizeLine) (hr:Room k callerA) (hbm:BM mg s₁.heap)
  (htab:∀ T q,ts.lookup T=some q→s₁.heap.get? T=some (PySem.W.tabObj #[])∧isCodeTable s₁.heap T∧K.lookup T=none) (hts:∀ x∈cN,∀ c T,PySem.W.tabIn K x=some (c,T)→ts.lookup T=some (lamQ x))
  (Fn:∀ base:Heap,K.In base→base.Ns mainGlobals mg→BM mg base→FnOk P w K mg base CX0 k fa fd [x] (spD K fun ds d=>F ds=some (.ok d))) (hbind:∀ (s:Shared) (u:Value),BindsTo s fd ⟨[u],[]⟩ [(x,u)]) (hF:F [.list (ns.map .int)]=some (.ok (.bool true))) :
  codeAny (model P w) callerA (.call (.ref fa) ⟨[.ref a],[]⟩) (fun r s'=>r=.ok (.ret (.bool true))∧OldK s₁.heap s'.heap∧s'.os=s₁.os∧AllBare s'.gens) s₁:=by
 have rv:=qA hi
 have lenV:=hi.length
 have core:∀ S:Hp,Only S→SqL K S a (ns.map V.int)→HOk P w S s₁.heap→(∀ b,S b≠none→b=a)→(S a≠none→K.lookup a=none) →
   codeAny (model P w) callerA (.call (.ref fa) ⟨[.ref a],[]⟩) (fun r s'=>r=.ok (.ret (.bool true))∧OldK s₁.heap s'.heap∧s'.os=s₁.os∧AllBare s'.gens) s₁:=by
  intro S hO hS hok hA hK
  generalize hH:(fun b=>match ts.lookup b with | some q=>some (HO.tbl (q,#[])) | none=>S b:Hp)=H
  have H1:∀ b q,ts.lookup b=some q→H b=some (.tbl (q,#[])):=fun b q e=>by rw [←hH];simp [e]
  have H2:∀ b,ts.lookup b=none→H b=S b:=fun b e=>by rw [←hH];simp [e]
  have ta:∀ b,S b≠none→ts.lookup b=none:=fun b e=>by
   cases q:ts.lookup b with
   | none=>rfl
   | some q'=>
    have z:=hA b e
    subst z
    have:=(htab _ _ q).1
    rw [ha] at this;cases this
  have SH:aS S H:=fun b o e=>by rw [H2 b (ta b (by rw [e];simp))];exact e
  have hokH:HOk P w H s₁.heap:=fun b u e=>by
   cases q:ts.lookup b with
   | some q'=>
    rw [H1 b q' q] at e;cases e
    exact (htab _ _ q).1
   | none=>
    rw [H2 b q] at e
    exact (hok b u e).stay (fun _ _ _ z=>z) (fun b' z=>SH b' _ z) fun b' xs z=>SH b' _ z
  have free:∀ {b:Addr} {o:Obj},s₁.heap.get? b=some o→o≠PySem.W.tabObj #[]→o≠{ cls:=.type "list", data:=.seq vs.toArray }→H b=none:=fun {b o} e n1 n2=>by
   cases q:ts.lookup b with
   | some q'=>exact absurd (Option.some.inj (e.symm.trans (htab _ _ q).1)) n1
   | none=>
    rw [H2 b q]
    cases z:S b with
    | none=>rfl
    | some u=>
     have y:=hA b (by rw [z];simp)
     subst y
     exact absurd (Option.some.inj (e.symm.trans ha)) n2
  have base_of:∀ {b:Addr} {o:Obj},s₁.heap.get? b=some o→H b=none→(pT s₁.heap H).get? b=some o:=fun e n=>a2S e n
  have nsK:∀ {b:Addr} {m:Str→Option Value},s₁.heap.Ns b m→(pT s₁.heap H).Ns b m:=fun {b m} ⟨o,es,ep,e,d,r⟩=>⟨o,es,ep,base_of e (free e (fun z=>by rw [z] at d;cases d) fun z=>by rw [z] at d;cases d),d,r⟩
  have hKb:K.In (pT s₁.heap H):=fun b o e=>base_of (KX b o e) (by
   cases q:ts.lookup b with
   | some q'=>rw [(htab _ _ q).2.2] at e;cases e
   | none=>
    rw [H2 b q]
    cases z:S b with
    | none=>rfl
    | some u=>
     have y:=hA b (by rw [z];simp)
     subst y
     rw [hK (by rw [z];simp)] at e;cases e)
  have hM:Mod K mg (pT s₁.heap H):=⟨hKb,nsK hns,⟨mb,nsK hb,hbb⟩,let ⟨mc,h1,h2⟩:=hlim;⟨mc,nsK h1,h2⟩⟩
  have hB:BM mg (pT s₁.heap H):=by
   obtain ⟨bm,ob,b1,b2,b3,b4,b5,b6,b7⟩:=hbm.ex
   exact ⟨bm,ob,b1,b2,b3,base_of b4 (free b4 (fun z=>by rw [z] at b5;cases b5) fun z=>by rw [z] at b5;injection b5 with b5;exact absurd b5 (by decide)),b5,b6,b7⟩
  have e0:Env0 P w K mg (pT s₁.heap H) callerA [] s₁ H:=⟨rfl,hM,fun b o e=>a4P e,Nat.le_of_eq (a0N _ _),trivial,fun b hb=>absurd (show b∈([]:List Addr) from hb) (by simp),hokH,.of_eq hg⟩
  have tabs:fI K S H:=⟨fun x hx c T e=>⟨#[],H1 _ _ (hts x hx c T e),trivial,fun pos cv e=>by cases e⟩,fun b ps e=>by
   rcases hO b with z | ⟨o,xs,z⟩<;>rw [z] at e<;>cases e⟩
  refine codeAny_mono ((Fn _ hKb (nsK hns) hB).run callerA [] s₁ H ⟨[.ref a],[]⟩ [.ref a] [.ref a] (fun v _=>v=.bl true) E0 hr e0 (hbind s₁ (.ref a)) (.cons rfl .nil) ⟨S,[.list (ns.map .int)],.bool true,⟨SH,tabs⟩,.cons (.list hS (kH ns)) .nil,hF,fun v G' H' _ r=>by cases r;rfl⟩) fun r s' h=>?_
  cases r with
  | error e=>exact False.elim h
  | ok fl=>
   cases fl with
   | next=>exact False.elim h
   | brk=>exact False.elim h
   | cont=>exact False.elim h
   | ret u=>
    obtain ⟨v,H',os,bare,un,hok',r',q⟩:=h
    have q':v=.bl true:=q
    subst q'
    obtain rfl:u=Value.bool true:=r'
    refine ⟨rfl,⟨fun b o e=>?_,fun b o e=>un.there b o e (by simp)⟩,os,bare⟩
    cases y:ts.lookup b with
    | some q2=>
     obtain ⟨t1,t2,t3⟩:=htab _ _ y
     rw [e] at t1;cases t1
     obtain ⟨more,em⟩:=un.tbls b _ (H1 b q2 y)
     exact .inr (.inl ⟨t2,rfl,#[],more,rfl,hok' b _ em⟩)
    | none=>
     cases q:S b with
     | none=>exact .inl (un.keep b o e (by rw [H2 b y];exact q) (by intro z;exact absurd (show b∈([]:List Addr) from z) (by simp)) (by simp))
     | some u=>
      rcases hO b with z | ⟨ob,xs,z⟩
      ·rw [q] at z;cases z
      ·have z2:=un.frzs b ob _ (SH b _ z)
       obtain ⟨e1,_⟩:=hok b _ z
       obtain ⟨e2,_⟩:=hok' b _ z2
       rw [e] at e1;cases e1
       exact .inl e2
 cases hk:K.lookup a with
 | some o=>
  have e:=KX a o hk
  rw [ha] at e
  cases e
  refine core (fun _=>none) (fun _=>.inl rfl) (.inr ⟨_,vs.toArray,_,hk,rfl,rfl,rfl,by rw [List.size_toArray,lenV];exact hl,by simpa using rv⟩) (fun b u z=>by have z':(none:Option HO)=some u:=z;cases z') (fun b z=>absurd rfl z) fun z=>absurd rfl z
 | none=>
  refine core (fun b=>if b=a then some (.frz { cls:=.type "list", data:=.seq vs.toArray } (.lst (ns.map V.int))) else none) (fun b=>?_) (.inl (.inr ⟨{ cls:=.type "list", data:=.seq vs.toArray },if_pos rfl⟩)) (fun b u z=>?_) (fun b z=>?_) fun _=>hk
  ·by_cases hb:b=a
   ·exact .inr ⟨_,_,if_pos hb⟩
   ·exact .inl (if_neg hb)
  ·by_cases hb:b=a
   ·have z':=(if_pos hb).symm.trans z
    cases z'
    subst hb
    exact ⟨ha,by rw [List.length_map];exact hl,vs,_,rv,ha⟩
   ·have z':=(if_neg hb).symm.trans z
    cases z'
  ·by_cases hb:b=a
   ·exact hb
   ·exact absurd (if_neg hb) z
theorem walkL {l:PySem.W.OpenLaw} {k:Nat} {q:Program} {loose:List Str} {XP:(Str→Option Value)→Heap→Prop} {YP:World→Heap→Prop} {d:DefRec} {K:Params→PySem.W.Frag} {F:List PyData→Mm PyData} {x:Str} (ts:List (Addr×Str)) (hn:l.most=some 63) (hdf:d.params.defaults=[]) (hr:Room k callerA)
  (hY:∀ (w:World) (h:Heap),YP w h→(K w.params).In h) (hT:∀ (w:World) (h:Heap),YP w h→∀ p∈ts.map (·.1),h.get? p=some (PySem.W.tabObj #[])) (hcd:∀ w:World,∀ p∈ts,(∃ c,PySem.W.codeHdIn (K w.params) c p.1=true)∧(K w.params).lookup p.1=none)
  (hts:∀ w:World,∀ x∈cN,∀ c T,PySem.W.tabIn (K w.params) x=some (c,T)→ts.lookup T=some (lamQ x))
  (Fn:∀ (w:World) (mg:Str→Option Value) (fa:Addr) (h:Heap),(K w.params).In h→h.Ns mainGlobals mg→mg d.name=some (.ref fa) →
   ∃ fd:FuncData,(∀ (s:Shared) (u:Value),BindsTo s fd ⟨[u],[]⟩ [(x,u)])∧∀ base:Heap,(K w.params).In base→base.Ns mainGlobals mg→BM mg base→FnOk l.prog w (K w.params) mg base CX0 k fa fd [x] (spD (K w.params) fun ds d=>F ds=some (.ok d)))
  (hF:∀ ns:List Int,ns.length≤63→F [.list (ns.map .int)]=some (.ok (.bool true))) :
  PySem.W.WalkO q loose XP YP l.row.toRowW d [] (fun f vs=>PySem.call f vs):=by
 refine Att.attach_call hn hdf fun w s₀ s₁ mg mb fa o pm cd doc a vs ns G Y ho hd hcd' hmg hobj hints hlen hg=>?_
 have KX:=hY w _ Y
 obtain ⟨fd,hb,hFn⟩:=Fn w mg fa _ KX G.T.g hmg
 have hbm:BM mg s₁.heap:=by
  obtain ⟨bm,ob,b1,b2,b3,b4,b5,b6⟩:=G.T.bmain
  refine ⟨bm,ob,b1,b2,fun z=>?_,b3,b4,b5,b6⟩
  obtain ⟨o,es,ep,e,hd,_⟩:=G.T.g
  rw [z,e] at b3;cases b3;rw [hd] at b6;cases b6
 refine a0F (ts:=ts) KX G.T.g G.T.b G.T.builtins G.T.nolimit hg hobj hints (Nat.le_trans hlen (by decide)) hr hbm (fun T q e=>?_) (hts w) hFn hb (hF ns hlen)
 have m:=uX e
 have e1:=hT w _ Y T (List.mem_map_of_mem (f:=(·.1)) m)
 obtain ⟨⟨c,hc⟩,hn'⟩:=hcd w _ m
 exact ⟨e1,((PySem.W.codeHd_of_K KX hc).tab e1).isCodeTable,hn'⟩
noncomputable def lamOk (K:PySem.W.Frag) (ts:List (Addr×Str)) (x:Str):Bool:=match PySem.W.tabIn K x with
 | none=>true
 | some (_,T)=>ts.lookup T==some (lamQ x)
theorem lam_all {K:PySem.W.Frag} {ts:List (Addr×Str)} (h:cN.all (lamOk K ts)=true):∀ x∈cN,∀ c T,PySem.W.tabIn K x=some (c,T)→ts.lookup T=some (lamQ x):=fun x hx c T e=>by
 have:=List.all_eq_true.mp h x hx
 unfold lamOk at this
 rw [e] at this
 exact eq_of_beq this
theorem all_cons {α:Type} {p:α→Prop} {a:α} {l:List α} (h:p a) (t:∀ x∈l,p x):∀ x∈a::l,p x:=List.forall_mem_cons.mpr ⟨h,t⟩
end L2.L3
namespace L2.L3
open PySem
theorem a3S {α:Type} {xs:List α} {p:Int} (h0:0≤p) (h1:p<xs.length) (dflt:α):atI xs p=some (xs.getD p.toNat dflt):=by
 have e:((p.toNat:Nat):Int)=p:=by omega
 have lt:p.toNat<xs.length:=by omega
 have q:=atI_nn (xs:=xs) p.toNat
 rw [e] at q
 rw [q]
 simp [List.getD,List.getElem?_eq_getElem lt]
theorem a2X {α β:Type} (f:α→β) (xs:List α) (i:Nat) (d:α):(xs.map f).getD i (f d)=f (xs.getD i d):=by
 simp only [List.getD,List.getElem?_map]
 cases xs[i]?<;>rfl
theorem tZ {α β:Type} (f:α→β) {xs:List α} {p:Int} (h0:0≤p) (h1:p<xs.length) (dflt:α):atI (xs.map f) p=some (f (xs.getD p.toNat dflt)):=by
 rw [a3S h0 (by rw [List.length_map];exact h1) (f dflt),a2X]
noncomputable def cellOf (ns:List Int) (k:Int):Int:=
 if k<ns.length then ns.getD k.toNat 0 else if ns=[] then 0 else ns.getD (k % (ns.length:Int)).toNat 0*31+k
noncomputable def drawnOf (ns:List Int) (k:Int):Int:=(cellOf ns k+6151*(k+1))*40692 % 2147483399
noncomputable def pickOf (ns:List Int) (k many:Int):Int:=(drawnOf ns k*drawnOf ns k+drawnOf ns k / 31) % 2147483629 % many
theorem fO (ns:List Int) (k:Int) {many:Int} (h:0<many):0≤pickOf ns k many:=Int.emod_nonneg _ (by omega)
theorem fP (ns:List Int) (k:Int) {many:Int} (h:0<many):pickOf ns k many<many:=Int.emod_lt_of_pos _ h
noncomputable def aX:List Str:=["a", "b", "cc", "d", "e", "fx", "g", "h", "i", "jjjj"]
noncomputable def spanOf (ns:List Int) (at':Int):Int:=([12,30,30,200]:List Int).getD (pickOf ns at' 4).toNat 0
theorem sH (ns:List Int) (at':Int):spanOf ns at'=12∨spanOf ns at'=30∨spanOf ns at'=200:=by
 have h0:=fO ns at' (many:=4) (by decide)
 have h1:=fP ns at' (many:=4) (by decide)
 unfold spanOf
 generalize pickOf ns at' 4=p at h0 h1
 have:p=0∨p=1∨p=2∨p=3:=by omega
 rcases this with rfl | rfl | rfl | rfl<;>simp
noncomputable def fK (ns:List Int) (at':Int) (k:Nat):Int:=([3,8,spanOf ns at']:List Int).getD (pickOf ns (at'+12+3*(k:Int)) 3).toNat 0
theorem nY (ns:List Int) (at':Int) (k:Nat):0<fK ns at' k∧fK ns at' k≤200:=by
 have h0:=fO ns (at'+12+3*(k:Int)) (many:=3) (by decide)
 have h1:=fP ns (at'+12+3*(k:Int)) (many:=3) (by decide)
 have hs:=sH ns at'
 unfold fK
 generalize pickOf ns (at'+12+3*(k:Int)) 3=p at h0 h1
 have:p=0∨p=1∨p=2:=by omega
 rcases this with rfl | rfl | rfl<;>simp<;>omega
noncomputable def dU (ns:List Int) (at':Int) (k:Nat):Int:=pickOf ns (at'+10+3*(k:Int)) (spanOf ns at')
noncomputable def fL (ns:List Int) (at':Int) (k:Nat):Int:=1+pickOf ns (at'+11+3*(k:Int)) (fK ns at' k)
noncomputable def mU (ns:List Int) (at':Int) (k:Nat):Mt:=(aX.getD k "", dU ns at' k,dU ns at' k+fL ns at' k)
noncomputable def eZ (ns:List Int) (at' most:Int):Nat:=(pickOf ns (at'+1) (most+1)).toNat
noncomputable def iA (ns:List Int) (at' most:Int):List Mt:=(List.range (eZ ns at' most)).map (mU ns at')
theorem zC {ns:List Int} {at' most:Int} (h:0≤most):((eZ ns at' most:Nat):Int)≤most:=by
 have h0:=fO ns (at'+1) (many:=most+1) (by omega)
 have h1:=fP ns (at'+1) (many:=most+1) (by omega)
 unfold eZ
 omega
theorem qG (ns:List Int) (at' most:Int):(iA ns at' most).length=eZ ns at' most:=by simp [iA]
theorem a3R (ns:List Int) (at':Int) (k:Nat):0≤dU ns at' k∧dU ns at' k<200:=by
 have hs:=sH ns at'
 have h0:=fO ns (at'+10+3*(k:Int)) (many:=spanOf ns at') (by omega)
 have h1:=fP ns (at'+10+3*(k:Int)) (many:=spanOf ns at') (by omega)
 unfold dU
 omega
theorem a4i (ns:List Int) (at':Int) (k:Nat):1≤fL ns at' k∧fL ns at' k≤200:=by
 have hs:=nY ns at' k
 have h0:=fO ns (at'+11+3*(k:Int)) (many:=fK ns at' k) hs.1
 have h1:=fP ns (at'+11+3*(k:Int)) (many:=fK ns at' k) hs.1
 unfold fL
 omega
theorem pR:aX.Nodup:=by decide +kernel
theorem xA:∀ x∈aX,PyData.strOk x=true:=by decide +kernel
structure SheetOk (s:List Mt):Prop where
 few:s.length≤10
 names:s.map (·.1)=aX.take s.length
 times:∀ m∈s,0≤m.2.1∧m.2.1<m.2.2∧m.2.2<400
theorem a1E (ns:List Int) (at':Int) {most:Int} (h0:0≤most) (h1:most≤10):SheetOk (iA ns at' most):=by
 have hm:=zC (ns:=ns) (at':=at') h0
 refine ⟨by rw [qG];omega,?_,fun m hm'=>?_⟩
 ·rw [qG]
  have hl:eZ ns at' most≤aX.length:=by show _≤10;omega
  unfold iA
  rw [List.map_map]
  apply List.ext_getElem?
  intro i
  rw [List.getElem?_map]
  by_cases hi:i<eZ ns at' most
  ·rw [List.getElem?_range hi,List.getElem?_take_of_lt hi]
   have hi':i<aX.length:=by omega
   simp [mU,List.getD,List.getElem?_eq_getElem hi']
  ·rw [List.getElem?_eq_none (by simpa using hi),List.getElem?_eq_none (by simp;omega)]
   rfl
 ·unfold iA at hm'
  obtain ⟨k,_,rfl⟩:=List.mem_map.mp hm'
  have hb:=a3R ns at' k
  have hs:=a4i ns at' k
  simp only [mU]
  omega
theorem SheetOk.name_ok {s:List Mt} (S:SheetOk s):∀ m∈s,PyData.strOk m.1=true:=fun m hm=>by
 have:m.1∈s.map (·.1):=List.mem_map.mpr ⟨m,hm,rfl⟩
 rw [S.names] at this
 exact xA _ (List.mem_of_mem_take this)
theorem SheetOk.nodup {s:List Mt} (S:SheetOk s):(s.map (·.1)).Nodup:=by
 rw [S.names]
 exact pR.sublist (List.take_sublist _ _)
noncomputable abbrev dN (ns:List Int):PyData:=.list (ns.map .int)
theorem yL {ds:List PyData} {n:Nat} (h1:∀ d∈ds,PyData.canLay0 d=true) (h2:∀ d∈ds,PyData.depth d≤n) (h3:n<64):SeqAt.shaped (.list ds)=true:=by
 refine qH (n:=n+1) ?_ ?_ h3
 ·rw [PyData.canLay0];exact iK h1
 ·rw [PyData.depth];have:=fV h2;omega
theorem uK {ds:List PyData} {n:Nat} (h1:∀ d∈ds,PyData.canLay0 d=true) (h2:∀ d∈ds,PyData.depth d≤n) (h3:n<64):SeqAt.shaped (.tuple ds)=true:=by
 refine qH (n:=n+1) ?_ ?_ h3
 ·rw [PyData.canLay0];exact iK h1
 ·rw [PyData.depth];have:=fV h2;omega
theorem a4k (ns:List Int):SeqAt.shaped (.list (ns.map .int))=true:=yL (n:=1) (fun d hd=>by obtain ⟨i,_,rfl⟩:=List.mem_map.mp hd;simp [PyData.canLay0]) (fun d hd=>by obtain ⟨i,_,rfl⟩:=List.mem_map.mp hd;simp [PyData.depth]) (by decide)
theorem a3h {a b:List PyData} (h1:SeqAt.shaped (.list a)=true) (h2:SeqAt.shaped (.list b)=true):eqD (.list a) (.list b)=some (PyData.eqvAll a b):=by
 show (if (SeqAt.shaped (.list a)&&SeqAt.shaped (.list b))=true then some (PyData.eqv (.list a) (.list b)) else none)=_
 rw [h1,h2,if_pos (by rfl),vL]
theorem a2l {a b:List PyData} (h1:SeqAt.shaped (.list a)=true) (h2:SeqAt.shaped (.list b)=true):neD (.list a) (.list b)=some (!PyData.eqvAll a b):=by
 show (if (SeqAt.shaped (.list a)&&SeqAt.shaped (.list b))=true then some (!PyData.eqv (.list a) (.list b)) else none)=_
 rw [h1,h2,if_pos (by rfl),vL]
theorem a0P {a b:List PyData} (h1:SeqAt.shaped (.tuple a)=true) (h2:SeqAt.shaped (.tuple b)=true):eqD (.tuple a) (.tuple b)=some (PyData.eqvAll a b):=by
 show (if (SeqAt.shaped (.tuple a)&&SeqAt.shaped (.tuple b))=true then some (PyData.eqv (.tuple a) (.tuple b)) else none)=_
 rw [h1,h2,if_pos (by rfl),a0O]
theorem nZ:SeqAt.shaped (.list [])=true:=by decide +kernel
theorem tM (ds:List PyData):PyData.eqvAll ds []=ds.isEmpty:=by cases ds<;>simp [PyData.eqvAll]
theorem tN {ds:List PyData} (h:SeqAt.shaped (.list ds)=true):eqD (.list ds) (.list [])=some ds.isEmpty:=by rw [a3h h nZ,tM]
theorem ne_nil {ds:List PyData} (h:SeqAt.shaped (.list ds)=true):neD (.list ds) (.list [])=some (!ds.isEmpty):=by rw [a2l h nZ,tM]
noncomputable abbrev a0k:TF:=eQ ltD (var 1) (fF oQ (aC (var 0) aJ))
noncomputable abbrev a0h:TF:=eQ eqD (var 0) (jB aJ)
noncomputable def pC:SF:=(bL (ifS a0k (retS (op2 ixD (var 0) (var 1))) iQ) (bL (ifS a0h (retS (cst (.int 0))) iQ) (retS (op2 bX (op2 gE (op2 ixD (var 0) (op2 xB (var 1) (fF oQ (aC (var 0) aJ)))) (cst (.int 31))) (var 1)))))
noncomputable def lF:List PyData→Mm PyData:=dZ 2 2 pC
noncomputable def pA:SF:=(bL (iB 3 (op2 xB (op2 gE (op2 bX (aZ lF (aC (var 0) (aC (var 1) aJ))) (op2 gE (cst (.int 6151)) (op2 bX (var 1) (cst (.int 1))))) (cst (.int 40692))) (cst (.int 2147483399)))) (retS (op2 xB (op2 xB (op2 bX (op2 gE (var 3) (var 3)) (op2 a5s (var 3) (cst (.int 31)))) (cst (.int 2147483629))) (var 2))))
noncomputable def bS:List PyData→Mm PyData:=dZ 4 3 pA
noncomputable abbrev yD:SF:=bL (iB 7 (aZ bS (aC (var 0) (aC (op2 bX (op2 bX (var 1) (cst (.int 10))) (op2 gE (cst (.int 3)) (var 6))) (aC (var 3) aJ))))) (bL (iB 8 (op2 bX (cst (.int 1)) (aZ bS (aC (var 0) (aC (op2 bX (op2 bX (var 1) (cst (.int 11))) (op2 gE (cst (.int 3)) (var 6))) (aC (op2 ixD (jB (aC (cst (.int 3)) (aC (cst (.int 8)) (aC (var 3) aJ)))) (aZ bS (aC (var 0) (aC (op2 bX (op2 bX (var 1) (cst (.int 12))) (op2 gE (cst (.int 3)) (var 6))) (aC (cst (.int 3)) aJ))))) aJ)))))) (uC 5 (iS (aC (op2 ixD (var 4) (var 6)) (aC (var 7) (aC (op2 bX (var 7) (var 8)) aJ))))))
noncomputable def lY:SF:=(bL (iB 3 (op2 ixD (jB (aC (cst (.int 12)) (aC (cst (.int 30)) (aC (cst (.int 30)) (aC (cst (.int 200)) aJ))))) (aZ bS (aC (var 0) (aC (var 1) (aC (cst (.int 4)) aJ)))))) (bL (iB 4 (jB (aC (cst (.str "a")) (aC (cst (.str "b")) (aC (cst (.str "cc")) (aC (cst (.str "d")) (aC (cst (.str "e")) (aC (cst (.str "fx")) (aC (cst (.str "g")) (aC (cst (.str "h")) (aC (cst (.str "i")) (aC (cst (.str "jjjj")) aJ)))))))))))) (bL (wZ 5 aJ) (bL (a3b (.nm 6) (sL (aZ bS (aC (var 0) (aC (op2 bX (var 1) (cst (.int 1))) (aC (op2 bX (var 2) (cst (.int 1))) aJ))))) yD) (pU 5 (retS (fF a0f (aC (var 5) aJ))))))))
noncomputable def gZ:List PyData→Mm PyData:=dZ 9 3 lY
theorem cI {m n:Nat} {f:SF} {ds:List PyData} {d:PyData} (hl:ds.length=n) (h:f (lH m ds)=some (.rt d)):dZ m n f ds=some (.ok d):=by
 unfold dZ;rw [if_pos hl,h]
theorem tG {ns:List Int} {p:Int} (h0:0≤p) (h1:p<ns.length):ixD (.list (ns.map .int)) (.int p)=some (.int (ns.getD p.toNat 0)):=by
 show atI (ns.map PyData.int) p=_
 rw [tZ PyData.int h0 h1 0]
theorem e_cell (ns:List Int) (k:Int) (h0:0≤k):lF [dN ns,.int k]=some (.ok (.int (cellOf ns k))):=by
 refine cI rfl ?_
 show pC [.val (dN ns),.val (.int k)]=_
 unfold pC cellOf
 by_cases h1:k<ns.length
 ·rw [mY (d:=.int (ns.getD k.toNat 0)),if_pos h1]
  simp [h1]
  rw [tZ PyData.int h0 h1 0]
  simp
 ·rw [aL (ρ':=[.val (dN ns),.val (.int k)]) (by simp [h1]),if_neg h1]
  by_cases h2:ns=[]
  ·subst h2
   rw [mY (d:=.int 0),if_pos rfl]
   have h:eqD (dN []) (.list [])=some true:=tN nZ
   simp [h]
  ·have he:(ns.map PyData.int).isEmpty=false:=by cases ns with
    | nil=>exact absurd rfl h2
    | cons a r=>rfl
   have h:eqD (dN ns) (.list [])=some false:=by rw [tN (a4k ns),he]
   rw [aL (ρ':=[.val (dN ns),.val (.int k)]) (by simp [h]),if_neg h2]
   have lp:(0:Int)<(ns.length:Nat):=by cases ns with
    | nil=>exact absurd rfl h2
    | cons a r=>simp<;>omega
   have a1:=Int.emod_nonneg k (b:=(ns.length:Int)) (by omega)
   have a2:=Int.emod_lt_of_pos k lp
   have lp':0<ns.length:=by omega
   have ix:ixD (dN ns) (.int (k % (ns.length:Int)))=some (.int (ns.getD (k % (ns.length:Int)).toNat 0)):=tG a1 a2
   have ml:gE (.int (ns.getD (k % (ns.length:Int)).toNat 0)) (.int 31)=some (.int (ns.getD (k % (ns.length:Int)).toNat 0*31)):=sU (by decide) (by decide)
   simp only [gC,dE,a5X,a5Y,dO,a3O,bC,a3V,len_l,a2z,mod_ii,List.length_map,if_pos lp,ix,cst_e,ml,a3T,wC]
theorem a3s (ns:List Int) (k:Int):0≤drawnOf ns k∧drawnOf ns k<2147483399:=⟨Int.emod_nonneg _ (by decide),Int.emod_lt_of_pos _ (by decide)⟩
theorem lZ (ns:List Int) (k many:Int) (h0:0≤k) (hm:0<many):bS [dN ns,.int k,.int many]=some (.ok (.int (pickOf ns k many))):=by
 refine cI rfl ?_
 show pA [.val (dN ns),.val (.int k),.val (.int many),.no]=_
 have db:=a3s ns k
 unfold pA
 rw [aL (ρ':=[.val (dN ns),.val (.int k),.val (.int many),.val (.int (drawnOf ns k))])]
 ·have hsq:gE (.int (drawnOf ns k)) (.int (drawnOf ns k))=some (.int (drawnOf ns k*drawnOf ns k)):=sU (by omega) (by omega)
  simp [hsq,hm,pickOf]
 ·have h2:gE (.int 6151) (.int (k+1))=some (.int (6151*(k+1))):=yY (by decide) (by decide)
  have h3:gE (.int (cellOf ns k+6151*(k+1))) (.int 40692)=some (.int ((cellOf ns k+6151*(k+1))*40692)):=sU (by decide) (by decide)
  simp [e_cell ns k h0,h2,h3,drawnOf]
theorem wT (n:Nat):jY 0 n=(List.range n).map fun (k:Nat)=>PyData.int (k:Int):=by simp [jY]
theorem a5v (ns:List Int) (at' most:Int) (h0:0≤at') (hm:0≤most) (hm2:most≤10):gZ [dN ns,.int at',.int most]=some (.ok (dS (iA ns at' most))):=by
 refine cI rfl ?_
 show lY [.val (dN ns),.val (.int at'),.val (.int most),.no,.no,.no,.no,.no,.no]=_
 have sp:=sH ns at'
 have ml:=zC (ns:=ns) (at':=at') hm
 have p0:=fO ns (at'+1) (many:=most+1) (by omega)
 have p1:=fP ns (at'+1) (many:=most+1) (by omega)
 unfold lY
 rw [aL (ρ':=[.val (dN ns),.val (.int at'),.val (.int most),.val (.int (spanOf ns at')),.no,.no,.no,.no,.no])]
 rotate_left
 ·have h:=tG (ns:=[12,30,30,200]) (fO ns at' (many:=4) (by decide)) (fP ns at' (by decide))
  have h':atI [PyData.int 12,.int 30,.int 30,.int 200] (pickOf ns at' 4)=some (.int (spanOf ns at')):=h
  simp [lZ ns at' 4 h0 (by decide),h']
 rw [aL (ρ':=[.val (dN ns),.val (.int at'),.val (.int most),.val (.int (spanOf ns at')),.val (.list (aX.map .str)),.no,.no,.no,.no])]
 rotate_left
 ·simp [aX]
 rw [aL (ρ':=[.val (dN ns),.val (.int at'),.val (.int most),.val (.int (spanOf ns at')),.val (.list (aX.map .str)),.lst [],.no,.no,.no])]
 rotate_left
 ·simp
 -- the turns
 have hr:sL (aZ bS (aC (var 0) (aC (op2 bX (var 1) (cst (.int 1))) (aC (op2 bX (var 2) (cst (.int 1))) aJ)))) [.val (dN ns),.val (.int at'),.val (.int most),.val (.int (spanOf ns at')),.val (.list (aX.map .str)),.lst [],.no,.no,.no]=some (.ok ((List.range (eZ ns at' most)).map fun (k:Nat)=>PyData.int (k:Int))):=by
  rw [yO (n:=pickOf ns (at'+1) (most+1)) (by simp [lZ ns (at'+1) (most+1) (by omega) (by omega)]) (by omega) (by omega),wT]
  rfl
 have turns:=qU (t:=.nm 6) (fun (k:Nat)=>PyData.int (k:Int)) (fun m ρ=>m≤10→∃ x y z,ρ=[.val (dN ns),.val (.int at'),.val (.int most),.val (.int (spanOf ns at')),.val (.list (aX.map .str)),.lst ((List.range m).map fun k=>dM (mU ns at' k)),x,y,z])
  (fb:=(bL (iB 7 (aZ bS (aC (var 0) (aC (op2 bX (op2 bX (var 1) (cst (.int 10))) (op2 gE (cst (.int 3)) (var 6))) (aC (var 3) aJ))))) (bL (iB 8 (op2 bX (cst (.int 1)) (aZ bS (aC (var 0) (aC (op2 bX (op2 bX (var 1) (cst (.int 11))) (op2 gE (cst (.int 3)) (var 6))) (aC (op2 ixD (jB (aC (cst (.int 3)) (aC (cst (.int 8)) (aC (var 3) aJ)))) (aZ bS (aC (var 0) (aC (op2 bX (op2 bX (var 1) (cst (.int 12))) (op2 gE (cst (.int 3)) (var 6))) (aC (cst (.int 3)) aJ))))) aJ)))))) (uC 5 (iS (aC (op2 ixD (var 4) (var 6)) (aC (var 7) (aC (op2 bX (var 7) (var 8)) aJ))))))))
  (List.range (eZ ns at' most)) 0 [.val (dN ns),.val (.int at'),.val (.int most),.val (.int (spanOf ns at')),.val (.list (aX.map .str)),.lst [],.no,.no,.no] (fun _=>⟨.no,.no,.no,rfl⟩) (by
  intro m k ρ hk hp
  have hk':m<eZ ns at' most∧k=m:=by
   obtain ⟨h1,h2⟩:=List.getElem?_eq_some_iff.mp hk
   rw [List.length_range] at h1
   rw [List.getElem_range] at h2
   exact ⟨h1,h2.symm⟩
  obtain ⟨hk1,rfl⟩:=hk'
  obtain ⟨x,y,z,rfl⟩:=hp (by omega)
  rw [Nat.zero_add]
  have st:=nY ns at' k
  have e1:=lZ ns (at'+10+3*(k:Int)) (spanOf ns at') (by omega) (by omega)
  have e2:=lZ ns (at'+12+3*(k:Int)) 3 (by omega) (by decide)
  have e3:=lZ ns (at'+11+3*(k:Int)) (fK ns at' k) (by omega) st.1
  have h:=tG (ns:=[3,8,spanOf ns at']) (fO ns (at'+12+3*(k:Int)) (many:=3) (by decide)) (show pickOf ns _ 3<(3:Int) from fP ns _ (by decide))
  have h':atI [PyData.int 3,.int 8,.int (spanOf ns at')] (pickOf ns (at'+12+3*(k:Int)) 3)=some (.int (fK ns at' k)):=h
  have m3:gE (.int 3) (.int (k:Int))=some (.int (3*(k:Int))):=yY (by decide) (by decide)
  have nm:atI (aX.map PyData.str) (k:Int)=some (.str (aX.getD k "")):=by
   have:=tZ PyData.str (xs:=aX) (p:=(k:Int)) (by omega) (by show _<(10:Int);omega) ""
   simpa using this
  have nm':ixD (.list (aX.map PyData.str)) (.int (k:Int))=some (.str (aX.getD k "")):=nm
  refine ⟨_,[.val (dN ns),.val (.int at'),.val (.int most),.val (.int (spanOf ns at')),.val (.list (aX.map .str)),.lst ((List.range k).map (fun k=>dM (mU ns at' k))++[dM (mU ns at' k)]),.val (.int k),.val (.int (dU ns at' k)),.val (.int (fL ns at' k))],rfl,.inl ?_,fun _=>⟨.val (.int k),.val (.int (dU ns at' k)),.val (.int (fL ns at' k)),by rw [List.range_succ,List.map_append];rfl⟩⟩
  simp only [List.set]
  rw [aL (ρ':=[.val (dN ns),.val (.int at'),.val (.int most),.val (.int (spanOf ns at')),.val (.list (aX.map .str)),.lst ((List.range k).map fun k=>dM (mU ns at' k)),.val (.int k),.val (.int (dU ns at' k)),z]) (by simp [m3,e1,dU])]
  rw [aL (ρ':=[.val (dN ns),.val (.int at'),.val (.int most),.val (.int (spanOf ns at')),.val (.list (aX.map .str)),.lst ((List.range k).map fun k=>dM (mU ns at' k)),.val (.int k),.val (.int (dU ns at' k)),.val (.int (fL ns at' k))]) (by simp [m3,e2,h',e3,fL])]
  refine uB (ds:=(List.range k).map fun k=>dM (mU ns at' k)) rfl (d:=dM (mU ns at' k)) ?_ (by simp;omega)
  simp only [tupE_e,bC,dE,a5X,a5Y,dO,nm',a2z,a3T,a3V,a4Z]
  rfl)
 obtain ⟨ρ',e,hp⟩:=turns
 rw [List.length_range,Nat.zero_add] at hp
 obtain ⟨x',y',z',rfl⟩:=hp (by omega)
 rw [aL (ρ':=[.val (dN ns),.val (.int at'),.val (.int most),.val (.int (spanOf ns at')),.val (.list (aX.map .str)),.lst ((List.range (eZ ns at' most)).map fun k=>dM (mU ns at' k)),x',y',z'])]
 rotate_left
 ·rw [xN,a3N hr]
  exact e
 show retS (fF a0f (aC (var 5) aJ)) [.val (dN ns),.val (.int at'),.val (.int most),.val (.int (spanOf ns at')),.val (.list (aX.map .str)),.val (.list ((List.range (eZ ns at' most)).map fun k=>dM (mU ns at' k))),x',y',z']=_
 simp [iA,List.map_map,Function.comp_def]
end L2.L3
namespace L2.L3
open PySem
noncomputable abbrev mM:EF:=dL (.nm 0) [none] (iW (var 0)) ttT (op2 ixD (var 0) (cst (.int 0)))
noncomputable def fE:SF:=(retS mM)
noncomputable def bM:List PyData→Mm PyData:=dZ 1 1 fE
@[simp] theorem isE_e (neg:Bool) (k:PyData) (fa:EF) (ρ:List Ent):isE neg k fa ρ=bnd (fa ρ) fun x=>lft ((isB k x).map fun t=>.bool (neg != t)):=rfl
@[simp] theorem isT_e (neg:Bool) (k:PyData) (fa:EF) (ρ:List Ent):isT neg k fa ρ=bnd (fa ρ) fun x=>lft ((isB k x).map fun t=>neg != t):=rfl
@[simp] theorem isB_tt:isB (.bool true) (.bool true)=some true:=rfl
@[simp] theorem isB_ff:isB (.bool false) (.bool false)=some true:=rfl
@[simp] theorem isD_tt (ds:List PyData):isD "tuple" (.tuple ds)=some (.bool true):=rfl
@[simp] theorem isD_ii (i:Int):isD "int" (.int i)=some (.bool true):=rfl
@[simp] theorem isD_bi (i:Int):isD "bool" (.int i)=some (.bool false):=rfl
@[simp] theorem isD_ss (i:Str):isD "str" (.str i)=some (.bool true):=rfl
@[simp] theorem chn3E_e (g1 g2 g3:PyData→PyData→Option Bool) (fa fb fc fd:EF) (ρ:List Ent):chn3E g1 g2 g3 fa fb fc fd ρ=bnd (fa ρ) fun x=>bnd (fb ρ) fun y=>bnd (lft (g1 x y)) fun t=>if t then bnd (fc ρ) fun z=>bnd (lft (g2 y z)) fun u=>if u then bnd (fd ρ) fun w=>lft ((g3 z w).map .bool) else some (.ok (.bool false)) else some (.ok (.bool false)):=rfl
theorem a5w (s:List Mt) (hz:s.length≤100000):bM [dS s]=some (.ok (.list ((s.map (·.1)).map .str))):=by
 refine cI rfl ?_
 show fE [.val (dS s)]=_
 have k1:mM [.val (dS s)]=some (.ok (.list (s.map fun m=>.str m.1))):=dQ dM (fun m=>[.val (dM m)]) (fun m=>.str m.1) s (by simp) hz (fun m _=>by simp [bK]) (fun m _=>by simp)
 unfold fE
 rw [gC,k1,List.map_map]
 rfl
end L2.L3
namespace L2.L3
open PySem
@[simp] theorem at_4 (a b c d e:α) (r:List α):atI (a::b::c::d::e::r) 4=some e:=by
 unfold atI ixN
 rw [if_pos (by decide),if_pos (by simp<;>omega)];rfl
@[simp] theorem at_5 (a b c d e f:α) (r:List α):atI (a::b::c::d::e::f::r) 5=some f:=by
 unfold atI ixN
 rw [if_pos (by decide),if_pos (by simp<;>omega)];rfl
theorem bZ {F:List PyData→Mm PyData} {aa:AF} {ρ:List Ent} {ds:List PyData} {d:PyData} (ha:aa ρ=some (.ok ds)) (h:F ds=some (.ok d)):aZ F aa ρ=some (.ok d):=by
 rw [a5M,ha,dO,h]
theorem or_ff {ft fu:TF} {ρ:List Ent} (h1:ft ρ=some (.ok false)) (h2:fu ρ=some (.ok false)):orT ft fu ρ=some (.ok false):=by
 rw [orT_e,h1,dO,if_neg (by decide),h2]
theorem qO {fa fb:EF} {ρ:List Ent} {x y:PyData} {r:Bool} (ha:fa ρ=some (.ok x)) (hb:fb ρ=some (.ok y)) (h:neD x y=some r):eQ neD fa fb ρ=some (.ok r):=by
 rw [xX,ha,dO,hb,dO,h];rfl
theorem mF {g:List PyData→Option PyData} {aa:AF} {ρ:List Ent} {ds:List PyData} {d:PyData} (ha:aa ρ=some (.ok ds)) (h:g ds=some d):fF g aa ρ=some (.ok d):=by
 rw [a3O,ha,dO,h];rfl
theorem a1t {f:TF} {ρ:List Ent} {b:Bool} (h:f (frzAll ρ)=some (.ok b)):thT f ρ=some (.ok b):=by unfold thT;rw [h]
theorem mZ {fa:EF} {ρ:List Ent} {d:PyData} {ds:List PyData} (ha:fa ρ=some (.ok d)) (hd:uL d=some ds):iW fa ρ=some (.ok ds):=by
 rw [seqI_e,ha,dO,hd];rfl
end L2.L3
namespace L2.L3
open PySem
noncomputable def prs {α:Type}:List α→List (α×α)
 | a::b::r=>(a,b)::prs (b::r)
 | _=>[]
end L2.L3
namespace L2.L3
open PySem
end L2.L3
namespace L2.L3
open PySem
noncomputable def goesOn (m:Int) (x:Mt):Bool:=decide (x.2.1≤m)&&decide (m<x.2.2)
noncomputable def a4V (s:List Mt) (m:Int):List Str:=(s.filter (goesOn m)).map (·.1)
noncomputable def loadAt (s:List Mt) (m:Int):Int:=((a4V s m).length:Nat)
section
variable {s:List Mt} {lo hi:Int} {r:List Int}
end
end L2.L3
namespace L2.L3
open PySem
noncomputable def gr:List Mt→Option Int→List Mt
 | [],_=>[]
 | m::r,none=>m::gr r (some m.2.2)
 | m::r,some e=>if e≤m.2.1 then m::gr r (some m.2.2) else gr r (some e)
noncomputable def bef (a b:Mt):Prop:=a.2.2≤b.2.1
noncomputable def iM (a b:Mt):Prop:=bef a b∨bef b a
noncomputable def onT (m:Mt) (p:Int):Prop:=m.2.1≤p∧p<m.2.2
theorem oY:∀ (l:List Mt) (o:Option Int),(gr l o).Sublist l
 | [],_=>.slnil
 | m::r,none=>(oY r _).cons₂ m
 | m::r,some e=>by
  unfold gr
  split
  ·exact (oY r _).cons₂ m
  ·exact (oY r _).cons m
theorem zJ:∀ (l:List Mt) (e:Int),(∀ m∈l,m.2.1<m.2.2)→∀ m∈gr l (some e),e≤m.2.1
 | [],_,_,m,h=>by cases h
 | x::r,e,hp,m,h=>by
  unfold gr at h
  split at h
  ·rename_i hc
   rcases List.mem_cons.mp h with rfl | h
   ·exact hc
   ·have:=zJ r x.2.2 (fun m hm=>hp m (List.mem_cons_of_mem _ hm)) m h
    have:=hp x (by simp)
    omega
  ·exact zJ r e (fun m hm=>hp m (List.mem_cons_of_mem _ hm)) m h
theorem kO:∀ (l:List Mt) (o:Option Int),(∀ m∈l,m.2.1<m.2.2)→(gr l o).Pairwise bef
 | [],_,_=>.nil
 | x::r,none,hp=>.cons (fun m hm=>zJ r _ (fun m hm=>hp m (List.mem_cons_of_mem _ hm)) m hm) (kO r _ fun m hm=>hp m (List.mem_cons_of_mem _ hm))
 | x::r,some e,hp=>by
  unfold gr
  split
  ·exact .cons (fun m hm=>zJ r _ (fun m hm=>hp m (List.mem_cons_of_mem _ hm)) m hm) (kO r _ fun m hm=>hp m (List.mem_cons_of_mem _ hm))
  ·exact kO r _ fun m hm=>hp m (List.mem_cons_of_mem _ hm)
theorem xM:∀ (l:List Mt) (e:Int),(∀ m∈l,m.2.1<m.2.2)→l.Pairwise (fun a b=>a.2.2≤b.2.2)→(∀ m∈l,e≤m.2.2)→∀ m∈l,onT m (e - 1)∨∃ c∈gr l (some e),onT m (c.2.2 - 1)
 | [],_,_,_,_,m,h=>by cases h
 | x::r,e,hp,hs,he,m,h=>by
  have hp':∀ m∈r,m.2.1<m.2.2:=fun m hm=>hp m (List.mem_cons_of_mem _ hm)
  cases hs with | cons h1 h2=>
  have hx:=hp x (by simp)
  unfold gr
  split
  ·rename_i hc
   rcases List.mem_cons.mp h with rfl | h
   ·exact .inr ⟨m,by simp,by unfold onT;omega⟩
   ·rcases xM r x.2.2 hp' h2 (fun m hm=>h1 m hm) m h with z | ⟨c,hc,z⟩
    ·exact .inr ⟨x,by simp,z⟩
    ·exact .inr ⟨c,List.mem_cons_of_mem _ hc,z⟩
  ·rename_i hc
   rcases List.mem_cons.mp h with rfl | h
   ·have:=he m (by simp)
    exact .inl (by unfold onT;omega)
   ·exact xM r e hp' h2 (fun m hm=>he m (List.mem_cons_of_mem _ hm)) m h
theorem a5o {l:List Mt} (hp:∀ m∈l,m.2.1<m.2.2) (hs:l.Pairwise (fun a b=>a.2.2≤b.2.2)):∀ m∈l,∃ c∈gr l none,onT m (c.2.2 - 1):=by
 cases l with
 | nil=>intro m h;cases h
 | cons x r=>
  intro m h
  cases hs with | cons h1 h2=>
  have hx:=hp x (by simp)
  show ∃ c∈x::gr r (some x.2.2),_
  rcases List.mem_cons.mp h with rfl | h
  ·exact ⟨m,by simp,by unfold onT;omega⟩
  ·rcases xM r x.2.2 (fun m hm=>hp m (List.mem_cons_of_mem _ hm)) h2 (fun m hm=>h1 m hm) m h with z | ⟨c,hc,z⟩
   ·exact ⟨x,by simp,z⟩
   ·exact ⟨c,List.mem_cons_of_mem _ hc,z⟩
theorem rW:∀ (ps:List Int) (F:List Mt),F.Pairwise iM→(∀ m∈F,∃ p∈ps,onT m p)→F.length≤ps.length
 | [],F,_,h=>by
  cases F with
  | nil=>simp
  | cons m r=>obtain ⟨p,hp,_⟩:=h m (by simp);cases hp
 | p::ps,F,ha,h=>by
  have:∀ F:List Mt,F.Pairwise iM→F.length≤(F.filter fun m=>!(decide (m.2.1≤p)&&decide (p<m.2.2))).length+1:=by
   intro F
   induction F with
   | nil=>intro _;simp
   | cons m r ih=>
    intro ha
    cases ha with | cons h1 h2=>
    by_cases c:m.2.1≤p∧p<m.2.2
    ·have all:r.filter (fun m=>!(decide (m.2.1≤p)&&decide (p<m.2.2)))=r:=List.filter_eq_self.mpr fun n hn=>by
      have:=h1 n hn
      unfold iM bef at this
      have:¬(n.2.1≤p∧p<n.2.2):=by omega
      simp only [Bool.not_eq_true',Bool.and_eq_false_iff,decide_eq_false_iff_not]
      omega
     rw [List.filter_cons,all]
     simp only [List.length_cons]
     split<;>simp<;>omega
    ·have e:(!(decide (m.2.1≤p)&&decide (p<m.2.2)))=true:=by
      simp only [Bool.not_eq_true',Bool.and_eq_false_iff,decide_eq_false_iff_not]
      omega
     rw [List.filter_cons,if_pos e]
     simp only [List.length_cons]
     have:=ih h2
     omega
  have h1:=this F ha
  have h2:=rW ps (F.filter fun m=>!(decide (m.2.1≤p)&&decide (p<m.2.2))) (ha.filter _) (fun m hm=>by
   obtain ⟨hm,hc⟩:=List.mem_filter.mp hm
   obtain ⟨q,hq,hon⟩:=h m hm
   rcases List.mem_cons.mp hq with rfl | hq
   ·unfold onT at hon
    simp [hon.1,hon.2] at hc
   ·exact ⟨q,hq,hon⟩)
  simp only [List.length_cons]
  omega
theorem a5n {l F:List Mt} (hp:∀ m∈l,m.2.1<m.2.2) (hs:l.Pairwise (fun a b=>a.2.2≤b.2.2)) (ha:F.Pairwise iM) (hF:∀ m∈F,m∈l):F.length≤(gr l none).length:=by
 have:=rW ((gr l none).map fun c=>c.2.2 - 1) F ha (fun m hm=>by
  obtain ⟨c,hc,z⟩:=a5o hp hs m (hF m hm)
  exact ⟨_,List.mem_map_of_mem hc,z⟩)
 simpa using this
theorem yZ {l l':List Mt} (hp:∀ m∈l,m.2.1<m.2.2) (hs:l'.Pairwise (fun a b=>a.2.2≤b.2.2)) (h:l'.Perm l):∃ F:List Mt,F.Pairwise iM∧(∀ m∈F,m∈l)∧F.length=(gr l' none).length∧∀ F:List Mt,F.Pairwise iM→(∀ m∈F,m∈l)→F.length≤(gr l' none).length:=by
 have hp':∀ m∈l',m.2.1<m.2.2:=fun m hm=>hp m (h.mem_iff.mp hm)
 exact ⟨gr l' none,(kO l' none hp').imp fun h=>.inl h,fun m hm=>h.mem_iff.mp ((oY l' none).subset hm),rfl,fun F a b=>a5n hp' hs a fun m hm=>h.mem_iff.mpr (b m hm)⟩
end L2.L3
namespace L2.L3
open PySem PySem.Spec PyProof.Rows
noncomputable def xL (kf:Mt→PyData) (x:Mt):List Mt→List Mt
 | []=>[x]
 | y::l=>if ltT (kf y) (kf x) then y::xL kf x l else x::y::l
noncomputable def wP (kf:Mt→PyData) (s:List Mt):List Mt:=s.foldr (xL kf) []
section
variable {kf:Mt→PyData}
theorem vG (x:Mt):∀ l:List Mt,(xL kf x l).map kf=pS (kf x) (l.map kf)
 | []=>rfl
 | y::l=>by
  show List.map kf (if ltT (kf y) (kf x) then y::xL kf x l else x::y::l)=(if ltT (kf y) (kf x) then kf y::pS (kf x) (l.map kf) else kf x::kf y::l.map kf)
  split
  ·rw [List.map_cons,vG x l]
  ·rfl
theorem nV:∀ s:List Mt,(wP kf s).map kf=nU (s.map kf)
 | []=>rfl
 | x::s=>by
  show (xL kf x (wP kf s)).map kf=pS (kf x) (nU (s.map kf))
  rw [vG,nV s]
theorem rF (x:Mt):∀ l:List Mt,(xL kf x l).Perm (x::l)
 | []=>.refl _
 | y::l=>by
  unfold xL
  split
  ·exact ((rF x l).cons y).trans (.swap x y l)
  ·exact .refl _
theorem lK:∀ s:List Mt,(wP kf s).Perm s
 | []=>.refl _
 | x::s=>(rF x _).trans ((lK s).cons x)
theorem ix_at {g:List Bool} {s:List Mt} (hs:∀ m,bP g (kf m)=true) (nd:(s.map kf).Nodup) {i:Nat} (hi:i<s.length):ixK ((s.map kf).getD i .none) (s.map kf)=i:=by
 have hl:i<(s.map kf).length:=by simpa using hi
 have e:(s.map kf).getD i .none=(s.map kf)[i]:=by rw [List.getD_eq_getElem?_getD,List.getElem?_eq_getElem hl];rfl
 have sg:∀ j (hj:j<(s.map kf).length),bP g ((s.map kf)[j])=true:=fun j hj=>by rw [List.getElem_map];exact hs _
 rw [e]
 unfold ixK
 rw [List.findIdx_eq hl]
 refine ⟨by rw [sY (sg i hl)];rfl,fun j hj=>?_⟩
 have hj':j<(s.map kf).length:=by omega
 rcases nD (sg i hl) (sg j hj') with z | z | z
 ·rw [z];rfl
 ·exact absurd z.symm (List.pairwise_iff_getElem.mp nd j i hj' hl hj)
 ·rw [z];simp
theorem a4f {g:List Bool} {s:List Mt} (hs:∀ m,bP g (kf m)=true) (nd:(s.map kf).Nodup):a0n (s.map dM) (s.map kf)=some ((wP kf s).map dM):=by
 unfold a0n
 rw [if_pos]
 ·rw [←nV,List.map_map]
  refine congrArg some (List.map_congr_left fun m hm=>?_)
  have hm:=(lK s).mem_iff.mp hm
  obtain ⟨i,hi,rfl⟩:=List.mem_iff_getElem.mp hm
  have e:(s.map kf).getD i .none=kf s[i]:=by rw [List.getD_eq_getElem?_getD,List.getElem?_eq_getElem (by simpa using hi),List.getElem_map];rfl
  show (s.map dM).getD (ixK (kf s[i]) (s.map kf)) .none=_
  rw [←e,ix_at hs nd hi,List.getD_eq_getElem?_getD,List.getElem?_eq_getElem (by simpa using hi),List.getElem_map];rfl
 ·rw [List.all_eq_true]
  intro i hi
  have hi:i<s.length:=by simpa using List.mem_range.mp hi
  rw [beq_iff_eq]
  exact ix_at hs nd hi
theorem a0I {k:Bool} {g:List Bool} {s:List Mt} (hs:∀ m,bP (k::g) (kf m)=true) (ht:∀ m,a4j (kf m)=some (k::g)):keyOk (s.map kf)=true:=by
 cases s with
 | nil=>rfl
 | cons m r=>
  show (match a4j (kf m) with | some (k::g)=>((m::r).map kf).all (bP (k::g)) | _=>false)=true
  rw [ht m]
  exact List.all_eq_true.mpr fun d hd=>by obtain ⟨n,_,rfl⟩:=List.mem_map.mp hd;exact hs n
theorem qZ {fe:EF} (h:∀ m:Mt,fe [.val (dM m)]=some (.ok (kf m))):∀ s:List Mt,jE fe (s.map dM)=some (s.map kf)
 | []=>rfl
 | m::s=>by
  show (match fe [.val (dM m)] with | some (.ok k)=>(jE fe (s.map dM)).map (k::·) | _=>none)=_
  rw [h m,qZ h s];rfl
theorem wR {fe:EF} {k:Bool} {g:List Bool} {s:List Mt} (h:∀ m:Mt,fe [.val (dM m)]=some (.ok (kf m))) (hs:∀ m,bP (k::g) (kf m)=true) (ht:∀ m,a4j (kf m)=some (k::g)) (nd:(s.map kf).Nodup) (hz:s.length<64) :
  nW fe (s.map dM)=some (.list ((wP kf s).map dM)):=by
 unfold nW
 rw [qZ h s]
 show (if (keyOk (s.map kf)&&decide ((s.map kf).length<64))=true then (a0n (s.map dM) (s.map kf)).map PyData.list else none)=_
 rw [if_pos (by rw [a0I hs ht,List.length_map,decide_eq_true hz];rfl),a4f hs nd];rfl
end
noncomputable abbrev kE (m:Mt):PyData:=.tuple [.int m.2.2,.int m.2.1,.str m.1]
theorem kE_inj (a b:Mt) (h:kE a=kE b):a=b:=by
 obtain ⟨a1,a2,a3⟩:=a
 obtain ⟨b1,b2,b3⟩:=b
 injection h with h
 injection h with h1 h
 injection h with h2 h
 injection h with h3 h
 cases h1;cases h2;cases h3;rfl
noncomputable def cB (s:List Mt):List Mt:=wP kE s
theorem bV (s:List Mt):(cB s).Perm s:=lK s
theorem vO (s:List Mt):pO ((cB s).map kE):=by
 unfold cB
 rw [nV]
 exact iU (g:=[true,true,false]) _ fun d hd=>by obtain ⟨m,_,rfl⟩:=List.mem_map.mp hd;rfl
end L2.L3
namespace L2.L3
open PySem PySem.Spec PyProof.Rows
noncomputable abbrev cW:EF:=iS (aC (op2 ixD (var 0) (cst (.int 2))) (aC (op2 ixD (var 0) (cst (.int 1))) (aC (op2 ixD (var 0) (cst (.int 0))) aJ)))
noncomputable def dG:SF:=(retS (sI (var 0) cW))
noncomputable def bH:List PyData→Mm PyData:=dZ 1 1 dG
noncomputable abbrev fY:TF:=thT (orT (a0y (a0g (var 1))) (eQ leD (op2 ixD (op2 ixD (var 1) (op1 a2k (cst (.int 1)))) (cst (.int 2))) (op2 ixD (var 2) (cst (.int 1)))))
noncomputable abbrev gL:SF:=ifS fY (uC 1 (var 2)) iQ
noncomputable def iI:SF:=(bL (wZ 1 aJ) (bL (a3b (.nm 2) (iW (aZ bH (aC (var 0) aJ))) gL) (pU 1 (retS (aZ bM (aC (var 1) aJ))))))
noncomputable def eR:List PyData→Mm PyData:=dZ 3 1 iI
theorem qT {t:Tg} {fb:SF} {d:PyData} {ds:List PyData} {ρ ρ1 ρ2:List Ent} (h1:tgD t ρ d=some ρ1) (h2:fb ρ1=some (.nx ρ2)):fR t fb (d::ds) ρ=fR t fb ds ρ2:=by
 rw [fR,h1];dsimp only;rw [h2]
theorem nd_kE {s:List Mt} (h:(s.map (·.1)).Nodup):(s.map kE).Nodup:=by
 rw [List.Nodup,List.pairwise_map] at h ⊢
 exact h.imp fun {a b} n e=>n (by rw [kE_inj a b e])
theorem vP {s:List Mt} (nd:(s.map (·.1)).Nodup) (hz:s.length<64):bH [dS s]=some (.ok (.list ((cB s).map dM))):=by
 refine cI rfl ?_
 show dG [.val (dS s)]=_
 have e:sI (var 0) cW [.val (dS s)]=some (.ok (.list ((cB s).map dM))):=by
  show lft (nW cW (s.map dM))=_
  rw [wR (kf:=kE) (k:=true) (g:=[true,false]) (fun m=>rfl) (fun m=>rfl) (fun m=>rfl) (nd_kE nd) hz];rfl
 unfold dG
 rw [gC,e];rfl
noncomputable def jD (ch:List Mt):Option Int:=ch.getLast?.map (·.2.2)
theorem t_most (S:Ent) (ch:List Mt) (m:Mt):fY [S,.lst (ch.map dM),.val (dM m)]=some (.ok (match jD ch with | none=>true | some e=>decide (e≤m.2.1))):=by
 refine a1t ?_
 rcases List.eq_nil_or_concat ch with rfl | ⟨i,c,rfl⟩
 ·cases S<;>rfl
 ·rw [List.concat_eq_append]
  have e1:jD (i++[c])=some c.2.2:=by simp [jD]
  have e2:nM (.list ((i++[c]).map dM))=some true:=by simp [nM]
  rw [e1,orT_e]
  show bnd (bnd (lft (nM (.list ((i++[c]).map dM)))) _) _=_
  rw [e2]
  show eQ leD (op2 ixD (op2 ixD (var 1) (op1 a2k (cst (.int 1)))) (cst (.int 2))) (op2 ixD (var 2) (cst (.int 1))) (frzAll [S,.lst ((i++[c]).map dM),.val (dM m)])=_
  have e3:op2 ixD (var 1) (op1 a2k (cst (.int 1))) (frzAll [S,.lst ((i++[c]).map dM),.val (dM m)])=some (.ok (dM c)):=by
   show lft (atI ((i++[c]).map dM) (-1))=_
   rw [List.map_append,List.map_cons,List.map_nil,a5Q];rfl
  rw [xX,dE,e3];rfl
theorem jN (S:Ent):∀ (l ch:List Mt) (x:Ent),ch.length+l.length≤1000→∃ x',fR (.nm 2) gL (l.map dM) [S,.lst (ch.map dM),x]=some (.nx [S,.lst ((ch++gr l (jD ch)).map dM),x'])
 | [],ch,x,h=>⟨x,by rw [gr,List.append_nil];rfl⟩
 | m::l,ch,x,h=>by
  rw [List.length_cons] at h
  have step:gL [S,.lst (ch.map dM),.val (dM m)]=some (.nx [S,.lst ((if (match jD ch with | none=>true | some e=>decide (e≤m.2.1))=true then ch++[m] else ch).map dM),.val (dM m)]):=by
   show ifS fY (uC 1 (var 2)) iQ _=_
   rw [gP,t_most]
   generalize (match jD ch with | none=>true | some e=>decide (e≤m.2.1))=b
   cases b with
   | true=>
    rw [wC,if_pos rfl,if_pos rfl,uB (i:=1) (fa:=var 2) (d:=dM m) rfl rfl (by rw [List.length_map];omega)]
    simp
   | false=>rfl
  rw [List.map_cons]
  rw [qT (t:=.nm 2) (ρ1:=[S,.lst (ch.map dM),.val (dM m)]) rfl step]
  cases he:jD ch with
  | none=>
   obtain ⟨x',e⟩:=jN S l (ch++[m]) (.val (dM m)) (by rw [List.length_append,List.length_singleton];omega)
   refine ⟨x',?_⟩
   rw [if_pos rfl,e]
   have e1:jD (ch++[m])=some m.2.2:=by simp [jD]
   rw [e1,gr,List.append_assoc];rfl
  | some z=>
   by_cases hc:z≤m.2.1
   ·obtain ⟨x',e⟩:=jN S l (ch++[m]) (.val (dM m)) (by rw [List.length_append,List.length_singleton];omega)
    refine ⟨x',?_⟩
    dsimp only
    rw [if_pos (decide_eq_true hc),e]
    have e1:jD (ch++[m])=some m.2.2:=by simp [jD]
    rw [e1,gr,if_pos hc,List.append_assoc];rfl
   ·obtain ⟨x',e⟩:=jN S l ch (.val (dM m)) (by omega)
    refine ⟨x',?_⟩
    dsimp only
    rw [if_neg (by rw [decide_eq_false hc];decide),e,he,gr,if_neg hc]
theorem a3k (s:List Mt) (hz:s.length≤100000):bM [.list (s.map dM)]=some (.ok (.list ((s.map (·.1)).map .str))):=by
 refine cI rfl ?_
 have:=dQ (t:=.nm 0) (cap:=[none]) (fi:=iW (var 0)) (fe:=op2 ixD (var 0) (cst (.int 0))) (ρ:=[.val (.list (s.map dM))]) dM (fun m=>[.val (dM m)]) (fun m=>.str m.1) s rfl hz (fun x _=>rfl) (fun x _=>rfl)
 show fE [.val (.list (s.map dM))]=_
 unfold fE
 rw [gC]
 show bns (dL (.nm 0) [none] (iW (var 0)) ttT (op2 ixD (var 0) (cst (.int 0))) [.val (.list (s.map dM))]) _ _=_
 rw [this,wC,List.map_map];rfl
theorem tO {s:List Mt} (nd:(s.map (·.1)).Nodup) (hz:s.length<64):eR [dS s]=some (.ok (.list (((gr (cB s) none).map (·.1)).map .str))):=by
 refine cI rfl ?_
 show iI [.val (dS s),.no,.no]=_
 unfold iI
 rw [aL (ρ':=[.val (dS s),.lst [],.no]) (by simp)]
 have hl:(cB s).length=s.length:=(bV s).length_eq
 obtain ⟨x',e⟩:=jN (.val (dS s)) (cB s) [] .no (by simp;omega)
 rw [aL (ρ':=[.val (dS s),.lst ((gr (cB s) none).map dM),x']) (by
  rw [xN,mZ (bZ (ds:=[dS s]) rfl (vP nd hz)) rfl]
  exact e)]
 have hg:(gr (cB s) none).length≤100000:=by
  have:=(oY (cB s) none).length_le
  omega
 show pU 1 (retS (aZ bM (aC (var 1) aJ))) [.val (dS s),.lst ((gr (cB s) none).map dM),x']=_
 show retS (aZ bM (aC (var 1) aJ)) [.val (dS s),.val (.list ((gr (cB s) none).map dM)),x']=_
 rw [gC,bZ (ds:=[.list ((gr (cB s) none).map dM)]) rfl (a3k _ hg)];rfl
theorem jP (s:List Mt):(cB s).Pairwise (fun a b=>a.2.2≤b.2.2):=by
 have h:=vO s
 unfold pO at h
 rw [List.pairwise_map] at h
 refine h.imp fun {a b} z=>?_
 have z:(if eqC (.int b.2.2) (.int a.2.2) then ltR [.int b.2.1,.str b.1] [.int a.2.1,.str a.1] else decide (b.2.2<a.2.2))=false:=z
 by_cases c:b.2.2=a.2.2
 ·omega
 ·rw [if_neg (by simpa [eqC] using c),decide_eq_false_iff_not] at z
  omega
end L2.L3
namespace L2.L3
open PySem
section
variable {nm:Str} {b z v:Int} {n:Nat} {o:List Int}
end
section
variable {nm nm':Str} {b z v b' z' v':Int} {n n':Nat} {o o':List Int}
end
noncomputable abbrev ov (x y:Mt):Prop:=max x.2.1 y.2.1<min x.2.2 y.2.2
end L2.L3
namespace L2.L3
open PySem PySem.Spec PyProof.Rows
section
variable {P:Program} {w:World} {K:PySem.W.Frag} {mg:Str→Option Value} {base:Heap} {x:Str} {k:Nat} {ps N:List Str}
theorem vZ {st:Stmt} (D:Def K mg x st) (S:FnScope N ps (aE st))
  (hb:∀ (kV doc pm:Value) (an:Option Addr) (cdv ct:Value) (us:List Value),us.length=ps.length→bindArgs (PySem.W.fnOf x x (cR st) (bG st) (aE st) .none kV doc pm an cdv ct) ⟨us,[]⟩=pure (ps.zip us)) :
  aO P w K mg base x (k+1) ps (fun _=>none):=by
 obtain ⟨fa,fd,Fu,hmg⟩:=D.ex
 exact ⟨fa,fd,hmg,Fu.kp,Fu.binds hb,Fu.ok S (fun vs H Q E ⟨G,ds,d,s,r,hF,_⟩=>by cases hF) (fun cdv A outer s H vs Q E hr ⟨G,ds,d,sm,r,hF,q⟩=>by cases hF)⟩
end
section
variable {X:Cx} {e:Expr} {fa:EF} {pos p pos2 p2:Pos}
end
section
variable {X:Cx} {a b:Expr} {pos p p2 pos2:Pos} {fa:EF}
end
end L2.L3
namespace L2.SX
open PySem PyProof.Rows
section
variable {prog:Program} {w:World} {K:Type} [DecidableEq K] {knd:KeyKind prog w K} {A:Around} {E:Value→Shared→Prop} {s:Shared} {a:Addr}
theorem mP:entryFor table "dict.update.loop" = some Builtin.«dict.update.loop»:=entryFor_of_tree (by kernel_rfl)
theorem fN:plainId "dict.update.loop" = true:=by decide +kernel
theorem tE:typeLookup (.type "list") "keys" = pure none:=am_miss_of_fast (by kernel_rfl)
theorem a0G {xs:Array Value} {n:Nat} {sl:Array (Option Value)} {Q:Option Value→Shared→Prop} (hx:s.heap.get? a=some { cls:=.type "list", dict:=none,data:=.seq xs n,slots:=sl }) (hA:A.handled=none)
  (h:∀ h' tk,(∀ b ob,s.heap.get? b=some ob→h'.get? b=some ob)→Q none { s with heap:=h',toks:=tk }):wpAny (model prog w) A (getAttr? (.ref a) "keys") Q E s:=by
 obtain ⟨hp,g,d,tk,os⟩:=s
 have hT:∀ tk',(⟨hp,g,d,tk',os⟩:Shared).TypeIs (.ref a) "list" := fun _=>⟨_,hx,rfl⟩
 have f1:=sub_AttributeError
 have f3:=F.slot_list_getattribute.lookup
 have f4:=F.slot_list_getattribute.bind (.ref a)
 have f5:=am_list_getattr_none
 have hmiss:=tE
 have hname:(["__module__", "__name__", "__qualname__", "__doc__", "__annotations__"]:List Str).contains "keys" = false:=by decide +kernel
 have hsz:("keys" : Str).length+100≤sizeLine:=by size_fits
 generalize ("keys" : Str)=name at hmiss hname hsz ⊢
 unfold getAttr? getAttrBy? getAttrBy
 repeat (any_goals (first | assumption | exact hT _ | ((with_reducible show wpAny _ _ (call (Value.builtin "list.__getattribute__") _ _) _ _ _);refine call_meets F.slot_list_getattribute (hT _) am_entry_list_getattribute (F.args_list_getattribute_2 _ _) (meets_getattribute_miss_list a xs n sl name _ hmiss hname hsz) ⟨hx,hA,fun h' tk' e hx'=>?_⟩) | wp_step))
 obtain ⟨t',u',he⟩:=hx'.there
 show wpAny _ _ (getattributeRaised _ _ _ _ _ _ _) _ _ _
 unfold getattributeRaised
 repeat (any_goals (first | assumption | wp_step))
 exact h _ _ hx'.keeps
end
section
variable {prog:Program} {w:World} {K:Type} [DecidableEq K] {knd:KeyKind prog w K} {A:Around} {R:Result→Shared→Prop} {I:Addr} {fp wr:List Addr} {G:Array GenState→Array GenState→Prop} {n:Nat} {P:Nat→Value→Prop} {St:Nat→Shared→Prop}
theorem a3t (W:WalksS prog w A.in1 I fp wr G n P St) (D:Addr) (hDf:D∉fp) {h₀:Heap} (hwr:∀ b∈wr,h₀.get? b=none) (hD:h₀.get? D=none) (prs:List (K×Value)) (hn:prs.length=n)
  (hval:∀ i v,P i v→∃ t o x kv,v=.ref t∧h₀.get? t=some o∧o.cls=.type "tuple" ∧ (∃ m,o.data=.seq #[x,kv.2] m)∧knd.is kv.1 x=true∧prs[i]?=some kv) (hsz:n≤sizeLine) :
  ∀ (m i:Nat) (s:Shared),n - i=m→i≤n→St i s→(∀ b o,h₀.get? b=some o→s.heap.get? b=some o)→s.heap.DictOf knd D (merged [] (prs.take i)) →
   (∀ s',Moved (D::wr) G s s'→(∀ b o,h₀.get? b=some o→s'.heap.get? b=some o)→s'.heap.DictOf knd D (merged [] prs)→R (.ok (.ret .none)) s') →
   codeAny (model prog w) A (.builtin "dict.update.loop" ⟨[.ref D,.ref I,rawInt (i:Int),.none],[]⟩) R s:=by
 have nw:D∉wr:=fun z=>hDf (W.sub _ z)
 have up:∀ b∈wr,b∈D::wr:=fun b hb=>List.mem_cons_of_mem _ hb
 have keep:∀ {s s':Shared},Moved wr G s s'→(∀ b o,h₀.get? b=some o→s.heap.get? b=some o)→∀ b o,h₀.get? b=some o→s'.heap.get? b=some o:=fun mv k b o e=>mv.heap b o (fun z=>by rw [hwr b z] at e;cases e) (k b o e)
 intro m
 induction m with
 | zero=>
  intro i s hm hi st kp g hR
  obtain rfl:i=n:=by omega
  refine codeAny_builtin mP ?_
  rw [Around.under_plainId fN _]
  show wpAny _ A.in1 (pyNext (.ref I)>>=_) _ _ s
  refine wpAny_bind (W.done s _ _ st fun s' mv=>?_)
  show wpAny _ _ (Builtin.Dict.addKeywords D []>>=_) _ _ _
  refine wpAny_bind (wpAny_pure (wpAny_pure (hR s' (mv.mono up) (keep mv kp) ?_)))
  rw [←hn,List.take_length] at g
  obtain ⟨o',es,ep,h1,h2⟩:=g
  exact ⟨o',es,ep,mv.heap D o' nw h1,h2⟩
 | succ m ih=>
  intro i s hm hi st kp g hR
  have lt:i<n:=by omega
  refine codeAny_builtin mP ?_
  rw [Around.under_plainId fN _]
  show wpAny _ A.in1 (pyNext (.ref I)>>=_) _ _ s
  refine wpAny_bind (W.item i s _ _ lt st fun v s' pv st' mv=>?_)
  obtain ⟨t,o,x,kv,rfl,ho,hc,⟨mm,hd⟩,hk,hp⟩:=hval i v pv
  have kp':=keep mv kp
  have g':s'.heap.DictOf knd D (merged [] (prs.take i)):=by
   obtain ⟨o',es,ep,h1,h2⟩:=g
   exact ⟨o',es,ep,mv.heap D o' nw h1,h2⟩
  have hT:s'.TypeIs (.ref t) "tuple" := ⟨o,kp' t o ho,hc⟩
  refine wpAny_bind (wpAny_holding (wpAny_bind (wpAny_tryCatch ?_)))
  unfold Builtin.Dict.pairItems
  refine wpAny_bind (wpAny_typeOf hT ?_)
  rw [if_pos (by decide)]
  refine wpAny_bind (wpAny_seqItems (kp' t o ho) hd (wpAny_pure ?_))
  show wpAny _ _ (holding [x,kv.2] (dictSet D x kv.2)) _ _ _
  have hlen:(merged [] (prs.take i)).length≤sizeLine:=by
   have:=merged_length_le ([]:List (K×Value)) (prs.take i)
   rw [List.length_take] at this
   simp at this
   omega
  refine wpAny_holding (wpAny_dictSet_pairs hk g' (fun h' g2 sb=>?_) hlen)
  rw [←merged_take_succ _ _ _ _ hp] at g2
  refine wpAny_pure ⟨plainId_quiet fN _,ih (i+1) _ (by omega) lt (W.frame _ s' _ _ st' (Nat.le_succ _) fun c hc' o' e=>?_) (fun b o' e=>?_) g2 fun s'' mv'' kp'' g''=>?_⟩
  ·show h'.get? c=_
   rw [sb.2 c (fun z:c=D=>hDf (z▸hc'))]
   exact e
  ·show h'.get? b=_
   rw [sb.2 b (fun z:b=D=>by rw [z,hD] at e;cases e)]
   exact kp' b o' e
  ·refine hR s'' (Moved.trans W.gtrans ((mv.mono up).then_heap (Nat.le_succ _) fun c o' hc' e=>?_) mv'') kp'' g''
   show h'.get? c=_
   rw [sb.2 c (fun z:c=D=>hc' (by rw [z];exact List.mem_cons_self))]
   exact e
end
section
variable {prog:Program} {w:World} {K:Type} [DecidableEq K] {knd:KeyKind prog w K} {A:Around} {E:Value→Shared→Prop} {s:Shared}
theorem dict_of {l:Addr} {items:Array Value} {n:Nat} {sl:Array (Option Value)} {prs:List (K×Value)} {Q:Value→Shared→Prop} (hh:A.handled=none) (hl:s.heap.get? l=some { cls:=.type "list", dict:=none,data:=.seq items n,slots:=sl })
  (hn:prs.length=items.size) (hval:∀ (i:Nat) (v:Value),items[i]?=some v→∃ (t:Addr) (o:Obj) (x:Value) (kv:K×Value),v=.ref t∧s.heap.get? t=some o∧o.cls=.type "tuple" ∧ (∃ m,o.data=.seq #[x,kv.2] m)∧knd.is kv.1 x=true∧prs[i]?=some kv) (hsz:prs.length≤sizeLine)
  (h:∀ (h':Heap) (tk:Nat),h'.DictOf knd s.heap.objs.size (merged [] prs)→(∀ b o,s.heap.get? b=some o→h'.get? b=some o)→Q (.ref s.heap.objs.size) { s with heap:=h',toks:=tk }) :
  wpAny (model prog w) A (call (.type "dict") [.ref l]) Q E s:=by
 refine callType_codes (Q₁:=fun obj s₁=>obj=.ref s.heap.objs.size∧s₁={ s with heap:=s.heap.push { cls:=.type "dict", data:=.dict #[] } }) F.kt_called_dict (F.kt_typeCall_dict_1 _) F.entry_dict_init (kt_code_dict_new _ ⟨rfl,rfl⟩) ?_
 rintro obj s₁ ⟨rfl,rfl⟩
 have hnew:(s.heap.push { cls:=.type "dict", data:=.dict #[] }).DictOf knd s.heap.objs.size []:=Heap.DictOf.new s.heap
 have hl1:(s.heap.push { cls:=.type "dict", data:=.dict #[] }).get? l=some { cls:=.type "list", dict:=none,data:=.seq items n,slots:=sl }:=Heap.get?_push_of_some _ hl
 have hT:Shared.TypeIs { s with heap:=s.heap.push { cls:=.type "dict", data:=.dict #[] } } (.ref l) "list" := ⟨_,hl1,rfl⟩
 have lt:l<s.heap.objs.size:=Heap.lt_size hl
 refine ⟨hnew.typeIs,F.args_dict_init_2 _ _,?_⟩
 unfold Builtin.«dict.__init__»
 refine wpAny_bind ?_
 unfold Builtin.Dict.selfAndRest
 refine wpAny_bind (wpAny_notOrdered_dict hnew.typeIs ?_)
 show wpAny _ _ (pure (s.heap.objs.size,[Value.ref l])) _ _ _
 refine wpAny_pure ?_
 show wpAny _ _ (Builtin.Dict.updateFrom "dict.__init__" s.heap.objs.size (.ref l) [] .none) _ _ _
 unfold Builtin.Dict.updateFrom
 refine wpAny_bind (wpAny_typeOf hT ?_)
 rw [if_pos (by decide)]
 refine wpAny_bind (a0G (A:=A.in1.in1) hl1 hh fun h1 tk1 k1=>?_)
 rw [if_pos (by rfl)]
 refine wpAny_bind (wpAny_rule ?_)
 have L1:h1.IsList l items:=⟨_,k1 _ _ hl1,rfl,n,rfl⟩
 refine wpAny_bind (wpAny_pyIter_list L1 ?_)
 have ltD:s.heap.objs.size<h1.objs.size:=Heap.lt_size (k1 _ _ (Heap.get?_push_size _ rfl))
 have nI:l≠h1.objs.size:=Nat.ne_of_lt (Nat.lt_trans lt ltD)
 have kp0:∀ b o,s.heap.get? b=some o→(h1.push { cls:=.type "list_iterator", data:=.fields #[.ref l,.int 0 0] }).get? b=some o:=fun b o e=>Heap.get?_push_of_some _ (k1 b o (Heap.get?_push_of_some _ e))
 refine wpAny_pure ⟨plainId_quiet fN _,?_⟩
 refine a3t (knd:=knd) (A:=A.in1) ((Walks.list (A:=A.in1.in1) hh h1.objs.size l nI items).toS) s.heap.objs.size ?_ (h₀:=s.heap) ?_ (Heap.get?_none_of_le (Nat.le_refl _)) prs hn hval (by omega) (items.size - 0) 0 _ (by omega) (Nat.zero_le _) ⟨⟨_,Heap.get?_push_size _ rfl,rfl,rfl⟩,L1.push _⟩ kp0 ?_ ?_
 ·intro z
  rcases List.mem_cons.mp z with z | z
  ·exact absurd z (Nat.ne_of_lt ltD)
  ·rw [List.mem_singleton] at z
   exact absurd z (Nat.ne_of_gt lt)
 ·intro b hb
  rw [List.mem_singleton] at hb
  subst hb
  exact Heap.get?_none_of_le (Nat.le_of_lt ltD)
 ·obtain ⟨o',es,ep,h2,h3⟩:=hnew
  exact ⟨o',es,ep,Heap.get?_push_of_some _ (k1 _ _ h2),h3⟩
 ·intro s' mv kp g'
  obtain ⟨h',gs',dr',tk',os'⟩:=s'
  obtain rfl:gs'=s.gens:=mv.gens
  obtain rfl:dr'=s.drawn:=mv.drawn
  obtain rfl:os'=s.os:=mv.os
  exact ⟨rfl,h h' tk' g' kp⟩
end
end L2.SX
namespace L2.L3
open PySem PySem.Spec PyProof.Rows
noncomputable def pI:PyData→Option Key
 | .int i=>some (.inl i)
 | .str x=>some (.inr x)
 | _=>none
theorem mD (k:Key):pI (cE k)=some k:=by cases k<;>rfl
theorem nJ {d:PyData} {k:Key} (h:pI d=some k):d=cE k:=by
 unfold pI at h;split at h
 ·cases h;rfl
 ·cases h;rfl
 ·cases h
noncomputable def jQ:PyData→Option (Key×PyData)
 | .tuple [k,v]=>(pI k).map (·,v)
 | _=>none
theorem a1Z {d:PyData} {p:Key×PyData} (h:jQ d=some p):d=.tuple [cE p.1,p.2]:=by
 unfold jQ at h;split at h
 ·obtain ⟨k,hk,rfl⟩:=Option.map_eq_some_iff.mp h
  rw [nJ hk]
 ·cases h
noncomputable def jA (kvs:List (Key×PyData)):PyData:=.dict (kvs.map fun p=>(cE p.1,p.2))
noncomputable def jU (ds:List PyData):Option PyData:=match ds with
 | [.list xs]=>match dJ jQ xs with
  | some kvs=>if decide (kvs.map (·.1)).Nodup&&decide (kvs.length≤1000) then some (jA kvs) else none
  | none=>none
 | _=>none
noncomputable def qY (k:Key):List (PyData×PyData)→Option PyData
 | []=>none
 | p::r=>if pI p.1=some k then some p.2 else qY k r
noncomputable def iH (x k:PyData):Option PyData:=match x,pI k with
 | .dict D,some k=>qY k D
 | _,_=>none
noncomputable def qW (k:Key):List (Key×V)→Option V
 | []=>none
 | p::r=>if p.1=k then some p.2 else qW k r
section
variable {K:PySem.W.Frag} {G:Hp}
theorem qX {k:Key} {d:PyData}:∀ {kvs:List (Key×V)} {D:List (PyData×PyData)},D.map (·.1)=kvs.map (fun p=>cE p.1)→RepAll K G (kvs.map (·.2)) (D.map (·.2))→qY k D=some d→∃ v,qW k kvs=some v∧Rep K G v d
 | [],[],_,_,h=>by cases h
 | [],_::_,e,_,_=>by simp at e
 | _::_,[],e,_,_=>by simp at e
 | q::kvs,p::D,e,.cons r t,h=>by
  rw [List.map_cons,List.map_cons,List.cons.injEq] at e
  unfold qY at h
  unfold qW
  rw [e.1,mD] at h
  by_cases c:q.1=k
  ·rw [if_pos (by rw [c])] at h
   rw [if_pos c]
   cases (Option.some.inj h)
   exact ⟨_,rfl,r⟩
  ·rw [if_neg (fun z=>c (Option.some.inj z))] at h
   rw [if_neg c]
   exact qX e.2 t h
theorem qV {k:Key} {v:V}:∀ {kvs:List (Key×V)} {vs:List (Key×Value)},KV kvs vs→qW k kvs=some v→∃ u,valueAt vs k=some u∧RelV v u
 | _,_,.nil,h=>by cases h
 | q::kvs,p::vs,.cons r t,h=>by
  unfold qW at h
  have e:valueAt (p::vs) k=if p.1=k then some p.2 else valueAt vs k:=by
   unfold valueAt
   rw [List.find?_cons]
   by_cases c:p.1=k
   ·rw [if_pos c];simp [c]
   ·rw [if_neg c];simp [c]
  rw [e]
  by_cases c:q.1=k
  ·rw [if_pos c] at h
   rw [if_pos (r.1▸c)]
   cases (Option.some.inj h)
   exact ⟨_,rfl,r.2⟩
  ·rw [if_neg c] at h
   rw [if_neg (fun z=>c (r.1.trans z))]
   exact qV t h
theorem sM {k:Key} {v:V} (r:Rep K G v (cE k)):v=kV k:=by
 cases k<;>(cases r;rfl)
end
section
variable {X:Cx} {e a b:Expr} {fa fb:EF} {pos p:Pos}
theorem a5l {pins:List (Addr×Obj)} {σ:St} {H:Hp} {s:Shared} (I:Inv X pins σ H s):sysModules<s.heap.objs.size:=by
 have h:mainGlobals<s.heap.objs.size:=(I.mod.glob.keeps I.bk).lt
 exact Nat.lt_trans (by decide) h
theorem zG {P:Program} {w:World} {k:Key} {u:Value} (r:RelV (kV k) u):(aP P w).is k u=true:=by
 cases k with
 | inl i=>obtain ⟨t,rfl⟩:=r;exact mJ P w i t
 | inr x=>obtain ⟨t,rfl⟩:=r;exact fQ P w x t
noncomputable def rIxK:R2:=fun x y H Q=>∃ p kvs k v,x=.ref p∧y=kV k∧Rd H p (.dK kvs)∧qW k kvs=some v∧Q v H
theorem a5i:IxR X rIxK:=by
 intro value slice pins s σ H x y v u Q I rx ry h hs
 obtain ⟨p,kvs,k,z,rfl,rfl,hq,he,q⟩:=h
 cases rx
 obtain ⟨hz,hS,vs,kv,dd⟩:=(show bR X.prog X.w H s.heap p (.dK kvs) from hq.ok I.hok)
 obtain ⟨w,ew,rw'⟩:=qV kv he
 exact subscriptTail_builtinR (x:=w) dd.typeIs slot_dict_getitem.lookup
  (wpAny_getItem_of (Q:=fun r s'=>r=w∧EP X pins σ Q r s') (zG ry) dd.mapOf ew ⟨rfl,z,H,I.tok _,rw',q⟩) hs
theorem mB (ha:DE X a fa) (hb:DE X b fb) (hs:uD b:=by exact fun _ _=>rfl):DE X (.Subscript a b pos) (op2 iH fa fb):=
 ⟨fun pins s σ H Q I ⟨ρ,r,H0,G₀,G,e,R,q⟩=>a6f a5i ha.run hb.run hs pins s σ H Q I (bE R e q.x fun x v G1 H1 g1 R1 rv e1=>bE R1 e1 (q.more g1).x fun y u G2 H2 g2 R2 ru e2=>by
  obtain ⟨d,ed,rfl⟩:=bI e2
  unfold iH at ed
  split at ed
  ·rename_i D k hk
   rw [nJ hk] at ru
   cases sM ru
   cases (rv.mono g2.gg) with
   | dict h e0 rr=>
    obtain ⟨w,ew,rw'⟩:=qX e0 rr ed
    exact ⟨_,_,k,w,rfl,rfl,nA g2.sub h,ew,q w _ _ (g1.trans g2) rw'⟩
  ·cases ed)⟩
theorem a1O {pins:List (Addr×Obj)} {σ:St} {H:Hp} {s:Shared} (I:Inv X pins σ H s):∀ {ts:List V} {kvs:List (Key×V)} {its:List Value},Paired (fun t (kv:Key×V)=>∃ a,t=V.ref a∧SqT X.K H a [kV kv.1,kv.2]) ts kvs→aR ts its →
  ∃ prs:List (Key×Value),KV kvs prs∧∀ (i:Nat) (v:Value),its[i]?=some v→∃ (t:Addr) (o:Obj) (x:Value) (kv:Key×Value),v=.ref t∧s.heap.get? t=some o∧o.cls=.type "tuple" ∧ (∃ m,o.data=.seq #[x,kv.2] m)∧(aP X.prog X.w).is kv.1 x=true∧prs[i]?=some kv
 | _,_,_,.nil,.nil=>⟨[],.nil,fun i v e=>by simp at e⟩
 | _,_,_,.cons ⟨a,e,hq⟩ t,.cons r rs=>by
  obtain ⟨prs,h1,h2⟩:=a1O I t rs
  subst e
  cases r
  obtain ⟨its,rv,⟨o,ho,hc,n,hd⟩,hz⟩:=I.tuple hq
  obtain ⟨u,w,rfl,r1,r2⟩:=vals2 rv
  rename_i kv _ _ _
  refine ⟨(kv.1,w)::prs,.cons ⟨rfl,r2⟩ h1,fun i v e=>?_⟩
  cases i with
  | zero=>
   simp at e
   exact ⟨a,o,u,(kv.1,w),e.symm,ho,hc,⟨n,hd⟩,zG r1,rfl⟩
  | succ i=>exact h2 i v (by simpa using e)
theorem kv_len {kvs:List (Key×V)} {vs:List (Key×Value)} (h:KV kvs vs):kvs.length=vs.length:=by
 have:=congrArg List.length (kM h).1
 simpa using this
theorem oK {α β:Type} {F:α→β→Prop}:∀ {l:List α} {m:List β},Paired F l m→l.length=m.length
 | _,_,.nil=>rfl
 | _,_,.cons _ t=>by simp [oK t]
theorem rK (hc:X.calm=true):dP X (.type "dict") (fun xs H Q=>∃ (p:Addr) (ts:List V) (kvs:List (Key×V)),xs=[.ref p]∧SqL X.K H p ts∧Paired (fun t (kv:Key×V)=>∃ a,t=V.ref a∧SqT X.K H a [kV kv.1,kv.2]) ts kvs∧(kvs.map (·.1)).Nodup∧kvs.length≤1000 ∧
  ∀ l,H l=none→Q (.ref l) (upd H l (.dK kvs))):=by
 intro pins s σ H xs us Q I r ⟨p,ts,kvs,e,hq,hp,nd,hz,q⟩
 subst e
 obtain ⟨u,rfl,rx⟩:=vals1 r
 cases rx
 obtain ⟨its,rv,⟨o,n,ho,hcl,hdc,hda⟩,_⟩:=I.list hq
 obtain ⟨prs,kv,hv⟩:=a1O I hp rv
 obtain ⟨oc,od,odt,osl⟩:=o
 dsimp only at hcl hdc hda
 subst hcl hdc hda
 have hd:=I.ok.hd hc
 have l1:=kv_len kv
 have l2:=oK hp
 have l3:=rv.length
 have hline:kvs.length≤sizeLine:=Nat.le_of_lt (qF (by omega))
 refine SX.dict_of (knd:=aP X.prog X.w) (prs:=prs) hd ho (by rw [List.size_toArray];omega) (fun i v e=>hv i v (by simpa using e)) (by omega) fun h' tk dd kp=>?_
 have nd':(prs.map (·.1)).Nodup:=by rw [←(kM kv).1];exact nd
 rw [merged_nil_of_nodup prs nd'] at dd
 have big:=a5l I
 have ne:(s.heap.objs.size==sysModules)=false:=beq_eq_false_iff_ne.mpr (Nat.ne_of_gt big)
 exact ⟨.ref s.heap.objs.size,_,I.laid (t':=tk) (a:=s.heap.objs.size) (o:=.dK kvs) kp (Nat.le_refl _) ⟨hline,ne,prs,kv,dd⟩,rfl,q _ I.fresh⟩
theorem lS {K:PySem.W.Frag} {G:Hp}:∀ {ts:List V} {xs:List PyData} {ks:List (Key×PyData)},RepAll K G ts xs→dJ jQ xs=some ks→∃ kvs:List (Key×V),Paired (fun t (kv:Key×V)=>∃ a,t=V.ref a∧SqT K G a [kV kv.1,kv.2]) ts kvs∧kvs.map (·.1)=ks.map (·.1)∧RepAll K G (kvs.map (·.2)) (ks.map (·.2))
 | _,_,_,.nil,h=>by cases (Option.some.inj h);exact ⟨[],.nil,rfl,.nil⟩
 | _,d::ds,ks,.cons r t,h=>by
  unfold dJ at h
  split at h
  ·cases h
  ·rename_i q hq
   obtain ⟨ks',h1,rfl⟩:=Option.map_eq_some_iff.mp h
   obtain ⟨kvs,p1,p2,p3⟩:=lS t h1
   rw [a1Z hq] at r
   cases r with
   | tuple hs rr=>
    cases rr with | cons ra rr=>
    cases rr with | cons rb rr=>
    cases rr
    cases sM ra
    exact ⟨(q.1,_)::kvs,.cons ⟨_,rfl,hs⟩ p1,by rw [List.map_cons,List.map_cons,p2],.cons rb p3⟩
theorem tR (hc:X.calm=true) (ds:List PyData) (d:PyData) (h:jU ds=some d):CallD X (.type "dict") ds d:=by
 unfold jU at h
 split at h
 ·split at h
  ·rename_i xs ks e
   split at h
   ·rename_i hh
    rw [Bool.and_eq_true,decide_eq_true_eq,decide_eq_true_eq] at hh
    cases (Option.some.inj h)
    exact ⟨_,rK hc,fun vs G H Q s r q=>by
     cases r with | cons r rr=>cases rr;cases r with | list hq r=>
      obtain ⟨kvs,p1,p2,p3⟩:=lS r e
      have hl:kvs.length=ks.length:=by have:=congrArg List.length p2;simpa using this
      refine ⟨_,_,kvs,rfl,s.seq hq,Paired.mapP p1 (fun a b ⟨t,e1,e2⟩=>⟨t,e1,iC s e2⟩),by rw [p2];exact hh.1,by omega,fun l hl=>?_⟩
      refine q _ _ _ (.put s hl) (.dict (.inl aF) ?_ ?_)
      ·rw [List.map_map]
       have:ks.map ((fun x=>x.1)∘fun p:Key×PyData=>(cE p.1,p.2))=(ks.map (·.1)).map cE:=by rw [List.map_map];rfl
       rw [this,←p2,List.map_map];rfl
      ·rw [List.map_map]
       exact p3.mono (aY (s.free hl))⟩
   ·cases h
  ·cases h
 ·cases h
theorem boot_dict:bootBuiltins "dict" = some (.type "dict"):=by kernel_rfl
end
theorem RepAll.plain {K:PySem.W.Frag} {G G':Hp}:∀ {vs:List V} {ds:List PyData},ds.all kA=true→RepAll K G vs ds→RepAll K G' vs ds
 | _,_,_,.nil=>.nil
 | _,_,h,.cons r t=>by
  rw [List.all_cons,Bool.and_eq_true] at h
  exact .cons (r.plain h.1) (RepAll.plain h.2 t)
section
variable {X:Cx} {elt iter tg:Expr} {ifs:List Expr} {scope:Scope} {pos spos p:Pos} {N':List Str} {cap:List (Option Nat)} {t:Tg} {fi:AF} {ft:TF} {fe:EF}
end
noncomputable abbrev kL (m:Mt):PyData:=.tuple [.int m.2.1,.int (-m.2.2),.str m.1]
noncomputable def layO (s:List Mt):List Mt:=wP kL s
noncomputable abbrev Ly:=Mt×Nat
noncomputable def taken (P:List Ly) (m:Mt):List Int:=(P.filter fun p=>decide (ov m p.1)).map fun p=>(p.2:Int)
theorem a3w {xs:List PyData} {kvs:List (Key×PyData)} (h:dJ jQ xs=some kvs) (nd:(kvs.map (·.1)).Nodup) (hz:kvs.length≤1000):jU [.list xs]=some (jA kvs):=by
 unfold jU
 dsimp only
 rw [h]
 dsimp only
 rw [if_pos (by rw [Bool.and_eq_true,decide_eq_true_eq,decide_eq_true_eq];exact ⟨nd,hz⟩)]
noncomputable def colOf:List Ly→Str→Nat
 | [],_=>0
 | p::P,x=>if p.1.1=x then p.2 else colOf P x
section
variable {L:List Mt} {P:List Ly}
end
noncomputable def mostOf (L:List Mt):Int:=if L=[] then 0 else maxI (L.map fun x=>loadAt L x.2.1)
end L2.L3
namespace L2.L3
open PySem
noncomputable def a2V:List Mt→List Mt→Int→List (List Mt)
 | [],cur,_=>[cur]
 | m::l,cur,reach=>if m.2.1<reach then a2V l (cur++[m]) (max reach m.2.2) else cur::a2V l [m] m.2.2
noncomputable def grpOf:List Mt→List (List Mt)
 | []=>[]
 | m::l=>a2V l [m] m.2.2
end L2.L3
namespace L2.L3
open PySem PySem.Spec PyProof.Rows
section
variable {K:PySem.W.Frag} {H0 G₀ G H:Hp} {σ:St} {ρ:List Ent}
end
end L2.L3
namespace L2.L3
open PySem PySem.Spec PyProof.Rows
section
variable {X:Cx} {rest:List Stmt} {f:SF} {fa:EF} {e:Expr} {es:List Expr} {pos:Pos}
end
end L2.L3
namespace L2.L3
open PySem PySem.Spec PyProof.Rows
section
variable {X:Cx}
end
end L2.L3
namespace L2.L3
open PySem PySem.Spec PyProof.Rows
end L2.L3
namespace L2.ZT
open PySem PyProof.Rows
section
variable {prog:Program} {w:World} {A:Around} {E:Value→Shared→Prop} {s:Shared}
variable {z TI TO c d t u:Addr} {i j:Nat} {xs ys:Array Value} {a b:Value}
end
section
variable {prog:Program} {w:World} {A:Around} {E:Value→Shared→Prop} {s:Shared}
end
end L2.ZT
namespace L2.L3
open PySem PySem.Spec PyProof.Rows
noncomputable def Itl (K:PySem.W.Frag) (l1 l2:Addr):It:=
 ⟨fun i H=>∃ xs ys x y,SqT K H l1 xs∧SqL K H l2 ys∧xs[i]?=some x∧ys[i]?=some y,
 fun i H v H'=>∃ T x y,H T=none∧v=.ref T∧H'=upd H T (.tup [x,y])∧(∀ xs,SqT K H l1 xs→xs[i]?=some x)∧∀ ys,SqL K H l2 ys→ys[i]?=some y,
 fun i H=>∃ xs ys,SqT K H l1 xs∧SqL K H l2 ys∧(xs.length≤i∨ys.length≤i)⟩
section
variable {X:Cx} {a b:Expr} {elts:List Expr} {k0:Nat} {p0 pos p:Pos} {fa fb:EF}
end
noncomputable def prt (s:List Mt) (m:Mt):List Mt:=s.filter fun o=>!decide (o.1=m.1)&&decide (ov m o)
noncomputable def gof (s:List Mt) (m:Mt):List Mt:=((grpOf (layO s)).find? fun A=>decide (m∈A)).getD []
noncomputable def grp (s:List Mt) (m:Mt):List Mt:=s.filter fun a=>decide (a∈gof s m)
noncomputable def wid (s:List Mt) (m:Mt):Int:=mostOf (grp s m)
section
variable {s:List Mt}
variable (hp:∀ m∈s,m.2.1<m.2.2)
include hp
omit hp
noncomputable abbrev cl (P:List Ly) (m:Mt):Int:=(colOf P m.1:Nat)
variable {P:List Ly}
noncomputable def lst (s:List Mt) (P:List Ly) (m:Mt):Int:=minI ((wid s m::(prt s m).map (cl P)).filter fun c=>decide (cl P m<c))
end
end L2.L3
namespace L2.L3
open PySem
end L2.L3
namespace L2.L3
open PySem
noncomputable def nu (s:List Mt):Nat:=(gr (cB s) none).length
noncomputable def jK (s:List Mt):Prop:=∀ m∈s,m.2.1<m.2.2
theorem a4Q {s:List Mt} (hp:jK s):∃ F:List Mt,F.Pairwise iM∧(∀ m∈F,m∈s)∧F.length=nu s:=by
 obtain ⟨F,a,b,c,_⟩:=yZ hp (jP s) (bV s)
 exact ⟨F,a,b,c⟩
theorem a4R {s F:List Mt} (hp:jK s) (ha:F.Pairwise iM) (hF:∀ m∈F,m∈s):F.length≤nu s:=by
 obtain ⟨_,_,_,_,h⟩:=yZ hp (jP s) (bV s)
 exact h F ha hF
end L2.L3
namespace L2.L3
open PySem PySem.Spec PyProof.Rows
noncomputable def pB:SF:=(retS (xY ltD (fF a2u (aC (op2 ixD (var 0) (cst (.int 1))) (aC (op2 ixD (var 1) (cst (.int 1))) aJ))) (fF a5b (aC (op2 ixD (var 0) (cst (.int 2))) (aC (op2 ixD (var 1) (cst (.int 2))) aJ)))))
noncomputable def hV:List PyData→Mm PyData:=dZ 2 2 pB
theorem sh_dMs {s:List Mt} (h:∀ m∈s,PyData.strOk m.1=true):SeqAt.shaped (.list (s.map dM))=true:=yL (n:=2) (fun d hd=>by
 obtain ⟨m,hm,rfl⟩:=List.mem_map.mp hd
 rw [PyData.canLay0]
 exact iK fun d hd=>by
  have:d=.str m.1∨d=.int m.2.1∨d=.int m.2.2:=by simpa using hd
  rcases this with rfl | rfl | rfl
  ·simpa [PyData.canLay0] using h m hm
  ·simp [PyData.canLay0]
  ·simp [PyData.canLay0]) (fun d hd=>by
 obtain ⟨m,hm,rfl⟩:=List.mem_map.mp hd
 rw [PyData.depth]
 have:PyData.depthAll [PyData.str m.1,.int m.2.1,.int m.2.2]≤1:=fV fun d hd=>by
  have:d=.str m.1∨d=.int m.2.1∨d=.int m.2.2:=by simpa using hd
  rcases this with rfl | rfl | rfl<;>simp [PyData.depth]
 omega) (by decide)
theorem l_over (x y:Mt):hV [dM x,dM y]=some (.ok (.bool (decide (ov x y)))):=by
 refine cI rfl ?_
 show pB [.val (dM x),.val (dM y)]=_
 simp [pB]
theorem uP {x y:Mt} (hx:x.2.1<x.2.2) (hy:y.2.1<y.2.2):¬ov x y↔iM x y:=by unfold ov iM bef;omega
theorem pw_sym {F:List Mt} (h:F.Pairwise iM) {a b:Mt} (ha:a∈F) (hb:b∈F) (n:a≠b):iM a b:=by
 induction F with
 | nil=>cases ha
 | cons x r ih=>
  cases h with | cons h1 h2=>
  rcases List.mem_cons.mp ha with e1 | ha
  ·rcases List.mem_cons.mp hb with e2 | hb
   ·exact absurd (e1.trans e2.symm) n
   ·rw [e1];exact h1 b hb
  ·rcases List.mem_cons.mp hb with e2 | hb
   ·rw [e2];exact (h1 a ha).symm
   ·exact ih h2 ha hb
theorem cutL (ds:List PyData) (j:Nat) (hj:j+1≤ds.length):slD (.list ds) (some ((j:Int)+1)) none=some (.list (ds.drop (j+1))):=by
 have e:HT.sIx ds.length 0 (some ((j:Int)+1))=j+1:=by
  have:=HT.sIx_nat ds.length 0 (j+1)
  rw [show (((j+1:Nat)):Int)=(j:Int)+1 by omega] at this
  rw [this];omega
 have e2:HT.sIx ds.length ds.length none=ds.length:=rfl
 simp only [slD,cutD,e,e2]
 rw [List.take_of_length_le (by rw [List.length_drop];omega)]
theorem a5Z {fa:EF} {ρ:List Ent} {x:PyData} {r:List PyData} (h:fa ρ=some (.ok (.list (x::r)))):slE fa (iO (cst (.int 1))) iP ρ=some (.ok (.list r)):=by
 unfold slE
 rw [h]
 have:=cutL (x::r) 0 (by simp)
 show lft (slD (.list (x::r)) (some (((0:Nat):Int)+1)) none)=_
 rw [this];rfl
noncomputable def dflt:Mt:=("", 0,0)
theorem a5u (s:List Mt):pD (s.map dM)=(List.range s.length).map fun (k:Nat)=>.tuple [.int (k:Int),dM (s.getD k dflt)]:=by
 refine List.ext_getElem? fun i=>?_
 rw [zM,List.getElem?_map,List.getElem?_map]
 by_cases h:i<s.length
 ·rw [List.getElem?_range h,List.getElem?_eq_getElem h]
  simp [List.getD,List.getElem?_eq_getElem h]
 ·rw [List.getElem?_eq_none (by omega),List.getElem?_eq_none (by simpa using h)];rfl
end L2.L3
namespace L2.L3
open PySem PySem.W PySem.Spec PySem.Calls PyProof.Rows
section
variable {prog:Program} {w:World} {A:Around} {E:Value→Shared→Prop} {s:Shared}
end
section
variable {X:Cx} {pins:List (Addr×Obj)} {σ:St} {H H0 G₀ G:Hp} {s:Shared} {ρ:List Ent}
end
end L2.L3
namespace L2.L3
open PySem PySem.W PySem.Spec PySem.Calls PyProof.Rows
noncomputable abbrev gtB (kz:List Int):Nat→Nat→Bool:=fun i j=>decide (kz.getD i 0 > kz.getD j 0)
section
variable {prog:Program} {w:World} {A:Around} {E:Value→Shared→Prop} {s:Shared}
theorem a0D {q I S l:Addr} {n:Nat} {P:Nat→Value→Prop} {kz:List Int} {J:List Value→Shared→Prop} {R:Result→Shared→Prop} {kw:List (Str×Value)} (hh:A.handled=none) (hSI:S≠I)
  (lst:∀ ks s,J ks s→∃ vs:List Value,vs.length=n∧s.heap.IsList l vs.toArray∧∀ i v,vs[i]?=some v→P i v)
  (mono:∀ ks s h',J ks s→(∀ b o,b≠S→b≠I→s.heap.get? b=some o→h'.get? b=some o)→(∃ o,h'.get? S=some o)→(∃ o,h'.get? I=some o)→J ks { s with heap:=h' })
  (step:∀ ks s x,ks.length<n→P ks.length x→J ks s→wpAny (model prog w) A.in1 (call (.ref q) [x]) (fun k s'=>J (ks++[k]) s'∧(∃ t,k=.int (kz.getD ks.length 0) t)∧s'.heap.get? S=s.heap.get? S∧s'.heap.get? I=s.heap.get? I) (fun _ _=>False) s)
  (fin:∀ v ks s h',P (argBest (gtB kz) (n - 1)) v→J ks s→(∀ b o,b≠S→b≠I→s.heap.get? b=some o→h'.get? b=some o)→R (.ok (.ret v)) { s with heap:=h' }) :
  ∀ (k j:Nat) (s:Shared) (ks:List Value) (vb:Value) (tb:Tok) (c:Nat),n=j+1+k→ks.length=j+1→J ks s→s.heap.IsListIter I l (j+1)→P (argBest (gtB kz) j) vb →
   s.heap.get? S=some (iL #[vb,.int (kz.getD (argBest (gtB kz) j) 0) tb] c) →
   codeAny (model prog w) A (.builtin "max.loop" ⟨[.ref I,.ref q,.ref S],kw⟩) R s:=by
 have nm:(toString "max" ++ toString ".loop" : String) = "max.loop":=by decide
 intro k
 induction k with
 | zero=>
  intro j s ks vb tb c en kn hJ hit hvb eS
  apply codeAny_builtin F.entry_max_loop
  rw [Around.under_plainId F.plain_max_loop _]
  show wpAny _ A.in1 (seqItems? (.ref S)>>=_) _ _ s
  apply wpAny_bind;apply wpAny_seqItems eS rfl
  show wpAny _ A.in1 (tryCatch (pyNext (.ref I)) _>>=_) _ _ s
  apply wpAny_bind;apply wpAny_tryCatch
  obtain ⟨vs,ln,hls,hP⟩:=lst _ _ hJ
  refine wpAny_pyNext_list_end (A:=A.in1) hh hit hls (by simp [ln,en]) fun h' ex=>?_
  have eS':=ex S _ hSI eS
  show wpAny _ A.in1 (updateSeq S (fun _=>#[])>>=_) _ _ _
  apply wpAny_bind
  refine wpAny_updateSeq eS' rfl (wpAny_bind (wpAny_letGo (wpAny_pure ?_)))
  refine fin vb ks s _ (by rw [show n - 1=j by omega];exact hvb) hJ fun b o b1 b2 e=>(Heap.get?_update_other _ _ (Ne.symm b1)).trans (ex b o b2 e)
 | succ k ih=>
  intro j s ks vb tb c en kn hJ hit hvb eS
  obtain ⟨vs,ln,hls,hP⟩:=lst _ _ hJ
  have jn:j+1<vs.length:=by omega
  apply codeAny_builtin F.entry_max_loop
  rw [Around.under_plainId F.plain_max_loop _]
  show wpAny _ A.in1 (seqItems? (.ref S)>>=_) _ _ s
  apply wpAny_bind;apply wpAny_seqItems eS rfl
  show wpAny _ A.in1 (tryCatch (pyNext (.ref I)) _>>=_) _ _ s
  apply wpAny_bind;apply wpAny_tryCatch
  refine wpAny_pyNext_list_item (A:=A.in1) hit hls (x:=vs[j+1]'jn) (by simp [jn]) fun h' hit' sb=>?_
  have hv:P (j+1) (vs[j+1]'jn):=hP _ _ (List.getElem?_eq_getElem jn)
  generalize vs[j+1]'jn=v at hv ⊢
  have eS':h'.get? S=_:=(sb.extBut S _ hSI eS)
  obtain ⟨oI,hoI,_⟩:=id hit'
  have J1:J ks { s with heap:=h' }:=mono ks s h' hJ (fun b o _ b2 e=>sb.extBut b o b2 e) ⟨_,eS'⟩ ⟨_,hoI⟩
  show wpAny _ A.in1 (tryCatch (holding [v] (call (.ref q) [v])) _>>=_) _ _ _
  refine wpAny_bind (wpAny_tryCatch (wpAny_holding (wpAny_mono (step ks _ v (by omega) (by rw [kn];exact hv) J1) (fun x s2 he=>?_) fun _ _ hF=>hF.elim)))
  obtain ⟨J2,⟨t2,rfl⟩,kS,kI⟩:=he
  rw [eS'] at kS
  have hit2:s2.heap.IsListIter I l (j+1+1):=by
   obtain ⟨o,e1,e2⟩:=hit'
   exact ⟨o,kI.trans e1,e2⟩
  have hoI2:s2.heap.get? I=some oI:=kI.trans hoI
  rw [kn]
  show wpAny _ A.in1 (tryCatch (holding [v,.int (kz.getD (j+1) 0) t2] (richCompare .Gt (.int (kz.getD (j+1) 0) t2) (.int (kz.getD (argBest (gtB kz) j) 0) tb)>>=_)) _>>=_) _ _ _
  refine wpAny_bind (wpAny_tryCatch (wpAny_holding (wpAny_bind (CmpOf.ints_gt (prog:=prog) (w:=w) (A:=A.in1) (P:=fun i v=>∃ t,v=.int (kz.getD i 0) t) (fun i=>kz.getD i 0) (fun i v h=>h) (j+1) (argBest (gtB kz) j) _ _ _ _ _ ⟨t2,rfl⟩ ⟨tb,rfl⟩ ?_))))
  refine wpAny_bind (wpAny_holding (wpAny_truthy_bool ?_))
  refine wpAny_bind (wpAny_letGo (wpAny_pure ?_))
  have kn2:(ks++[Value.int (kz.getD ks.length 0) t2]).length=j+1+1:=by simp [kn]
  by_cases hb:kz.getD (j+1) 0 > kz.getD (argBest (gtB kz) j) 0
  ·have ab:argBest (gtB kz) (j+1)=j+1:=by show (if gtB kz (j+1) (argBest (gtB kz) j)=true then _ else _)=_;rw [if_pos (decide_eq_true hb)]
   simp only [hb,decide_true,if_true]
   apply wpAny_bind
   refine wpAny_updateSeq kS rfl (wpAny_bind (wpAny_letGo ?_))
   rw [nm]
   have gS:=Heap.get?_update_self (Obj.mapSeq fun _=>#[v,.int (kz.getD (j+1) 0) t2]) kS rfl
   have gI:(s2.heap.update S (Obj.mapSeq fun _=>#[v,.int (kz.getD (j+1) 0) t2])).get? I=some oI:=(Heap.get?_update_other _ _ hSI).trans hoI2
   refine wpAny_pure ⟨plainId_quiet F.plain_max_loop _,ih (j+1) _ _ v t2 _ (by omega) kn2 (mono _ s2 _ J2 (fun b o b1 _ e=>(Heap.get?_update_other _ _ (Ne.symm b1)).trans e) ⟨_,gS⟩ ⟨_,gI⟩) ?_ (by rw [ab];exact hv) (by rw [ab];exact gS)⟩
   obtain ⟨o,e1,e2⟩:=hit2
   exact ⟨o,(Heap.get?_update_other _ _ hSI).trans e1,e2⟩
  ·have ab:argBest (gtB kz) (j+1)=argBest (gtB kz) j:=by show (if gtB kz (j+1) (argBest (gtB kz) j)=true then _ else _)=_;rw [if_neg (by simpa using hb)]
   simp only [hb,decide_false,Bool.false_eq_true,if_false]
   apply wpAny_bind;apply wpAny_letGo
   rw [nm]
   exact wpAny_pure ⟨plainId_quiet F.plain_max_loop _,ih (j+1) s2 _ vb tb c (by omega) kn2 J2 hit2 (by rw [ab];exact hvb) (by rw [ab];exact kS)⟩
theorem yE (a k v:Value):argsOk "max" ⟨[a],[(Str.ofString "key", k),(Str.ofString "default", v)]⟩:=by unfold argsOk;kernel_rfl
theorem yC (k dv:Value):Builtin.Builtins.bindParams "max" ["key", "default"] 0 ⟨[],[(Str.ofString "key", k),(Str.ofString "default", dv)]⟩=pure [some k,some dv]:=by kernel_rfl
theorem a5d {q l:Addr} {n:Nat} {P:Nat→Value→Prop} {kz:List Int} {Q:Value→Shared→Prop} {dv:Value} (hh:A.handled=none) {vs0:List Value} (hl:s.heap.IsList l vs0.toArray)
  (h:∀ I S h0,s.heap.objs.size≤I→s.heap.objs.size≤S→S≠I→(∀ b o,s.heap.get? b=some o→h0.get? b=some o)→(∃ o,h0.get? I=some o)→(∃ o,h0.get? S=some o) →
   ∃ J:List Value→Shared→Prop,J [] { s with heap:=h0 }∧(∀ ks s,J ks s→∃ vs:List Value,vs.length=n∧s.heap.IsList l vs.toArray∧∀ i v,vs[i]?=some v→P i v) ∧
   (∀ ks s h',J ks s→(∀ b o,b≠S→b≠I→s.heap.get? b=some o→h'.get? b=some o)→(∃ o,h'.get? S=some o)→(∃ o,h'.get? I=some o)→J ks { s with heap:=h' }) ∧
   (∀ ks s x,ks.length<n→P ks.length x→J ks s→wpAny (model prog w) A.in1 (call (.ref q) [x]) (fun k s'=>J (ks++[k]) s'∧(∃ t,k=.int (kz.getD ks.length 0) t)∧s'.heap.get? S=s.heap.get? S∧s'.heap.get? I=s.heap.get? I) (fun _ _=>False) s) ∧
   (∀ v ks s h',0<n→P (argBest (gtB kz) (n - 1)) v→J ks s→(∀ b o,b≠S→b≠I→s.heap.get? b=some o→h'.get? b=some o)→Q v { s with heap:=h' }) ∧
   (∀ s h',n=0→J [] s→(∀ b o,b≠S→b≠I→s.heap.get? b=some o→h'.get? b=some o)→Q dv { s with heap:=h' })) :
  wpAny (model prog w) A (call (.builtin "max") [.ref l] [(Str.ofString "key", .ref q),(Str.ofString "default", dv)]) Q E s:=by
 have nm:(toString "max" ++ toString ".loop" : String) = "max.loop":=by decide
 refine kmk_tree F.kind_max F.plain_max F.entry_max (yE _ _ _) ?_
 show wpAny _ A.in1 (Builtin.Builtins.bindParams "max" ["key", "default"] 0 ⟨[],[(Str.ofString "key", .ref q),(Str.ofString "default", dv)]⟩>>=_) _ _ s
 refine wpAny_bind (wpAny_of_eq (yC _ dv) ?_)
 refine wpAny_bind (wpAny_pure ?_)
 refine wpAny_bind (wpAny_pyIter_list hl ?_)
 refine wpAny_bind (wpAny_newObj_type ?_)
 rw [nm]
 have hS:(s.heap.push { cls:=.type "list_iterator", data:=.fields #[.ref l,.int 0 0] }).objs.size=s.heap.objs.size+1:=size_push' ..
 have hSI:(s.heap.push { cls:=.type "list_iterator", data:=.fields #[.ref l,.int 0 0] }).objs.size≠s.heap.objs.size:=by rw [hS];exact Nat.ne_of_gt (Nat.lt_succ_self _)
 have gI:((s.heap.push { cls:=.type "list_iterator", data:=.fields #[.ref l,.int 0 0] }).push (iL #[] 0)).get? s.heap.objs.size=some { cls:=.type "list_iterator", data:=.fields #[.ref l,.int 0 0] }:=
  Heap.get?_push_of_some _ (Heap.get?_push_size _ rfl)
 have gS:((s.heap.push { cls:=.type "list_iterator", data:=.fields #[.ref l,.int 0 0] }).push (iL #[] 0)).get? (s.heap.push { cls:=.type "list_iterator", data:=.fields #[.ref l,.int 0 0] }).objs.size=some (iL #[] 0):=Heap.get?_push_size _ rfl
 obtain ⟨J,J0,lst,mono,step,fin,fin0⟩:=h s.heap.objs.size (s.heap.push { cls:=.type "list_iterator", data:=.fields #[.ref l,.int 0 0] }).objs.size ((s.heap.push { cls:=.type "list_iterator", data:=.fields #[.ref l,.int 0 0] }).push (iL #[] 0)) (Nat.le_refl _) (by rw [hS];exact Nat.le_succ _) hSI (fun b o e=>Heap.get?_push_of_some _ (Heap.get?_push_of_some _ e)) ⟨_,gI⟩ ⟨_,gS⟩
 generalize (s.heap.push { cls:=.type "list_iterator", data:=.fields #[.ref l,.int 0 0] }).objs.size=S at *
 generalize s.heap.objs.size=I at *
 refine wpAny_pure ⟨plainId_quiet F.plain_max_loop _,?_⟩
 have hit:((s.heap.push { cls:=.type "list_iterator", data:=.fields #[.ref l,.int 0 0] }).push (iL #[] 0)).IsListIter I l 0:=⟨_,gI,rfl,rfl⟩
 generalize (s.heap.push { cls:=.type "list_iterator", data:=.fields #[.ref l,.int 0 0] }).push (iL #[] 0)=h0 at *
 apply codeAny_builtin F.entry_max_loop
 rw [Around.under_plainId F.plain_max_loop _]
 show wpAny _ A.in1 (seqItems? (.ref S)>>=_) _ _ _
 apply wpAny_bind;apply wpAny_seqItems gS rfl
 show wpAny _ A.in1 (tryCatch (pyNext (.ref I)) _>>=_) _ _ _
 apply wpAny_bind;apply wpAny_tryCatch
 obtain ⟨vs,ln,hls,hP⟩:=lst _ _ J0
 cases hvs:vs with
 | nil=>
  refine wpAny_pyNext_list_end (A:=A.in1) hh hit hls (by simp [hvs]) fun h' ex=>?_
  show wpAny _ A.in1 (rule _>>=_) _ _ _
  exact wpAny_bind (wpAny_rule (wpAny_pure (fin0 _ h' (by rw [←ln,hvs];rfl) J0 fun b o b1 b2 e=>ex b o b2 e)))
 | cons v r=>
  have hv0:vs[0]?=some v:=by rw [hvs];rfl
  have hv:P 0 v:=hP _ _ hv0
  have pos:0<n:=by rw [←ln,hvs];simp
  refine wpAny_pyNext_list_item (A:=A.in1) hit hls (x:=v) (by simpa using hv0) fun h' hit' sb=>?_
  have eS':h'.get? S=_:=(sb.extBut S _ hSI gS)
  obtain ⟨oI,hoI,_⟩:=id hit'
  have J1:=mono _ _ h' J0 (fun b o _ b2 e=>sb.extBut b o b2 e) ⟨_,eS'⟩ ⟨_,hoI⟩
  show wpAny _ A.in1 (tryCatch (holding [v] (call (.ref q) [v])) _>>=_) _ _ _
  refine wpAny_bind (wpAny_tryCatch (wpAny_holding (wpAny_mono (step [] _ v pos hv J1) (fun x s2 he=>?_) fun _ _ hF=>hF.elim)))
  obtain ⟨J2,⟨t2,rfl⟩,kS,kI⟩:=he
  rw [eS'] at kS
  have hoI2:s2.heap.get? I=some oI:=kI.trans hoI
  show wpAny _ A.in1 (updateSeq S (fun _=>#[v,.int (kz.getD 0 0) t2])>>=_) _ _ _
  apply wpAny_bind
  refine wpAny_updateSeq kS rfl ?_
  rw [nm]
  have gS2:=Heap.get?_update_self (Obj.mapSeq fun _=>#[v,.int (kz.getD 0 0) t2]) kS rfl
  have gI2:(s2.heap.update S (Obj.mapSeq fun _=>#[v,.int (kz.getD 0 0) t2])).get? I=some oI:=(Heap.get?_update_other _ _ hSI).trans hoI2
  refine wpAny_pure ⟨plainId_quiet F.plain_max_loop _,a0D (J:=J) (kz:=kz) hh hSI lst mono step (fun v ks s h' a b c=>fin v ks s h' pos a b c) (n - 1) 0 _ _ v t2 _ (by omega) rfl (mono _ s2 _ J2 (fun b o b1 _ e=>(Heap.get?_update_other _ _ (Ne.symm b1)).trans e) ⟨_,gS2⟩ ⟨_,gI2⟩) ?_ hv gS2⟩
  obtain ⟨o,e1,e2⟩:=hit'
  exact ⟨o,(Heap.get?_update_other _ _ hSI).trans (kI.trans e1),e2⟩
end
noncomputable def zB (fe:EF) (ds:List PyData) (dd:PyData):Option PyData:=match jE fe ds with
 | some ks=>(match dJ intD ks with
  | some kz=>some (if ds.length=0 then dd else ds.getD (argBest (gtB kz) (ds.length - 1)) .none)
  | none=>none)
 | none=>none
noncomputable def zA (fa fe fd:EF):EF:=fun ρ=>match fa ρ with
 | some (.ok (.list ds))=>(match fd ρ with
  | some (.ok dd)=>lft (zB fe ds dd)
  | _=>none)
 | _=>none
section
variable {X:Cx} {pins:List (Addr×Obj)} {σ:St} {H H0 G₀ G:Hp} {s:Shared} {ρ:List Ent}
theorem jG {h':Heap} {ch:List Addr} {s0:Shared} {H0:Hp} (I0:Inv X pins σ H0 s0) (I:Inv X pins σ H s) (hch:∀ b∈ch,s0.heap.objs.size≤b∧H b=none) (same:∀ b o,b∉ch→s.heap.get? b=some o→h'.get? b=some o) :
  Inv X pins σ H { s with heap:=h' }:=by
 have nt:∀ b u,H b=some u→b∉ch:=fun b u e z=>by rw [(hch b z).2] at e;cases e
 have lt:∀ b∈ch,∀ d,d<s0.heap.objs.size→d≠b:=fun b hb d hd z=>absurd (hch b hb).1 (by rw [←z];exact Nat.not_le_of_lt hd)
 refine I.step (ch:=ch) (g':=s.gens) (d':=s.drawn) (t':=s.toks) (h':=h') (fun b hb=>⟨.inr (Nat.le_trans I0.sz (hch b hb).1),fun z=>lt b hb _ I0.lt z.symm,fun x c e=>lt b hb c (by obtain ⟨v,q⟩:=I0.cell x c e;exact q.lt),fun p hp=>lt b hb p.1 (Heap.lt_size (I0.pin p hp).1)⟩)
  (fun b o _ _ hc e n=>same b o hc e) (fun b o _ _ hc e n=>⟨o.slots,same b o hc e⟩) (fun b o _ _ n=>n) (fun b o hc e=>⟨o,same b o hc e⟩) (fun _ _ e=>e) (fun _ _ _ e=>e) (fun b ps e=>⟨#[],by rw [e];simp⟩) (fun m ⟨o,es,ep,e,r⟩=>⟨o,es,ep,same _ _ (fun z=>lt _ z _ I0.lt rfl) e,r⟩)
  (fun b u e=>(I.hok b u e).stay (fun b' u' hb' e'=>same b' _ ?_ e') (fun _ z=>z) fun _ _ z=>z) I.bare
 rcases hb' with rfl | z
 ·exact nt _ _ e
 ·exact nt _ _ z
theorem a5C {k:Nat} {x y:Str} {c P:Addr} {params:Arguments} {body a b:Expr} {scope:Scope} {lp kp kp2 p pos:Pos} {fa fe fb:EF} (hx:x∈cN) (ht:PySem.W.tabIn X.K x=some (c,P)) (hcode:X.env.code=.ref c)
  (hq:X.env.qual ++ "<lambda>" = lamQ x) (C:PySem.W.codeHdIn X.K c P=true) (M:BM X.mg X.base) (hc0:X.calm=true) (hr:Room (k+2) X.A) (hm:X.mg "max" = none) (ha:DE X a fa) (hb:DE X b fb) (S_:FnScope [y] [y] scope)
  (hbody:∀ (f c:Addr) (A:Around) (outer:List Env) (s:Shared) (H:Hp),Room k (A.deeper (envOfC (lamQ x) scope s.heap.objs.size f (.ref c)))→DE (fcx X.prog X.w X.K X.mg X.base [y] (lamQ x) scope f (.ref c) A outer s H E0) body fe)
  (hbind:∀ (pm ct u:Value) (c:Addr),bindArgs (PySem.W.kla_fn "<lambda>" (lamQ x) params body scope [] pm (.ref c) ct) ⟨[u],[]⟩=pure [(y,u)]:=by intros;rfl)
  (hdef:defaultsOf params X.env=([],[]):=by rfl) (hcl:closureFor scope X.env=pure []:=by rfl)
  (he:starEach [a] X.env=(false,eval a X.env)::starEach [] X.env:=by rfl)
  (he':backTo pos (starEach [a] X.env)=(false,eval a X.env)::backTo pos (starEach [] X.env):=by rfl) (hpl:(backTo pos (starEach [a] X.env)).any (·.1)=false:=by rfl)
  (hk1:(backToKw pos (keywordEach [⟨some "key", .Lambda params body scope lp,kp⟩,⟨some "default", b,kp2⟩] X.env)).filterMap (·.1)=[Str.ofString "key", Str.ofString "default"]:=by rfl) (hg:Gl X "max":=by rfl) :
  DE X (.Call (.Name "max" p) [a] [⟨some "key", .Lambda params body scope lp,kp⟩,⟨some "default", b,kp2⟩] pos) (zA fa fe fb):=⟨fun pins s σ H Q I ⟨ρ,r,H0,G₀,G,ef,R,q⟩=>by
 unfold zA at ef
 refine wpAny_Call_Name_kw (iG I hg hm boot_max ?_ (by decide) (by decide))
 split at ef
 rotate_left
 ·cases ef
 rename_i ds e1
 split at ef
 rotate_left
 ·cases ef
 rename_i dd e2
 obtain ⟨out0,e3,rfl⟩:=bI ef
 unfold zB at e3
 split at e3
 rotate_left
 ·cases e3
 rename_i kds ek
 split at e3
 rotate_left
 ·cases e3
 rename_i kz hz
 cases (Option.some.inj e3)
 have kl:=lV ek
 have hkd:kds=kz.map .int:=dX (g:=.int) (fun d a q=>kN q) hz
 have kl2:kz.length=kds.length:=by rw [hkd,List.length_map]
 refine callWith_kw (thn ((dD (ha.pd e1) eN he).run H0 G₀ G pos pins s σ H (fun vs H'=>∃ G',Grow G H G' H'∧RepAll X.K G' vs [.list ds]) I R fun vs G' H' g r=>⟨G',g,r⟩) fun us s1 ⟨vs,H1,I1,r1,G1,g1,w1⟩=>?_) he' hpl
 show wpAny _ _ (evalAll ((do let v ←eval (.Lambda params body scope lp) X.env;standAt pos;pure v)::((backToKw pos (keywordEach [⟨some "default", b,kp2⟩] X.env)).map (·.2)))) _ _ s1
 refine wpAny_evalAll_cons (wpAny_bind (uZ hx ht hcode hq C M hdef hcl I1 (R.more g1) fun f c' ct pm H2 s2 I2 g2 fo Hf sf hc'=>wpAny_bind (wpAny_standAt (wpAny_pure ?_))))
 have nf:f∉frs X.stack:=jM I1 sf
 have I2p:Inv X (pins++[(f,a5g (lamQ x) params body scope pm c' ct)]) σ H2 s2:=I2.pins_of fun p hp=>by
  rcases List.mem_append.mp hp with hp | hp
  ·exact I2.pin p (List.mem_append_right _ hp)
  ·obtain rfl:=List.mem_singleton.mp hp
   exact ⟨fo,Hf,fun z=>absurd I1.lt (by rw [←z];exact Nat.not_lt_of_le sf),fun z=>I1.nofs sf z,fun v=>nofun⟩
 refine thn (a4w (nm:=some "default") (kpos:=kp2) (hb.pd e2).pe pk_nil pos _ s2 σ H2 (fun zs H'=>∃ G',Grow G1 H2 G' H'∧RepAll X.K G' zs [dd]) I2p ⟨H0,G₀,G1,(R.more g1).more g2,fun v G' H' g r=>⟨G',g,.cons r .nil⟩⟩) fun ws s3 ⟨zs,H3,I3p,r3,G3,g3,w3⟩=>?_
 obtain ⟨fo3,Hf3,_⟩:=I3p.pin (f,a5g (lamQ x) params body scope pm c' ct) (by simp)
 have I3:Inv X pins σ H3 s3:=I3p.unpinned
 rw [hk1]
 cases w1 with | cons wa wn=>
 cases wn
 cases w3 with | cons wb wn=>
 cases wn
 cases wa with | @list l ivs _ hq ra=>
 obtain ⟨u,rfl,ru⟩:=vals1 r1
 cases ru
 obtain ⟨dv,rfl,rd⟩:=vals1 r3
 obtain ⟨its,rv,pl,hz⟩:=I3.list ((g3.gg.trans g3.sub).seq (g2.gg.seq hq))
 have l1:=ra.len
 have l2:=rv.length
 have tb3:fI X.K G3 H3:=(((R.more g1).more g2).more g3).tab
 have hc3:H3 c'=some (cdO c' (lamQ x)):=g3.hh.keep c' _ hc' (by unfold cdO;nofun)
 refine a5d (n:=its.length) (P:=fun i v=>∃ iv,ivs[i]?=some iv∧RelV iv v) (kz:=kz) (I3.ok.hd hc0) pl.isList fun It S h0 gI gS hSI kp' hI hS=>⟨KJ X pins σ G3 H3 0 f c' It S (lamQ x) params body scope pm ct kds,?start,?lst,?mono,?step,?fin,?fin0⟩
 case start=>exact ⟨⟨G3,H3,[],I3.kept (t':=s3.toks) kp',.refl g3.sub,tb3,.nil,.nil,Hf3,I3.hok.fresh gI,I3.hok.fresh gS⟩,kp' _ _ fo3,hI,hS⟩
 case lst=>
  intro ks s4 ⟨⟨G4,H4,kvs,I4,g4,t4,w4,v4,f4,a4,k4⟩,fo4,oa4,ok4⟩
  obtain ⟨its4,rv4,pl4,hz4⟩:=I4.list (((g3.gg.trans g4.gg).trans g4.sub).seq (g2.gg.seq hq))
  refine ⟨its4,by rw [←rv4.length,l2],pl4.isList,fun i v e=>?_⟩
  have hi:i<ivs.length:=by rw [rv4.length];exact (List.getElem?_eq_some_iff.mp e).1
  obtain ⟨u',eu,ru'⟩:=rv4.get (List.getElem?_eq_getElem hi)
  rw [e] at eu;cases eu
  exact ⟨_,List.getElem?_eq_getElem hi,ru'⟩
 case mono=>
  intro ks s4 h4 ⟨⟨G4,H4,kvs,I4,g4,t4,w4,v4,f4,a4,k4⟩,fo4,oa4,ok4⟩ same oS oI
  have fk:f≠S:=fun z=>absurd (Heap.lt_size fo3) (by rw [z];exact Nat.not_lt_of_le gS)
  have fi:f≠It:=fun z=>absurd (Heap.lt_size fo3) (by rw [z];exact Nat.not_lt_of_le gI)
  refine ⟨⟨G4,H4,kvs,jG (ch:=[S,It]) I3 I4 (fun b hb=>?_) (fun b o hb e=>same b o (fun z=>hb (by simp [z])) (fun z=>hb (by simp [z])) e),g4,t4,w4,v4,f4,a4,k4⟩,same f _ fk fi fo4,oI,oS⟩
  rcases List.mem_cons.mp hb with rfl | hb
  ·exact ⟨gS,k4⟩
  ·obtain rfl:=List.mem_singleton.mp hb
   exact ⟨gI,a4⟩
 case step=>
  intro ks s4 xv hi ⟨iv,eiv,rxv⟩ ⟨⟨G4,H4,kvs,I4,g4,t4,w4,v4,f4,a4,k4⟩,fo4,oa4,ok4⟩
  have hdi:ds[ks.length]?=some (ds[ks.length]'(by omega)):=List.getElem?_eq_getElem (by omega)
  obtain ⟨kd,ekd,efe⟩:=oR ek hdi
  obtain ⟨iv',eiv',riv⟩:=ra.get hdi
  rw [eiv] at eiv';cases eiv'
  have cr:s4.heap.CodeRec (.ref c') (lamQ x):=(I4.hok c' _ (g4.hh.keep c' _ hc3 (by unfold cdO;nofun))).1
  have r3:Room (k+1) X.A.in1:=hr.in1
  have na:It∉frs X.stack:=jM I3 gI
  have nk:S∉frs X.stack:=jM I3 gS
  refine wpAny_call (codeAny_mono (vA r3 I4.env0.in1 fo4 cr S_ (hbind pm ct xv c') (hbody f c' _ _ _ _ (r3.deeper _)) ⟨g4.sub,t4⟩ (riv.mono (g2.gg.trans (g3.gg.trans g4.gg))) rxv efe) fun r s5 h5=>?_)
  cases r with
  | error e=>exact False.elim h5
  | ok fl=>
   cases fl with
   | next=>exact False.elim h5
   | brk=>exact False.elim h5
   | cont=>exact False.elim h5
   | ret u5=>
    obtain ⟨v5,H5,os5,bare5,un5,hok5,rv5,G5,g5,w5⟩:=h5
    obtain ⟨_,_,I5,_,rfl,rfl⟩:=I4.after (Q:=fun v H=>v=v5∧H=H5) (u:=u5) (s':=s5) ⟨v5,H5,os5,bare5,un5,hok5,rv5,rfl,rfl⟩
    obtain ⟨oo,eoa⟩:=oa4
    obtain ⟨ok',eok⟩:=ok4
    have keepA:=un5.keep It oo eoa a4 na (by simp)
    have keepK:=un5.keep S ok' eok k4 nk (by simp)
    refine ⟨⟨⟨G5,_,kvs++[_],I5,g4.trans g5,t4.more g5,?_,Paired.snoc v4 rv5,un5.free f _ fo4 f4 (by simp),un5.free It _ eoa a4 (by simp),un5.free S _ eok k4 (by simp)⟩,un5.keep f _ fo4 f4 nf (by simp),⟨oo,keepA⟩,⟨ok',keepK⟩⟩,?_,keepK.trans eok.symm,keepA.trans eoa.symm⟩
    ·rw [List.length_append,List.length_singleton,List.take_succ,ekd]
     exact (w4.mono g5.gg).append (.cons w5 .nil)
    ·have ekz:kd=.int (kz.getD ks.length 0):=by
      rw [hkd,List.getElem?_map] at ekd
      rw [List.getD_eq_getElem?_getD]
      cases hkz:kz[ks.length]? with
      | none=>rw [hkz] at ekd;cases ekd
      | some z=>rw [hkz] at ekd;cases ekd;rfl
     subst ekz
     cases w5
     exact rv5
 case fin=>
  intro v ks s4 h4 pos ⟨iv,eiv,rxv⟩ ⟨⟨G4,H4,kvs,I4,g4,t4,w4,v4,f4,a4,k4⟩,fo4,oa4,ok4⟩ same
  have I5:Inv X pins σ H4 { s4 with heap:=h4 }:=jG (ch:=[S,It]) I3 I4 (fun b hb=>by
   rcases List.mem_cons.mp hb with rfl | hb
   ·exact ⟨gS,k4⟩
   ·obtain rfl:=List.mem_singleton.mp hb
    exact ⟨gI,a4⟩) (fun b o hb e=>same b o (fun z=>hb (by simp [z])) (fun z=>hb (by simp [z])) e)
  have di:argBest (gtB kz) (ds.length - 1)<ds.length:=by
   have:=(argBest_gt (fun i=>kz.getD i 0) (ds.length - 1)).1
   exact Nat.lt_of_le_of_lt this (by omega)
  have hdi:=List.getElem?_eq_getElem di
  obtain ⟨iv',eiv',riv⟩:=ra.get hdi
  rw [show its.length - 1=ds.length - 1 by omega] at eiv
  rw [eiv] at eiv';cases eiv'
  refine ⟨iv,H4,I5,rxv,q iv G4 H4 ((g1.trans g2).trans (g3.trans g4)) ?_⟩
  rw [if_neg (by omega),List.getD_eq_getElem?_getD,hdi]
  exact riv.mono (g2.gg.trans (g3.gg.trans g4.gg))
 case fin0=>
  intro s4 h4 n0 ⟨⟨G4,H4,kvs,I4,g4,t4,w4,v4,f4,a4,k4⟩,fo4,oa4,ok4⟩ same
  have I5:Inv X pins σ H4 { s4 with heap:=h4 }:=jG (ch:=[S,It]) I3 I4 (fun b hb=>by
   rcases List.mem_cons.mp hb with rfl | hb
   ·exact ⟨gS,k4⟩
   ·obtain rfl:=List.mem_singleton.mp hb
    exact ⟨gI,a4⟩) (fun b o hb e=>same b o (fun z=>hb (by simp [z])) (fun z=>hb (by simp [z])) e)
  refine ⟨_,H4,I5,rd,q _ G4 H4 ((g1.trans g2).trans (g3.trans g4)) ?_⟩
  rw [if_pos (by omega)]
  exact wb.mono g4.gg⟩
end
end L2.L3
namespace L2.SX
open PySem PyProof.Rows
theorem sub_dict_set:isSubtype (.type "dict") (.type "set")=pure false:=by rw [isSubtype_type];kernel_rfl
theorem mT:isSubtype (.type "dict") (.type "frozenset")=pure false:=by rw [isSubtype_type];kernel_rfl
section
variable {prog:Program} {w:World} {A:Around} {E:Value→Shared→Prop} {s:Shared} {K:Type} [DecidableEq K] {knd:KeyKind prog w K}
theorem a2D (m f mv:Nat) (l p:Bool):SetTable.laid m f mv l p #[]=some ({ mask:=m,place:=#[],dummies:=#[],finger:=f,led:=l,moves:=mv,plain:=p },#[]):=by
 unfold SetTable.laid SetTable.layClean
 have e:(List.range (m+1)).filterMap (fun j=>((Array.replicate (m+1) (none:Option Nat)).getD j none).map (j,·))=[]:=by
  rw [List.filterMap_eq_nil_iff]
  intro j hj
  have:(Array.replicate (m+1) (none:Option Nat)).getD j none=none:=by simp [Array.getD]
  rw [this];rfl
 simp only [Array.foldl_empty,Option.map_some,Option.bind_eq_bind,Option.bind_some,e]
 rfl
theorem wE (n:Nat):∀ (f z:Nat),z≤max 8 (2*n)→SetTable.sizeAbove.go n f z≤max 8 (2*n)
 | 0,z,h=>h
 | f+1,z,h=>by
  unfold SetTable.sizeAbove.go
  split
  ·exact wE n f (z*2) (by omega)
  ·exact h
theorem a3U (n:Nat):SetTable.sizeAbove n≤max 8 (2*n):=wE n 64 8 (by omega)
theorem a4p {a:Addr} {more:Nat} {led:Bool} {Q:Unit→Shared→Prop} (g:Good knd s.heap a [] led) (hm:more≤1000)
  (h:∀ h',Heap.SameBut a s.heap h'→Good knd h' a [] led→Q () { s with heap:=h' }):wpAny (model prog w) A (setRoomFor a more) Q E s:=by
 obtain ⟨o,es,ep,t,ho,hex,hd,hel,hmem,hn,hf,hT⟩:=g.ex
 have he:es=#[]:=Array.eq_empty_of_size_eq_zero (by rw [hn];rfl)
 subst he
 unfold setRoomFor
 refine wpAny_bind (wpAny_setState_of ho hd hf ?_)
 cases hr:t.roomFor more with
 | none=>exact wpAny_pure (h s.heap (Heap.SameBut.refl a s.heap) g)
 | some wanted=>
  dsimp only
  unfold setRelay
  refine wpAny_bind (wpAny_setState_of ho hd hf ?_)
  dsimp only
  have hp:t.place.size=0:=by
   have:=hf
   unfold SetTable.fits at this
   rw [Bool.and_eq_true,beq_iff_eq] at this
   exact this.1
  have hw:wanted≤2000:=by
   unfold SetTable.roomFor at hr
   split at hr
   ·cases hr;rw [hp];omega
   ·cases hr
  have hb:=a3U wanted
  have hs:¬SetTable.sizeAbove wanted > sizeLine:=by rw [sizeLine_eq];omega
  rw [if_neg hs]
  have er:t.relaid (Array.map (fun x:Int×Value=>x.fst) #[]) wanted=some ({ mask:=SetTable.sizeAbove wanted - 1,place:=#[],dummies:=#[],finger:=t.finger,led:=t.led,moves:=t.movedTo (SetTable.sizeAbove wanted - 1),plain:=t.plain },#[]):=by
   unfold SetTable.relaid
   rw [Array.map_empty]
   exact a2D _ _ _ _ _
  rw [er]
  generalize hT':({ mask:=SetTable.sizeAbove wanted - 1,place:=#[],dummies:=#[],finger:=t.finger,led:=t.led,moves:=t.movedTo (SetTable.sizeAbove wanted - 1),plain:=t.plain }:SetTable)=T
  refine wpAny_bind (wpAny_of_eq (a:=(#[],T)) rfl ?_)
  refine wpAny_storeSet_of ho hd ?_ (Nat.zero_le _)
  have st:=stored (es':=#[]) (t':=T) ho hd
  refine h _ ?_ ⟨⟨_,#[],ep+1,T,st,⟨hex.1,hex.2.1,hex.2.2⟩,rfl,fun e he=>by simp at he,fun k=>by simp,rfl,?_,?_⟩,List.nodup_nil,by show 0<scanBound;decide⟩
  ·exact Heap.SameBut.update s.heap a (Obj.putSet #[] T)
  ·rw [←hT'];simp [SetTable.fits,SetTable.fill]
  ·rw [←hT'];exact ⟨hT.led,fun _=>by simp [pP]⟩
theorem set_ofD {d:Addr} {kvs:List (K×Value)} {Q:Value→Shared→Prop} (hd:s.heap.DictOf knd d kvs) (hS:(d==sysModules)=false) (hsc:∀ k v,knd.is k v=true→v.scannable=true) (hb:kvs.length≤1000)
  (h:∀ (h':Heap) (tk:Nat),Good knd h' s.heap.objs.size (kvs.map (·.1)) (ledOf w)→(∀ b o,b<s.heap.objs.size→s.heap.get? b=some o→h'.get? b=some o)→Q (.ref s.heap.objs.size) { s with heap:=h',toks:=tk }) :
  wpAny (model prog w) A (call (.type "set") [.ref d]) Q E s:=by
 obtain ⟨c,tl,hmro⟩:=F.called_set.mro
 have hmade:=F.called_set.made
 have hsub:=F.called_set.sub
 refine wpAny_call (codeAny_of_tree ?_)
 show wpAny _ _ (callAny (.type "set") ⟨[.ref d],[]⟩) _ _ _
 refine wpAny_pure ⟨Code.quiet_builtin _ (by decide +kernel),codeAny_builtin F.entry_type_call ?_⟩
 rw [Around.under_plain (weight_type_call_type "set" [.ref d] []) rfl]
 have n1:=F.called_set.notType
 have n2:=F.called_set.canCreate
 have n3:=F.typeCall_set_1 (.ref d)
 repeat (any_goals (first | assumption | wp_step))
 refine codeAny_mono (new_one (.ref d) (E:=E) (Q1:=fun ob s1=>ob=.ref s.heap.objs.size∧s1={ s with heap:=s.heap.push (bN w) }) ⟨rfl,rfl⟩) fun r s1 hr=>?_
 cases r with
 | error e=>exact hr
 | ok fl=>
  cases fl with
  | ret ob=>
   obtain ⟨rfl,rfl⟩:=hr
   have hS':(s.heap.push (bN w)).get? s.heap.objs.size=some (bN w):=Heap.get?_push_size _ rfl
   have hT:Shared.TypeIs { s with heap:=s.heap.push (bN w) } (.ref s.heap.objs.size) "set" := ⟨_,hS',rfl⟩
   have k1:=F.called_set.init.lookup
   have k2:=F.called_set.init.bind (.ref s.heap.objs.size)
   repeat (any_goals (first | assumption | wp_step))
   refine codeAny_mono (codeAny_call_builtin (R:=wants (fun r s2=>r=.none∧∃ h' tk,s2={ s with heap:=h',toks:=tk }∧Good knd h' s.heap.objs.size (kvs.map (·.1)) (ledOf w)∧∀ b o,b<s.heap.objs.size→s.heap.get? b=some o→h'.get? b=some o) E)
    F.called_set.init.plain F.entry_set_init (check_set_init_1 hT ?_)) fun r2 s2 hr2=>?_
   ·have hd1:(s.heap.push (bN w)).DictOf knd d kvs:=hd.push _
    have hty:Shared.TypeIs { s with heap:=s.heap.push (bN w) } (.ref d) "dict" := Heap.DictOf.typeIs (s:={ s with heap:=s.heap.push (bN w) }) hd1
    obtain ⟨od,es,ep,g0,hx,hdd,hk,hp,nd⟩:=hd1
    have s1:=sub_dict_set
    have s2:=mT
    unfold Builtin.«set.__init__» noKeywords Builtin.Frozenset.updateFrom
    generalize hRF:setRoomFor=RF
    wp_walk
    rw [hdd]
    refine wpAny_pure ?_
    have hes:es.size=kvs.length:=by rw [←Array.length_toList];exact hp.length
    have lt:d<s.heap.objs.size:=by
     obtain ⟨o',_,_,e',_⟩:=hd
     exact Heap.lt_size e'
    have hda:d≠s.heap.objs.size:=Nat.ne_of_lt lt
    refine wpAny_bind (wpAny_dictEntries g0 hdd ?_)
    rw [←hRF]
    refine wpAny_bind (a4p (knd:=knd) (led:=ledOf w) (vI s.heap) (by omega) fun h1 sb1 g1=>?_)
    have gd1:h1.get? d=some od:=(sb1.2 d hda).trans g0
    refine wpAny_bind (wpAny_dictEntries gd1 hdd ?_)
    refine wpAny_bind ?_
    rw [Std.Legacy.Range.forIn_eq_forIn_range']
    have sz:Std.Legacy.Range.size [:es.size]=es.size:=by simp [Std.Legacy.Range.size]
    rw [sz]
    show wpAny _ _ (forIn (List.range' 0 es.size 1) _ _) _ _ _
    refine wpAny_forIn_list _ (fun rest _ s'=>∃ i h',i≤es.size∧rest=List.range' i (es.size - i) 1∧s'={ s with heap:=h' }∧Heap.SameBut s.heap.objs.size (s.heap.push (bN w)) h'∧Good knd h' s.heap.objs.size ((kvs.take i).map (·.1)) (ledOf w)) _ ?turn ?fin _ _ ⟨0,h1,Nat.zero_le _,rfl,rfl,sb1,g1⟩
    case turn=>
     rintro x rest _ _ ⟨i,h',hi,er,rfl,sb,g⟩
     have hlt:i<es.size:=by
      rcases Nat.lt_or_ge i es.size with z | z
      ·exact z
      ·rw [Nat.sub_eq_zero_of_le z] at er;cases er
     rw [show es.size - i=(es.size - (i+1))+1 by omega,List.range'_succ] at er
     obtain ⟨rfl,rfl⟩:=List.cons.inj er
     have gd:h'.get? d=some od:=(sb.2 d hda).trans g0
     refine wpAny_bind (wpAny_dictEntries gd hdd ?_)
     rw [Array.getElem?_eq_getElem hlt]
     dsimp only
     have hk':x<kvs.length:=by omega
     have pk:knd.is (kvs[x]).1 (es[x]).key=true:=by
      have:∀ (a:List DictEntry) (b:List (K×Value)),Pairs knd a b→∀ (j:Nat) (h1:j<a.length) (h2:j<b.length),knd.is (b[j]).1 (a[j]).key=true:=by
       intro a b hab
       induction hab with
       | nil=>intro j h1;cases h1
       | cons p1 p2 p3 ih=>
        intro j h1 h2
        cases j with
        | zero=>exact p1
        | succ j=>exact ih j (by simpa using h1) (by simpa using h2)
      have:=this es.toList kvs hp x (by rw [Array.length_toList];exact hlt) hk'
      simpa using this
     obtain ⟨k',h1',h2'⟩:=hk es[x] (Array.getElem_mem hlt)
     have ek:k'=(kvs[x]).1:=knd.inj _ _ _ h1' pk
     subst ek
     rw [h2']
     refine wpAny_bind (wpAny_holding (bQ pk (hsc _ _ pk) g (by
      rw [List.length_map,List.length_take]
      show min x kvs.length+1<4096
      omega) fun h2 b sb2 g2=>?_))
     have gd2:h2.get? d=some od:=(sb2.2 d hda).trans gd
     refine wpAny_bind (wpAny_dictEpoch gd2 hdd ?_)
     simp only [bne_self_eq_false,Bool.false_eq_true,if_false]
     refine wpAny_pure ⟨x+1,h2,by omega,rfl,rfl,sb.trans sb2,?_⟩
     have et:(kvs.take (x+1)).map (·.1)=addK ((kvs.take x).map (·.1)) (kvs[x]).1:=by
      rw [List.take_succ,List.getElem?_eq_getElem hk',List.map_append]
      unfold addK
      rw [if_neg]
      ·rfl
      ·intro z
       rw [List.map_take] at z
       obtain ⟨j,hj,ej⟩:=List.getElem_of_mem z
       rw [List.length_take,List.length_map] at hj
       rw [List.getElem_take,List.getElem_map] at ej
       have:=(List.getElem_inj (i:=j) (j:=x) (h₀:=by rw [List.length_map];omega) (h₁:=by rw [List.length_map];exact hk') nd).mp (by rw [List.getElem_map,List.getElem_map];exact ej)
       omega
     rw [et];exact g2
    case fin=>
     rintro _ _ ⟨i,h',hi,er,rfl,sb,g⟩
     have:es.size - i=0:=by
      have:=congrArg List.length er
      simpa using this.symm
     have e:kvs.take i=kvs:=List.take_of_length_le (by omega)
     rw [e] at g
     refine wpAny_pure (wpAny_pure ⟨rfl,h',_,rfl,g,fun b o hb' e'=>?_⟩)
     exact (sb.2 b (Nat.ne_of_lt hb')).trans (Heap.get?_push_of_some _ e')
   ·cases r2 with
    | error e=>exact hr2
    | ok fl2=>
     cases fl2 with
     | ret r=>
      obtain ⟨rfl,h',tk,rfl,g',kp⟩:=hr2
      repeat (any_goals (first | assumption | wp_step))
      exact h _ _ g' kp
     | _=>exact hr2.elim
  | _=>exact hr.elim
end
end L2.SX
namespace L2.SX
open PySem PyProof.Rows
theorem a3j:entryFor table "set.__ne__" = some Builtin.«frozenset.__ne__»:=entryFor_alias (id' := "frozenset.__ne__") (by kernel_rfl) rfl (by decide +kernel) (by kernel_rfl)
theorem nR:isSubtype (.type "set") (.type "frozenset")=pure false:=by rw [isSubtype_type];kernel_rfl
section
variable {prog:Program} {w:World} {A:Around} {E:Value→Shared→Prop} {s:Shared} {K:Type} [DecidableEq K] {knd:KeyKind prog w K}
theorem a5S {b:Addr} {Q:Bool→Shared→Prop} (ty:s.TypeIs (.ref b) "set") (h:Q true s):wpAny (model prog w) A (Builtin.Frozenset.isAnySet (.ref b)) Q E s:=by
 have s1:=sub_set_self
 unfold Builtin.Frozenset.isAnySet
 wp_walk
 exact h
theorem mX {a:Addr} {o:Obj} {es:Array (Int×Value)} {ep:Nat} {t:SetTable} {Q:Nat→Shared→Prop} (ho:s.heap.get? a=some o) (hd:o.data=.set es ep t) (hf:t.fits es.size=true) (h:Q es.size s):wpAny (model prog w) A (Builtin.Frozenset.sizeOf a) Q E s:=by
 unfold Builtin.Frozenset.sizeOf setEntries
 exact wpAny_bind (wpAny_bind (wpAny_setState_of ho hd hf (wpAny_pure (wpAny_pure h))))
theorem pE {a:Addr} {o:Obj} {es:Array (Int×Value)} {ep:Nat} {t:SetTable} {Q:Array (Int×Value)→Shared→Prop} (ho:s.heap.get? a=some o) (hd:o.data=.set es ep t) (hf:t.fits es.size=true) (h:Q es s):wpAny (model prog w) A (setEntries a) Q E s:=by
 unfold setEntries
 exact wpAny_bind (wpAny_setState_of ho hd hf (wpAny_pure h))
theorem vN {a:Addr} {o:Obj} {es:Array (Int×Value)} {ep:Nat} {t:SetTable} {Q:Nat→Shared→Prop} (ho:s.heap.get? a=some o) (hd:o.data=.set es ep t) (hf:t.fits es.size=true) (h:Q ep s):wpAny (model prog w) A (setEpoch a) Q E s:=by
 unfold setEpoch
 exact wpAny_bind (wpAny_setState_of ho hd hf (wpAny_pure h))
theorem a1I {x:Value} {Q:Bool→Shared→Prop} (hx:x.scannable=true) (h:Q true s):wpAny (model prog w) A (Builtin.Frozenset.quietEq x) Q E s:=by
 unfold Builtin.Frozenset.quietEq
 cases x<;>first | exact wpAny_pure h | cases hx
theorem a3Y {a b:Addr} {oa ob:Obj} {ea eb:Array (Int×Value)} {pa pb:Nat} {ta tb:SetTable} {Q:List (Int×Value)→Shared→Prop} (hoa:s.heap.get? a=some oa) (hda:oa.data=.set ea pa ta) (hfa:ta.fits ea.size=true) (hob:s.heap.get? b=some ob) (hdb:ob.data=.set eb pb tb) (hfb:tb.fits eb.size=true)
  (h1:∀ e∈ea.toList,e.2.scannable=true) (h2:∀ e∈eb.toList,e.2.scannable=true) (h:Q ea.toList s):wpAny (model prog w) A (Builtin.Frozenset.walkUnseen a b) Q E s:=by
 unfold Builtin.Frozenset.walkUnseen
 refine wpAny_bind (pE hoa hda hfa ?_)
 refine wpAny_bind (pE hob hdb hfb ?_)
 refine wpAny_bind ?_
 refine wpAny_forIn_list _ (fun rest r s'=>r.1=none∧s'=s∧∀ e∈rest,e.2.scannable=true) _ ?_ ?_ _ _ ⟨rfl,rfl,fun e he=>(List.mem_append.mp he).elim (h1 e) (h2 e)⟩
 ·rintro ⟨hh,x⟩ rest r s' ⟨hr,rfl,hall⟩
  refine wpAny_bind (a1I (hall _ List.mem_cons_self) ?_)
  simp only [Bool.not_true,Bool.false_eq_true,if_false]
  exact wpAny_pure ⟨rfl,rfl,fun e he=>hall e (List.mem_cons_of_mem _ he)⟩
 ·rintro ⟨r1,r2⟩ s' ⟨hr,rfl,_⟩
  simp only at hr
  subst hr
  exact wpAny_pure h
theorem a0l {a b:Addr} {ks qs:List K} {la lb:Bool} {id:String} {Q:Bool→Shared→Prop} (ga:Good knd s.heap a ks la) (gb:Good knd s.heap b qs lb) (hsc:∀ k v,knd.is k v=true→v.scannable=true) (hl:ks.length=qs.length)
  (h:Q (ks.all fun k=>decide (k∈qs)) s):wpAny (model prog w) A (Builtin.Frozenset.subsetOf id a b) Q E s:=by
 obtain ⟨oa,ea,pa,ta,hoa,hxa,hda,hela,hmema,hna,hfa,hTa⟩:=ga.ex
 obtain ⟨ob,eb,pb,tb,hob,hxb,hdb,helb,hmemb,hnb,hfb,hTb⟩:=gb.ex
 have so:s.heap.SetOf knd b (fun k=>decide (k∈qs)) eb.size:=⟨ob,eb,pb,tb,hob,hxb,hdb,helb,fun k=>by rw [decide_eq_true_eq];exact hmemb k,by rw [hnb];exact gb.few,hfb,rfl⟩
 have c1:∀ e∈ea.toList,e.2.scannable=true:=fun e he=>by
  exact (hela e he).2
 have c2:∀ e∈eb.toList,e.2.scannable=true:=fun e he=>by
  exact (helb e he).2
 unfold Builtin.Frozenset.subsetOf
 refine wpAny_bind (mX hoa hda hfa ?_)
 refine wpAny_bind (mX hob hdb hfb ?_)
 rw [if_neg (by rw [hna,hnb,hl];exact Nat.lt_irrefl _)]
 refine wpAny_bind (vN hoa hda hfa ?_)
 refine wpAny_bind (a3Y hoa hda hfa hob hdb hfb c1 c2 ?_)
 refine wpAny_bind ?_
 have key:∀ l:List (Int×Value),(∀ e∈l,e∈ea.toList)→((∀ e∈l,∀ k,knd.is k e.2=true→k∈qs)∨∃ e∈l,∃ k,knd.is k e.2=true∧k∉qs):=fun l hl=>by
  by_cases c:∀ e∈l,∀ k,knd.is k e.2=true→k∈qs
  ·exact .inl c
  ·refine .inr (Classical.byContradiction fun z=>c fun e he k hk=>Classical.byContradiction fun z2=>z ⟨e,he,k,hk,z2⟩)
 refine wpAny_forIn_list _ (fun rest r s'=>r.1=none∧s'=s∧(∀ e∈rest,e∈ea.toList)∧((∀ e∈rest,∀ k,knd.is k e.2=true→k∈qs)→(ks.all fun k=>decide (k∈qs))=true)) _ ?_ ?_ _ _ ⟨rfl,rfl,fun e he=>he,fun hall=>?_⟩
 ·rintro ⟨hh,x⟩ rest r s' ⟨hr,rfl,hin,hall⟩
  obtain ⟨k,h1,h2⟩:=(hela _ (hin _ List.mem_cons_self)).1
  have h2:hh=knd.hash k:=h2
  rw [h2]
  refine wpAny_bind (wpAny_holding (wpAny_setFind_of h1 (hsc _ _ h1) so fun r' hr'=>?_))
  by_cases c:k∈qs
  ·rw [decide_eq_true c] at hr'
   obtain ⟨j,rfl⟩:=Option.isSome_iff_exists.mp hr'
   simp only [Option.isNone_some,Bool.false_eq_true,if_false]
   unfold Builtin.Frozenset.unchanged
   refine wpAny_bind (wpAny_bind (vN hoa hda hfa ?_))
   simp only [bne_self_eq_false,Bool.false_eq_true,if_false]
   refine wpAny_pure (wpAny_pure ⟨rfl,rfl,fun e he=>hin e (List.mem_cons_of_mem _ he),fun hr2=>hall fun e he k' hk'=>?_⟩)
   rcases List.mem_cons.mp he with rfl | he
   ·rw [knd.inj _ _ _ hk' h1];exact c
   ·exact hr2 e he k' hk'
  ·rw [decide_eq_false c] at hr'
   have:r'=none:=by cases r' with | none=>rfl | some j=>cases hr'
   subst this
   simp only [Option.isNone_none,if_true]
   have hf:(ks.all fun k=>decide (k∈qs))=false:=by
    rw [Bool.eq_false_iff]
    intro z
    have:=List.all_eq_true.mp z k ((hmema k).mpr ⟨_,hin _ List.mem_cons_self,h1⟩)
    exact c (of_decide_eq_true this)
   rw [hf] at h
   exact wpAny_pure (wpAny_pure h)
 ·rintro ⟨r1,r2⟩ s' ⟨hr,rfl,_,hall⟩
  simp only at hr
  subst hr
  have:=hall (fun e he=>nomatch he)
  rw [this] at h
  exact wpAny_pure h
 ·rw [List.all_eq_true]
  intro k hk
  obtain ⟨e,he,h1⟩:=(hmema k).mp hk
  exact decide_eq_true (hall e he k h1)
theorem a4U {a b:Addr} {ks qs:List K} {la lb:Bool} {P:Fin→Shared→Prop} (ga:Good knd s.heap a ks la) (gb:Good knd s.heap b qs lb) (hsc:∀ k v,knd.is k v=true→v.scannable=true)
  (h:P (.done (.ret (.bool (!(decide (ks.length=qs.length)&&ks.all fun k=>decide (k∈qs)))))) s) :
  wpAny (model prog w) A (Builtin.«frozenset.__ne__» ⟨[.ref a,.ref b],[]⟩) P E s:=by
 obtain ⟨oa,ea,pa,ta,hoa,hxa,hda,hela,hmema,hna,hfa,hTa⟩:=id ga.ex
 obtain ⟨ob,eb,pb,tb,hob,hxb,hdb,helb,hmemb,hnb,hfb,hTb⟩:=id gb.ex
 have tya:s.TypeIs (.ref a) "set" := ⟨oa,hoa,hxa.1⟩
 have tyb:s.TypeIs (.ref b) "set" := ⟨ob,hob,hxb.1⟩
 show wpAny _ _ (Builtin.Frozenset.isAnySet (.ref b)>>=_) _ _ s
 refine wpAny_bind (a5S tyb ?_)
 simp only [Bool.not_true,Bool.false_eq_true,if_false]
 refine wpAny_bind (wpAny_pure ?_)
 refine wpAny_bind (wpAny_pure ?_)
 refine wpAny_bind (mX hoa hda hfa ?_)
 refine wpAny_bind (mX hob hdb hfb ?_)
 refine wpAny_bind ?_
 by_cases c:ks.length=qs.length
 ·rw [if_neg (by rw [hna,hnb,c];simp)]
  rw [decide_eq_true c,Bool.true_and] at h
  have s2:=nR
  refine wpAny_bind ?_
  generalize hSS:Builtin.Frozenset.subsetOf=SS
  wp_walk
  rw [←hSS]
  exact a0l ga gb hsc c (wpAny_pure h)
 ·rw [if_pos (by rw [hna,hnb];simpa using c)]
  rw [decide_eq_false c] at h
  exact wpAny_pure (wpAny_pure h)
theorem sets_ne {a b:Addr} {ks qs:List K} {la lb:Bool} {Q:Value→Shared→Prop} (ga:Good knd s.heap a ks la) (gb:Good knd s.heap b qs lb) (hsc:∀ k v,knd.is k v=true→v.scannable=true) (hu:A.units<cLine)
  (h:Q (.bool (!(decide (ks.length=qs.length)&&ks.all fun k=>decide (k∈qs)))) s):wpAny (model prog w) A (richCompare .NotEq (.ref a) (.ref b)) Q E s:=by
 have tya:s.TypeIs (.ref a) "set":=by obtain ⟨o,_,_,_,ho,hx,_⟩:=ga.ex;exact ⟨o,ho,hx.1⟩
 have tyb:s.TypeIs (.ref b) "set":=by obtain ⟨o,_,_,_,ho,hx,_⟩:=gb.ex;exact ⟨o,ho,hx.1⟩
 exact wpAny_richCompare_same_room (op:=.NotEq) tya tyb F.slot_set_ne (wpAny_call_entry F.slot_set_ne tya a3j (a4U ga gb hsc ⟨_,rfl,(fun e=>nomatch e),h⟩) (F.args_set_ne_2 _ _)) hu
end
end L2.SX
namespace L2
open PySem PySem.Spec PyProof.Rows
section
variable (P:Program) (w:World)
end
section
variable {P:Program} {w:World} {H H':Hp} {h h':Heap} {a:Addr} {o:HO}
end
section
variable {P:Program} {w:World} {H:Hp} {h h':Heap} {x e:Addr} {o':HO}
end
section
variable {fs fs' ex ex':List Addr} {H H1 H2:Hp} {h h1 h2 h':Heap} {a x e:Addr} {o:HO}
end
section
variable {X:Cx} {pins:List (Addr×Obj)} {σ:List (Option V)} {H H':Hp} {s:Shared} {h':Heap}
end
section
variable {X:Cx}
variable {a b:Expr} {ta tb:TE} {pos:Pos}
variable {tA tB':TT} {rest:List Expr}
end
section
variable {X:Cx} {pins:List (Addr×Obj)} {σ:St} {H:Hp} {s:Shared} {a:Addr} {xs ys:List V}
end
section
variable {X:Cx} {pins:List (Addr×Obj)} {σ:St} {H:Hp} {s:Shared} {E:Value→Shared→Prop}
end
section
variable {X:Cx} {st:Stmt} {rest:List Stmt} {t u:TS} {e:Expr} {te:TE} {pos:Pos}
end
section
variable {X:Cx} {pos:Pos}
end
section
variable {X:Cx} {pos:Pos}
end
section
variable {X:Cx} {tg:Expr}
end
section
variable {X:Cx} {a b c:Expr} {ta tb tc:TE} {pos:Pos}
end
section
variable {X:Cx} {a b c:Expr} {ta tb tc:TE} {pos:Pos}
end
section
variable {prog:Program} {w:World} {A:Around} {E:Value→Shared→Prop} {s:Shared} {K:PySem.W.Frag} {x dx C f:Addr} {mA:Str→Option Value} {name:Str} {v:Value}
end
section
variable {P:Program} {w:World} {H H':Hp} {h h':Heap} {a C dx:Addr} {fs fs':List (Str×V)}
end
section
variable {X:Cx} {pins:List (Addr×Obj)} {σ:St} {H:Hp} {s:Shared} {a C dx:Addr} {fs:List (Str×V)} {f:Str} {v:V} {A:Around} {E:Value→Shared→Prop}
end
section
variable {X:Cx} {o e value:Expr} {f:Str} {pos pos' tpos:Pos} {ta tv:TE}
end
section
variable {X:Cx} {pins:List (Addr×Obj)} {σ:St} {H:Hp} {s:Shared} {A:Around} {E:Value→Shared→Prop} {Q:Value→Shared→Prop} {c:Value} {b:Bool}
end
section
variable {X:Cx} {e:Expr} {es:List Expr} {te:TE} {t:TA} {pos:Pos}
end
section
variable {X:Cx} {pins:List (Addr×Obj)} {σ:St} {H:Hp} {s s':Shared}
end
section
variable {X:Cx} {CX:CXT} {k:Nat} {f C:Addr} {fd:FuncData} {ps:List Str} {sp:Sp} {dvs:List V} {ds:List Value} {E:XK} {x m:Str} {p pos apos:Pos} {e o:Expr} {es:List Expr} {ta:TE} {t:TA}
end
section
variable {X:Cx} {CX:CXT} {k:Nat} {f C:Addr} {fd:FuncData} {ps ks:List Str} {sp:Sp} {E:XK} {x m:Str} {p pos apos kpos:Pos} {e o:Expr} {es:List Expr} {kws:List Keyword} {te ta:TE} {t tk:TA} {nm:Option Str}
variable {g:List Value→List Value→List Value} {gV:List V→List V→List V}
end
section
variable {X:Cx} {x:Str} {p pos:Pos} {e:Expr} {es:List Expr} {t:TA} {id T:String} {r:List V→Hp→VK→Prop}
end
section
variable {κ:Type} [DecidableEq κ]
noncomputable def wJ (kvs:List (κ×V)) (k:κ):Option V:=(kvs.find? fun kv=>decide (kv.1=k)).map (·.2)
noncomputable def putK (kvs:List (κ×V)) (k:κ) (v:V):List (κ×V):=
 if (kvs.any fun kv=>decide (kv.1=k))=true then kvs.map (fun kv=>if kv.1=k then (kv.1,v) else kv) else kvs++[(k,v)]
theorem uE {p:κ×V} {r:List (κ×V)} {k:κ} (e:p.1=k):wJ (p::r) k=some p.2:=by simp [wJ,List.find?_cons,e]
theorem uF {p:κ×V} {r:List (κ×V)} {k:κ} (e:¬p.1=k):wJ (p::r) k=wJ r k:=by simp [wJ,List.find?_cons,e]
theorem uG (k:κ):∀ kvs:List (κ×V),(kvs.any fun kv=>decide (kv.1=k))=(wJ kvs k).isSome
 | []=>rfl
 | p::r=>by
  rw [List.any_cons]
  by_cases e:p.1=k
  ·simp only [uE e,decide_eq_true e,Bool.true_or,Option.isSome_some]
  ·rw [uF e,decide_eq_false e,Bool.false_or];exact uG k r
theorem mK (kvs:List (κ×V)) (k:κ) (v:V):(putK kvs k v).length≤kvs.length+1:=by
 unfold putK
 split
 ·rw [List.length_map];omega
 ·rw [List.length_append,List.length_cons,List.length_nil];omega
theorem a3W.isSome_eq {o:Option V} {u:Option Value} (r:a3W o u):o.isSome=u.isSome:=by
 cases o with
 | none=>cases u with
  | none=>rfl
  | some _=>exact (show False from r).elim
 | some _=>cases u with
  | none=>exact (show False from r).elim
  | some _=>rfl
theorem KV.any {kvs:List (κ×V)} {vs:List (κ×Value)} (r:KV kvs vs) (k:κ):(kvs.any fun kv=>decide (kv.1=k))=vs.any fun kv=>decide (kv.1=k):=by
 unfold KV at r
 induction r with
 | nil=>rfl
 | cons h t ih=>rw [List.any_cons,List.any_cons,ih,h.1]
theorem KV.repl {kvs:List (κ×V)} {vs:List (κ×Value)} (r:KV kvs vs) (k:κ) {y:V} {u:Value} (ry:RelV y u) :
  KV (kvs.map fun kv=>if kv.1=k then (kv.1,y) else kv) (vs.map fun kv=>if kv.1=k then (kv.1,u) else kv):=by
 unfold KV at r ⊢
 induction r with
 | nil=>exact .nil
 | @cons p q ps qs h t ih=>
  rw [List.map_cons,List.map_cons]
  refine .cons ?_ ih
  obtain ⟨h1,h2⟩:=h
  by_cases e:p.1=k
  ·rw [if_pos e,if_pos (h1.symm.trans e)];exact ⟨h1,ry⟩
  ·rw [if_neg e,if_neg (fun z=>e (h1.trans z))];exact ⟨h1,h2⟩
theorem KV.put {kvs:List (κ×V)} {vs:List (κ×Value)} (r:KV kvs vs) (k:κ) {y:V} {u:Value} (ry:RelV y u):KV (putK kvs k y) (stored vs k u):=by
 unfold putK stored
 rw [r.any k]
 by_cases e:(vs.any fun kv=>decide (kv.1=k))=true
 ·rw [if_pos e,if_pos e];exact r.repl k ry
 ·rw [if_neg e,if_neg e];exact Paired.snoc r ⟨rfl,ry⟩
theorem KV.length {kvs:List (κ×V)} {vs:List (κ×Value)} (r:KV kvs vs):kvs.length=vs.length:=Paired.length r
end
theorem kV_is {P:Program} {w:World} {k:Key} {u:Value} (r:RelV (kV k) u):(aP P w).is k u=true:=by
 cases k with
 | inl i=>obtain ⟨t,e⟩:=(show ∃ t,u=Value.int i t from r);subst e;exact mJ P w i t
 | inr x=>obtain ⟨t,e⟩:=(show ∃ t,u=Value.str x t from r);subst e;exact fQ P w x t
theorem rB {P:Program} {w:World}:∀ {ks:List Key} {us:List Value},aR (ks.map kV) us→ItemsAre (aP P w) ks us
 | [],_,r=>by rw [List.map_nil] at r;cases r;exact .nil
 | k::ks,_,r=>by
  rw [List.map_cons] at r
  cases r with
  | cons h t=>exact .cons (kV_is h) (rB t)
noncomputable abbrev KT (H:Hp):List (List Key×V)→List (List Key×Addr×Value)→Prop:=Paired fun p q=>p.1=q.1∧H q.2.1=some (.tup (p.1.map kV))∧RelV p.2 q.2.2
theorem KT.val {H:Hp} {kvs:List (List Key×V)} {xs:List (List Key×Addr×Value)} (r:KT H kvs xs) (k:List Key):a3W (wJ kvs k) ((atKey xs k).map (·.2)):=by
 induction r with
 | nil=>exact True.intro
 | @cons p q ps qs h t ih=>
  obtain ⟨h1,_,h2⟩:=h
  by_cases e:p.1=k
  ·have e':q.1=k:=h1.symm.trans e
   have b:atKey (q::qs) k=some q.2:=by simp [atKey,List.find?_cons,e']
   rw [uE e,b];exact h2
  ·have e':¬q.1=k:=fun z=>e (h1.trans z)
   have b:atKey (q::qs) k=atKey qs k:=by simp [atKey,List.find?_cons,e']
   rw [uF e,b];exact ih
theorem KT.repl {H:Hp} {kvs:List (List Key×V)} {xs:List (List Key×Addr×Value)} (r:KT H kvs xs) (k:List Key) {y:V} {u:Value} (ry:RelV y u) :
  KT H (kvs.map fun kv=>if kv.1=k then (kv.1,y) else kv) (xs.map (putAt k u)):=by
 induction r with
 | nil=>exact .nil
 | @cons p q ps qs h t ih=>
  rw [List.map_cons,List.map_cons]
  refine .cons ?_ ih
  obtain ⟨h1,h2,h3⟩:=h
  unfold putAt
  by_cases e:p.1=k
  ·rw [if_pos e,if_pos (h1.symm.trans e)];exact ⟨h1,h2,ry⟩
  ·rw [if_neg e,if_neg (fun z=>e (h1.trans z))];exact ⟨h1,h2,h3⟩
theorem KT.put {H:Hp} {kvs:List (List Key×V)} {xs:List (List Key×Addr×Value)} (r:KT H kvs xs) (k:List Key) {b:Addr} {y:V} {u:Value} (hb:H b=some (.tup (k.map kV))) (ry:RelV y u) :
  KT H (putK kvs k y) (storedH xs k b u):=by
 have e:(kvs.any fun kv=>decide (kv.1=k))=(atKey xs k).isSome:=by
  rw [uG,(r.val k).isSome_eq,Option.isSome_map]
 unfold putK storedH
 rw [e]
 by_cases q:(atKey xs k).isSome=true
 ·rw [if_pos q,if_pos q];exact r.repl k ry
 ·rw [if_neg q,if_neg q];exact Paired.snoc r ⟨rfl,hb,ry⟩
theorem KT.keeps {H H':Hp} {kvs:List (List Key×V)} {xs:List (List Key×Addr×Value)} (r:KT H kvs xs) (ht:∀ b ys,H b=some (.tup ys)→H' b=some (.tup ys)):KT H' kvs xs:=
 Paired.mapP r fun _ _ z=>⟨z.1,ht _ _ z.2.1,z.2.2⟩
section
variable {P:Program} {w:World} {H:Hp} {h:Heap} {a:Addr}
theorem a6e {u:HO} (ok:HOk P w H h) (e:Rd H a u):bR P w H h a u:=e.ok ok
theorem a3u {kvs:List (Key×V)} (ok:HOk P w H h) (e:Rd H a (.dK kvs)):kvs.length≤sizeLine∧(a==sysModules)=false∧∃ vs,KV kvs vs∧h.DictOf (aP P w) a vs:=
 show bR P w H h a (.dK kvs) from a6e ok e
theorem dk_of {kvs:List (Key×V)} (ok:HOk P w H h) (e:H a=some (.dK kvs)):kvs.length≤sizeLine∧(a==sysModules)=false∧∃ vs,KV kvs vs∧h.DictOf (aP P w) a vs:=a3u ok (.inl e)
theorem a2G {ks:List Key} (ok:HOk P w H h) (e:H a=some (.tup (ks.map kV))):(tupleKind (aP P w)).is h ks a:=by
 obtain ⟨_,its,r,o,h1,h2,n,h3⟩:=(show bR P w H h a (.tup (ks.map kV)) from ok a _ e)
 exact ⟨o,its.toArray,n,h1,h2,h3,by simpa using rB r⟩
theorem dt_rd {kvs:List (List Key×V)} (ok:HOk P w H h) (e:Rd H a (.dT kvs)):kvs.length≤sizeLine∧(a==sysModules)=false ∧
  ∃ xs,KT H kvs xs∧h.DictOfH (tupleKind (aP P w)) a xs:=by
 obtain ⟨z,y,xs,r,o,es,ep,h1,h2,h3,h4,h5⟩:=(show bR P w H h a (.dT kvs) from a6e ok e)
 refine ⟨z,y,xs,r,o,es,ep,h1,h2,h3,h4,fun x hx=>?_,h5⟩
 have all:∀ {l:List (List Key×V)} {m:List (List Key×Addr×Value)},KT H l m→∀ x∈m,(tupleKind (aP P w)).is h x.1 x.2.1:=by
  intro l m q
  induction q with
  | nil=>intro x hx;exact nomatch hx
  | @cons p q ps qs hq t ih=>
   intro x hx
   rcases List.mem_cons.mp hx with e | hx
   ·subst e
    exact a2G ok (by rw [←hq.1];exact hq.2.1)
   ·exact ih x hx
 exact all r x hx
theorem dt_of {kvs:List (List Key×V)} (ok:HOk P w H h) (e:H a=some (.dT kvs)):kvs.length≤sizeLine∧(a==sysModules)=false ∧
  ∃ xs,KT H kvs xs∧h.DictOfH (tupleKind (aP P w)) a xs:=dt_rd ok (.inl e)
end
noncomputable def DPut (H:Hp) (a:Addr) (y v:V) (H':Hp):Prop:=
 (∃ kvs k,H a=some (.dK kvs)∧y=kV k∧kvs.length<sizeLine∧H'=upd H a (.dK (putK kvs k v))) ∨
 ∃ kvs k b,H a=some (.dT kvs)∧y=.ref b∧H b=some (.tup (k.map kV))∧kvs.length<sizeLine∧H'=upd H a (.dT (putK kvs k v))
section
variable {X:Cx} {pins:List (Addr×Obj)} {σ:St} {H:Hp} {s:Shared} {a:Addr} {y v:V} {u r:Value} {o:Option V} {A:Around} {E:Value→Shared→Prop}
theorem Inv.big (I:Inv X pins σ H s):sysModules<s.heap.objs.size:=by
 have h:mainGlobals<s.heap.objs.size:=(I.mod.glob.keeps I.bk).lt
 exact Nat.lt_trans (by decide) h
theorem zT {h':Heap} {t':Nat} {ob:HO} (I:Inv X pins σ H s) (mu:Mut (H a)) (hs:Heap.SameBut a s.heap h') (he:∃ q,h'.get? a=some q) (new:bR X.prog X.w (upd H a ob) h' a ob) :
  Inv X pins σ (upd H a ob) { s with heap:=h',toks:=t' }:=
 I.write (x:=a) (e:=a) mu (.inl rfl) (fun b q hb z=>(hs.2 b hb).trans z) he new
theorem a3v {P:Program} {w:World} {H':Hp} {h':Heap} {kvs:List (Key×V)} {vs:List (Key×Value)} (z:kvs.length≤sizeLine) (hd:(a==sysModules)=false) (rel:KV kvs vs) (dd:h'.DictOf (aP P w) a vs) :
  bR P w H' h' a (.dK kvs):=⟨z,hd,vs,rel,dd⟩
theorem a0U {H':Hp} {Q:Unit→Shared→Prop} (hu:A.units+1<cLine) (I:Inv X pins σ H s) (g:DPut H a y v H') (ry:RelV y u) (rv:RelV v r) (h:∀ s',Inv X pins σ H' s'→Q () s') :
  wpAny (model X.prog X.w) A (setItem (.ref a) u r) Q E s:=by
 rcases g with ⟨kvs,k,e,ey,l,eH⟩ | ⟨kvs,k,b,e,ey,eb,l,eH⟩
 ·subst ey eH
  obtain ⟨z,hd,vs,rel,dd⟩:=dk_of I.hok e
  have hz:vs.length≤sizeLine:=by rw [←rel.length];exact z
  have hl:(putK kvs k v).length≤sizeLine:=by have:=mK kvs k v;omega
  refine wpAny_setItem_pairs (hsz:=hz) (kV_is ry) dd fun h' dd' hs=>h _ ?_
  have he:∃ q,h'.get? a=some q:=let ⟨q,_,_,hq,_⟩:=dd';⟨q,hq⟩
  exact zT I (by rw [e];exact True.intro) hs he (a3v hl hd (rel.put k rv) dd')
 ·subst ey eH
  cases (show u=Value.ref b from ry)
  obtain ⟨z,hd,xs,rel,dd⟩:=dt_of I.hok e
  have hz:xs.length≤sizeLine:=by rw [←Paired.length rel];exact z
  have hl:(putK kvs k v).length≤sizeLine:=by have:=mK kvs k v;omega
  refine wpAny_setItem_heap (hsz:=hz) (tupleKind_room_in1 hu) (a2G I.hok eb) dd fun h' dd' hs=>h _ ?_
  obtain ⟨q,es,ep,hq,h2,h3,h4,_,h5⟩:=dd'
  refine zT I (by rw [e];exact True.intro) hs ⟨q,hq⟩ ⟨hl,hd,_,(rel.put k eb rv).keeps fun c ys ec=>?_,q,es,ep,hq,h2,h3,h4,h5⟩
  rw [aD (cZ ec e (fun z=>nomatch z))]
  exact ec
end
section
variable {X:Cx} {pins:List (Addr×Obj)} {σ:St} {H:Hp} {s:Shared} {a:Addr} {kvs:List (Key×V)} {k:Key} {u:Value} {A:Around} {E:Value→Shared→Prop}
end
noncomputable def sDPut (td ty tv:TE):TS:=fun D σ H=>tv σ H fun v H1=>td σ H1 fun x H2=>ty σ H2 fun y H3=>∃ a H4,x=.ref a∧DPut H3 a y v H4∧D.nx σ H4
section
variable {X:Cx} {o i e value:Expr} {pos pos' tpos:Pos} {td ty tv:TE}
theorem a4t (hu:X.A.units+1<cLine) (ho:PE X o td) (hi:PE X i ty) (hv:PE X value tv) (hs:swapsWith value (some (.Subscript o i pos')) pos.line X.env=pure false) :
  PS X (.Assign [.Subscript o i pos'] value pos) (sDPut td ty tv):=by
 intro pins s σ H D I h
 refine wpAny_Assign_Subscript (thn (hv pins s σ H _ I h) fun r s1 ⟨v,H1,I1,rv,q1⟩=>thn (ho pins s1 σ H1 _ I1 q1) fun u s2 ⟨x,H2,I2,rx,q2⟩=>thn (hi pins s2 σ H2 _ I2 q2) fun iv s3 ⟨y,H3,I3,ry,a,H4,ex,g,q3⟩=>?_) hs
 subst ex
 obtain rfl:u=Value.ref a:=rx
 exact a0U hu I3 g ry rv fun s4 I4=>⟨σ,H4,I4,q3⟩
end
section
variable {X:Cx} {pos:Pos}
end
section
variable {X:Cx} {pins:List (Addr×Obj)} {σ:St} {H:Hp} {s:Shared} {a:Addr} {y d:V} {u r:Value} {o:Option V} {A:Around} {E:Value→Shared→Prop}
end
section
variable {X:Cx} {o e f:Expr} {apos cpos:Pos} {td ty tx:TE}
end
section
variable {X:Cx} {pins:List (Addr×Obj)} {σ:St} {H:Hp} {s:Shared} {a:Addr} {kvs:List (Key×V)} {A:Around} {E:Value→Shared→Prop}
end
section
variable {X:Cx} {pins:List (Addr×Obj)} {σ:St} {H:Hp} {s:Shared} {a:Addr} {y:V} {u:Value} {A:Around} {E:Value→Shared→Prop}
end
end L2
namespace Att
open PySem PySem.W PySem.Calls PyProof.Rows
section
variable {prog:Program} {w:World} {A:Around} {E:Value→Shared→Prop} {s:Shared} {K:Frag}
end
end Att
namespace L2
open PySem PySem.Spec PyProof.Rows
section
variable {P:Program} {w:World} {K:PySem.W.Frag} {mg:Str→Option Value} {base:Heap}
end
section
variable {X:Cx}
end
section
variable {κ:Type} [DecidableEq κ]
end
end L2
namespace L2.L3
open PySem PySem.Spec PyProof.Rows
section
variable {X:Cx} {e a b:Expr} {fa fb:EF} {pos p p2 p3:Pos}
end
noncomputable def noD (i:Nat) (ρ:List Ent):Bool:=(List.range ρ.length).all fun j=>j==i || (match ρ[j]? with | some (.dct _)=>false | _=>true)
theorem a2h {i:Nat} {ρ:List Ent} (h:noD i ρ=true):∀ (j:Nat) (ks:List (Key×PyData)),ρ[j]?=some (.dct ks)→j=i:=fun j ks hj=>by
 have:=List.all_eq_true.mp h j (List.mem_range.mpr (List.getElem?_eq_some_iff.mp hj).1)
 rw [hj] at this
 simpa using this
noncomputable def qM (kvs:List (Key×PyData)) (k:Key) (d:PyData):List (Key×PyData):=
 if (kvs.any fun kv=>decide (kv.1=k))=true then kvs.map (fun kv=>if kv.1=k then (kv.1,d) else kv) else kvs++[(k,d)]
noncomputable def uN (i:Nat) (fk fv:EF):SF:=fun ρ=>match ρ[i]? with
 | some (.dct kvs)=>bns (fv ρ) ρ fun d=>bns (fk ρ) ρ fun k=>(match pI k with
  | some k=>if dB kvs.length then some (.nx (ρ.set i (.dct (qM kvs k d)))) else none
  | none=>none)
 | _=>none
theorem wD {β γ:Type} {k:Key}:∀ {vs:List (Key×β)} {kvs:List (Key×γ)},vs.map (·.1)=kvs.map (·.1)→(vs.any fun kv=>decide (kv.1=k))=kvs.any fun kv=>decide (kv.1=k)
 | [],[],_=>rfl
 | [],_::_,h=>by simp at h
 | _::_,[],h=>by simp at h
 | a::vs,b::kvs,h=>by
  rw [List.map_cons,List.map_cons,List.cons.injEq] at h
  rw [List.any_cons,List.any_cons,wD h.2,h.1]
theorem eB.repl {K:PySem.W.Frag} {G:Hp} {k:Key} {v:V} {d:PyData} (r:Rep K G v d):∀ {vs:List (Key×V)} {kvs:List (Key×PyData)},eB K G vs kvs→eB K G (vs.map fun kv=>if kv.1=k then (kv.1,v) else kv) (kvs.map fun kv=>if kv.1=k then (kv.1,d) else kv)
 | [],[],h=>h
 | [],_::_,h=>by have:=h.1;simp at this
 | _::_,[],h=>by have:=h.1;simp at this
 | a::vs,b::kvs,⟨h1,h2⟩=>by
  rw [List.map_cons,List.map_cons,List.cons.injEq] at h1
  rw [List.map_cons,List.map_cons] at h2
  cases h2 with
  | cons ra rr=>
   obtain ⟨i1,i2⟩:=eB.repl (k:=k) r (vs:=vs) (kvs:=kvs) ⟨h1.2,rr⟩
   by_cases c:b.1=k
   ·have c':a.1=k:=h1.1.trans c
    refine ⟨?_,?_⟩
    ·simp only [List.map_cons,if_pos c,if_pos c',i1,h1.1]
    ·simp only [List.map_cons,if_pos c,if_pos c']
     exact .cons r i2
   ·have c':¬a.1=k:=fun z=>c (h1.1.symm.trans z)
    refine ⟨?_,?_⟩
    ·simp only [List.map_cons,if_neg c,if_neg c',i1,h1.1]
    ·simp only [List.map_cons,if_neg c,if_neg c']
     exact .cons ra i2
theorem eB.put {K:PySem.W.Frag} {G:Hp} {k:Key} {v:V} {d:PyData} {vs:List (Key×V)} {kvs:List (Key×PyData)} (h:eB K G vs kvs) (r:Rep K G v d):eB K G (putK vs k v) (qM kvs k d):=by
 unfold putK qM
 rw [wD h.1]
 split
 ·exact eB.repl r h
 ·refine ⟨by rw [List.map_append,List.map_append,h.1];rfl,?_⟩
  rw [List.map_append,List.map_append]
  exact h.2.append (.cons r .nil)
theorem eB.len {K:PySem.W.Frag} {G:Hp} {vs:List (Key×V)} {kvs:List (Key×PyData)} (h:eB K G vs kvs):vs.length=kvs.length:=by
 have:=congrArg List.length h.1
 simpa using this
section
variable {X:Cx} {a e kx o f:Expr} {fa fk fv fd fx:EF} {pos p p2:Pos}
theorem a5A (i:Nat) {x:Str} {xp kp:Pos} (hu:X.A.units+64<cLine) (hv:DE X e fv) (hk:DE X kx fk) (hN:X.N[i]?=some x:=by rfl)
  (hvi:Vis X.env.scope x:=by first | exact Or.inl rfl | exact Or.inr (Or.inl rfl) | exact Or.inr (Or.inr rfl)) (hd:(x==("__debug__" : Str))=false:=by decide) (hcd:(x==("__classdict__" : Str))=false:=by decide)
  (hs:swapsWith e (some (.Subscript (.Name x xp) kx kp)) pos.line X.env=pure false:=by rfl) :
  DS X (.Assign [.Subscript (.Name x xp) kx kp] e pos) (uN i fk fv):=⟨fun pins s σ H D I ⟨ρ,o,H0,G₀,G,ef,R,q⟩=>
 a4t (by omega) (eF hN hvi hd hcd) hk.run hv.run hs pins s σ H D I (by
  unfold uN at ef
  split at ef
  ·rename_i kvs hi
   obtain ⟨a,vs,e1,_⟩:=R.ownD hi
   refine sE R ef q fun d v G1 H1 g1 R1 rv e2 q1=>⟨.ref a,e1,sE R1 e2 q1 fun k u G2 H2 g2 R2 ru e3 q2=>?_⟩
   split at e3
   ·rename_i key hk'
    split at e3
    ·rename_i hz
     cases (Option.some.inj e3)
     obtain ⟨a',vs',e1',h1,h2,h3,r⟩:=R2.ownD hi
     rw [e1] at e1';cases e1'
     rw [nJ hk'] at ru
     cases sM ru
     exact ⟨a,_,rfl,.inl ⟨vs',key,h1,rfl,by rw [r.len];exact a6c hz,rfl⟩,q2 G2 _ σ (.refl _) (R2.wroteD hi e1 (r.put (rv.mono g2.gg)))⟩
    ·cases e3
   ·cases e3
  ·cases ef)⟩
end
section
variable {X:Cx} {o e f:Expr} {fd fk fx:EF} {ap cp:Pos}
end
noncomputable def blD:PyData→Option Bool
 | .bool b=>some b
 | _=>none
theorem a3P {d:PyData} {b:Bool} (h:blD d=some b):d=.bool b:=by
 unfold blD at h
 split at h
 ·cases h;rfl
 ·cases h
noncomputable def cntD (x y:PyData):Option PyData:=match x,y with
 | .list xs,.int k=>(match dJ intD xs with | some ns=>some (.int (ns.count k:Nat)) | none=>none)
 | .list xs,.bool c=>(match dJ blD xs with | some bs=>some (.int (bs.count c:Nat)) | none=>none)
 | _,_=>none
noncomputable def idxB (x y:PyData):Option PyData:=match x,y with
 | .list xs,.bool c=>(match dJ blD xs with | some bs=>if c∈bs then some (.int (bs.idxOf c:Nat)) else none | none=>none)
 | _,_=>none
theorem jW:∀ {bs:List Bool} {us:List Value},aR (bs.map V.bl) us→us=bs.map Value.bool
 | [],_,.nil=>rfl
 | b::bs,_,.cons r t=>by cases r;rw [List.map_cons,jW t]
theorem pJ (k:Int):∀ {us:List Value} {ns:List Int},aR (ns.map V.int) us→us.countP (isInt k)=ns.count k
 | _,[],.nil=>rfl
 | _,n::ns,.cons ⟨t,e⟩ r=>by
  subst e
  rw [List.countP_cons,List.count_cons,pJ k r]
  rfl
section
variable {X:Cx} {o e:Expr} {fo fa:EF} {apos cpos:Pos}
theorem a0B:MtM X "list.count" (fun x vs H Q=>∃ (p:Addr) (ns:List Int) (k:Int),x=.ref p∧vs=[.int k]∧SqL X.K H p (ns.map V.int)∧Q (.int (ns.count k:Nat)) H):=by
 intro pins s σ H x vs v us Q I rx rv ⟨p,ns,k,e1,e2,hq,q⟩
 subst e1 e2
 cases rx
 obtain ⟨u,rfl,t,rfl⟩:=rv.one
 obtain ⟨its,r1,p1,hz⟩:=I.list hq
 obtain ⟨⟨c1,d1,t1,sl1⟩,n1,g1,k1,_,m1⟩:=p1
 dsimp only at k1 m1
 subst k1 m1
 have hi:=intsAre_of r1
 refine call_meets F.slot_list_count ⟨_,g1,rfl⟩ F.entry_list_count (F.args_list_count_2 _ _)
  (SeqAt.list_countAt p its.toArray n1 d1 sl1 (.int k t) (isInt k)) ⟨g1,fun y hy=>(eq_isInt k t hi y (by simpa using hy)).at _ _,⟨.int _,H,I.tok _,⟨_,rfl⟩,?_⟩⟩
 have:(its.toArray.toList.countP (isInt k):Nat)=ns.count k:=by simpa using pJ k r1
 rw [this];exact q
noncomputable def a2O (c:Bool):Value→Bool
 | .bool b=>b==c
 | _=>false
theorem a0C:MtM X "list.count" (fun x vs H Q=>∃ (p:Addr) (bs:List Bool) (c:Bool),x=.ref p∧vs=[.bl c]∧SqL X.K H p (bs.map V.bl)∧Q (.int (bs.count c:Nat)) H):=by
 intro pins s σ H x vs v us Q I rx rv ⟨p,bs,c,e1,e2,hq,q⟩
 subst e1 e2
 cases rx
 obtain ⟨u,rfl,rfl⟩:=rv.one
 obtain ⟨its,r1,p1,hz⟩:=I.list hq
 obtain ⟨⟨c1,d1,t1,sl1⟩,n1,g1,k1,_,m1⟩:=p1
 dsimp only at k1 m1
 subst k1 m1
 have hi:=jW r1
 subst hi
 refine call_meets F.slot_list_count ⟨_,g1,rfl⟩ F.entry_list_count (F.args_list_count_2 _ _)
  (SeqAt.list_countAt p (bs.map Value.bool).toArray n1 d1 sl1 (.bool c) (a2O c)) ⟨g1,fun y hy=>?_,⟨.int _,H,I.tok _,⟨_,rfl⟩,?_⟩⟩
 ·obtain ⟨b,_,rfl⟩:=List.mem_map.mp (show y∈bs.map Value.bool by simpa using hy)
  exact SeqAt.EqAt.bool_bool b c
 ·have:((bs.map Value.bool).toArray.toList.countP (a2O c):Nat)=bs.count c:=by
   rw [List.countP_map]
   rfl
  rw [this];exact q
theorem a0A:MtM X "list.index" (fun x vs H Q=>∃ (p:Addr) (bs:List Bool) (c:Bool),x=.ref p∧vs=[.bl c]∧SqL X.K H p (bs.map V.bl)∧c∈bs∧Q (.int (bs.idxOf c:Nat)) H):=by
 intro pins s σ H x vs v us Q I rx rv ⟨p,bs,c,e1,e2,hq,hc,q⟩
 subst e1 e2
 cases rx
 obtain ⟨u,rfl,rfl⟩:=rv.one
 obtain ⟨its,r1,p1,hz⟩:=I.list hq
 obtain ⟨⟨c1,d1,t1,sl1⟩,n1,g1,k1,_,m1⟩:=p1
 dsimp only at k1 m1
 subst k1 m1
 have hi:=jW r1
 subst hi
 have lt:bs.idxOf c<bs.length:=List.idxOf_lt_length_iff.mpr hc
 rw [List.length_map] at hz
 have hz2:(sizeLine:Nat)<2 ^ 62:=by rw [sizeLine_eq];decide
 refine call_meets F.slot_list_index ⟨_,g1,rfl⟩ F.entry_list_index (F.args_list_index_2 _ _)
  (SeqAt.list_indexAt p (bs.map Value.bool).toArray n1 d1 sl1 (.bool c) (a2O c) (bs.idxOf c) (by simpa using lt) (by omega) ?_ ?_) ⟨g1,fun y hy=>?_,⟨.int _,H,I.tok _,⟨_,rfl⟩,q⟩⟩
 ·have:=List.getElem_idxOf lt
  simpa [a2O] using this
 ·intro j hjs hlt
  have h1:j<bs.length:=by simpa using hjs
  have:=List.not_of_lt_findIdx (p:=(·==c)) (xs:=bs) hlt
  simpa [a2O] using this
 ·obtain ⟨b,_,rfl⟩:=List.mem_map.mp (show y∈bs.map Value.bool by simpa using hy)
  exact SeqAt.EqAt.bool_bool b c
theorem a3B (ho:DE X o fo) (ha:DE X e fa)
  (hbase:attributeBase o "count" X.env (eval o X.env)=eval o X.env:=by rfl)
  (hfew:((backTo cpos (starEach (e::[]) X.env)).all (fun x=>!x.1)&&(backToKw cpos (keywordEach [] X.env)).all (fun x=>x.1.isSome)&&decide ((e::[]).length+([]:List Keyword).length+(if ([]:List Keyword).isEmpty then 0 else 1)<30))=true:=by rfl)
  (hline:(apos.endLine==cpos.line)=true:=by rfl) (hst:starEach (e::[]) X.env=(false,eval e X.env)::starEach [] X.env:=by rfl) (hplain:(backTo cpos (starEach [] X.env)).any (·.1)=false:=by rfl) :
  DE X (.Call (.Attribute o "count" apos) [e] [] cpos) (dfE cntD fo fa):=pG fun ρ r h=>by
 unfold dfE at h
 split at h
 ·rename_i x y ea eb
  obtain ⟨d,ed,rfl⟩:=bI h
  refine ⟨d,rfl,?_⟩
  unfold cntD at ed
  split at ed
  ·rename_i xs k
   split at ed
   ·rename_i ns ei
    have hx:=dX (g:=PyData.int) (fun d a q=>kN q) ei
    subst hx
    cases (Option.some.inj ed)
    exact a1Y F.plainAttrs_list F.slot_list_count F.type_list_count a0B (ho.pd ea) (dD (ha.pd eb) eN hst) (fun x G H s r=>by cases r with | list hq _=>exact .inl ⟨rfl,_,s.seq hq⟩) (fun x vs G H Q s r rs q=>by
     cases r with
     | list hq ra=>
      have e:=ra.ints
      subst e
      cases rs with
      | cons r1 r2=>cases r1;cases r2;exact ⟨_,ns,k,rfl,rfl,s.seq hq,q _ G H (.refl s) (.int _)⟩) hbase hfew hline hst hplain
   ·cases ed
  ·rename_i xs c
   split at ed
   ·rename_i bs ei
    have hx:=dX (g:=PyData.bool) (fun d a q=>a3P q) ei
    subst hx
    cases (Option.some.inj ed)
    exact a1Y F.plainAttrs_list F.slot_list_count F.type_list_count a0C (ho.pd ea) (dD (ha.pd eb) eN hst) (fun x G H s r=>by cases r with | list hq _=>exact .inl ⟨rfl,_,s.seq hq⟩) (fun x vs G H Q s r rs q=>by
     cases r with
     | list hq ra=>
      have e:=ra.bools
      subst e
      cases rs with
      | cons r1 r2=>cases r1;cases r2;exact ⟨_,bs,c,rfl,rfl,s.seq hq,q _ G H (.refl s) (.int _)⟩) hbase hfew hline hst hplain
   ·cases ed
  ·cases ed
 ·cases h
theorem a0S (ho:DE X o fo) (ha:DE X e fa)
  (hbase:attributeBase o "index" X.env (eval o X.env)=eval o X.env:=by rfl)
  (hfew:((backTo cpos (starEach (e::[]) X.env)).all (fun x=>!x.1)&&(backToKw cpos (keywordEach [] X.env)).all (fun x=>x.1.isSome)&&decide ((e::[]).length+([]:List Keyword).length+(if ([]:List Keyword).isEmpty then 0 else 1)<30))=true:=by rfl)
  (hline:(apos.endLine==cpos.line)=true:=by rfl) (hst:starEach (e::[]) X.env=(false,eval e X.env)::starEach [] X.env:=by rfl) (hplain:(backTo cpos (starEach [] X.env)).any (·.1)=false:=by rfl) :
  DE X (.Call (.Attribute o "index" apos) [e] [] cpos) (dfE idxB fo fa):=pG fun ρ r h=>by
 unfold dfE at h
 split at h
 ·rename_i x y ea eb
  obtain ⟨d,ed,rfl⟩:=bI h
  refine ⟨d,rfl,?_⟩
  unfold idxB at ed
  split at ed
  ·rename_i xs c
   split at ed
   ·rename_i bs ei
    split at ed
    ·rename_i hk
     have hx:=dX (g:=PyData.bool) (fun d a q=>a3P q) ei
     subst hx
     cases (Option.some.inj ed)
     exact a1Y F.plainAttrs_list F.slot_list_index F.type_list_index a0A (ho.pd ea) (dD (ha.pd eb) eN hst) (fun x G H s r=>by cases r with | list hq _=>exact .inl ⟨rfl,_,s.seq hq⟩) (fun x vs G H Q s r rs q=>by
      cases r with
      | list hq ra=>
       have e:=ra.bools
       subst e
       cases rs with
       | cons r1 r2=>cases r1;cases r2;exact ⟨_,bs,c,rfl,rfl,s.seq hq,hk,q _ G H (.refl s) (.int _)⟩) hbase hfew hline hst hplain
    ·cases ed
   ·cases ed
  ·cases ed
 ·cases h
end
section
variable {X:Cx} {b:Expr} {fb:EF} {p pos:Pos}
end
noncomputable def yW (i:Nat) (f:AF):SF:=fun ρ=>bns (f ρ) ρ fun ds=>match ds with
 | [.list xs]=>(match dJ jQ xs with
  | some kvs=>if decide (kvs.map (·.1)).Nodup&&decide (kvs.length≤1000)&&noD i ρ then some (.nx (ρ.set i (.dct kvs))) else none
  | none=>none)
 | _=>none
section
variable {X:Cx} {a b e kx o f:Expr} {fa fk fv fd fx:EF} {pos p p2 p3 ap cp:Pos}
theorem a3q (i:Nat) {x:Str} {f:AF} (hc:X.calm=true) (hN:X.N.Nodup) (hm:X.mg "dict" = none) (h:DA X [e] f) (hg:Gl X "dict":=by rfl) (he:starEach [e] X.env=(false,eval e X.env)::starEach [] X.env:=by rfl) (hpl:(backTo p3 (starEach [] X.env)).any (·.1)=false:=by rfl)
  (hi:X.N[i]?=some x:=by rfl) (hx:Loc X.env.scope x:=by first | exact Or.inl rfl | exact Or.inr rfl)
  (hs:swapsWith (.Call (.Name "dict" p2) [e] [] p3) (some (.Name x p)) pos.line X.env=pure false:=by rfl) (hf:X.fn x=true∨X.env.scope.names.lookup x=some .local:=by first | exact .inl rfl | exact .inr rfl) :
  DS X (.Assign [.Name x p] (.Call (.Name "dict" p2) [e] [] p3) pos) (yW i f):=⟨fun pins s σ H D I ⟨ρ,o,H0,G₀,G,ef,R,q⟩=>oH hN hi hx (lR (rK hc) hg hm boot_dict h.run (by decide) (by decide) he hpl) hs hf pins s σ H D I (sA R ef q fun ds vs G1 H1 g1 R1 rv e1 q1=>by
 split at e1
 ·rename_i xs
  split at e1
  ·rename_i kvs hk
   split at e1
   ·rename_i hz
    cases (Option.some.inj e1)
    rw [Bool.and_eq_true,Bool.and_eq_true,decide_eq_true_eq,decide_eq_true_eq] at hz
    cases rv with | cons rv rr=>
    cases rr
    cases rv with
    | list hq r=>
     obtain ⟨ws,w1,w2,w3⟩:=lS r hk
     have hl:ws.length=kvs.length:=by have:=congrArg List.length w2;simpa using this
     exact ⟨_,_,ws,rfl,g1.sub.seq hq,Paired.mapP w1 (fun a b ⟨t,e1,e2⟩=>⟨t,e1,iC g1.sub e2⟩),by rw [w2];exact hz.1.1,by omega,fun l hl'=>q1 G1 _ _ (.refl _) (R1.freshD hl' (a2h hz.2) ⟨w2,w3⟩)⟩
   ·cases e1
  ·cases e1
 ·cases e1)⟩
end
theorem is_kV {P:Program} {w:World} {k:Key} {u:Value} (h:(aP P w).is k u=true):RelV (kV k) u:=by
 rw [oP] at h
 rcases aW h with ⟨i,t,rfl,rfl⟩ | ⟨x,t,rfl,rfl⟩
 ·exact ⟨t,rfl⟩
 ·exact ⟨t,rfl⟩
section
variable {X:Cx}
theorem oG {K:PySem.W.Frag} {G:Hp}:∀ (l:List (Key×V)),RepAll K G (l.map fun p=>kV p.1) (l.map fun p=>cE p.1)
 | []=>.nil
 | (.inl i,_)::l=>.cons (.int i) (oG l)
 | (.inr x,_)::l=>.cons (.str x) (oG l)
end
end L2.L3
namespace L2.L3
open PySem PySem.Spec PyProof.Rows PySem.Calls
noncomputable def lN (x y:PyData):Option Bool:=match x,y with
 | .dict D,.list ys=>(match dJ wO (D.map (·.1)),dJ wO ys with
  | some ks,some ns=>if ks.length<64∧ns.length<64 then some (!(decide (ks.length=(kC ns).length)&&ks.all fun k=>decide (k∈kC ns))) else none
  | _,_=>none)
 | _,_=>none
noncomputable def dfT (g:PyData→PyData→Option Bool) (fa fb:EF):TF:=fun ρ=>match fa ρ,fb ρ with
 | some (.ok x),some (.ok y)=>lft (g x y)
 | _,_=>none
theorem uV {P:Program} {w:World} (k:Key) (v:Value) (h:(aP P w).is k v=true):v.scannable=true:=by
 rw [oP] at h
 rcases aW h with ⟨i,t,rfl,rfl⟩ | ⟨x,t,rfl,rfl⟩<;>rfl
theorem vK:∀ (ns acc:List Str),(ns.map (Sum.inr:Str→Key)).foldl SX.addK (acc.map Sum.inr)=(ns.foldl (fun a n=>if n∈a then a else a++[n]) acc).map Sum.inr
 | [],acc=>rfl
 | n::ns,acc=>by
  rw [List.map_cons,List.foldl_cons,List.foldl_cons]
  have e:SX.addK (acc.map (Sum.inr:Str→Key)) (Sum.inr n)=(if n∈acc then acc else acc++[n]).map Sum.inr:=by
   unfold SX.addK
   have:(Sum.inr n:Key)∈acc.map Sum.inr↔n∈acc:=⟨fun h=>by obtain ⟨m,hm,e⟩:=List.mem_map.mp h;rw [←Sum.inr.inj e];exact hm,fun h=>List.mem_map.mpr ⟨n,h,rfl⟩⟩
   by_cases c:n∈acc
   ·rw [if_pos (this.mpr c),if_pos c]
   ·rw [if_neg (fun z=>c (this.mp z)),if_neg c,List.map_append];rfl
  rw [e];exact vK ns _
theorem a5c (ns:List Str):SX.metK (fun i=>(Sum.inr (ns.getD i ""):Key)) ns.length=(kC ns).map Sum.inr:=by
 unfold SX.metK
 have:(List.range ns.length).map (fun i=>(Sum.inr (ns.getD i ""):Key))=ns.map Sum.inr:=by
  refine List.ext_getElem? fun i=>?_
  rw [List.getElem?_map,List.getElem?_map]
  by_cases h:i<ns.length
  ·rw [List.getElem?_range h,List.getElem?_eq_getElem h];simp [h]
  ·rw [List.getElem?_eq_none (by simp;omega),List.getElem?_eq_none (by omega)];rfl
 rw [this]
 exact vK ns []
theorem vB:∀ {kvs:List (Key×V)} {ks:List Str},(kvs.map fun p=>cE p.1)=ks.map .str→kvs.map (·.1)=ks.map (Sum.inr:Str→Key)
 | [],[],_=>rfl
 | [],_::_,h=>by simp at h
 | _::_,[],h=>by simp at h
 | p::kvs,k::ks,h=>by
  rw [List.map_cons,List.map_cons,List.cons.injEq] at h
  rw [List.map_cons,List.map_cons,vB h.2]
  congr 1
  cases e:p.1 with
  | inl i=>rw [e] at h;cases h.1
  | inr x=>rw [e] at h;cases h.1;rfl
theorem zD:∀ {kvs:List (Key×V)} {vs:List (Key×Value)},KV kvs vs→vs.map (·.1)=kvs.map (·.1)
 | [],_,r=>by cases r;rfl
 | p::kvs,_,r=>by
  cases r with
  | cons h t=>rw [List.map_cons,List.map_cons,zD t,h.1]
theorem a5U {K:Type} [DecidableEq K] (f:Str→K) (inj:∀ a b,f a=f b→a=b) (ks ns:List Str):(decide ((ks.map f).length=(ns.map f).length)&&(ks.map f).all fun k=>decide (k∈ns.map f))=(decide (ks.length=ns.length)&&ks.all fun k=>decide (k∈ns)):=by
 rw [List.length_map,List.length_map,List.all_map]
 congr 2
 funext k
 have:f k∈ns.map f↔k∈ns:=⟨fun h=>by obtain ⟨m,hm,e⟩:=List.mem_map.mp h;rw [←inj _ _ e];exact hm,fun h=>List.mem_map.mpr ⟨k,h,rfl⟩⟩
 by_cases c:k∈ns
 ·rw [decide_eq_true c];exact decide_eq_true (this.mpr c)
 ·rw [decide_eq_false c];exact decide_eq_false fun z=>c (this.mp z)
section
variable {X:Cx} {e1 e2:Expr} {fa fb:EF} {p1 p2 q1 q2 pos:Pos}
theorem a3o (hc:X.calm=true) (hu:X.A.units+64<cLine) (m:X.mg "set" = none) (ha:DE X e1 fa) (hb:DE X e2 fb) (hg:Gl X "set":=by rfl)
  (he1:starEach [e1] X.env=(false,eval e1 X.env)::starEach [] X.env:=by rfl) (he2:starEach [e2] X.env=(false,eval e2 X.env)::starEach [] X.env:=by rfl) (hpl:∀ q,(backTo q (starEach [] X.env)).any (·.1)=false:=by exact fun _=>rfl) (hm:behindInMarks .NotEq (.Call (.Name "set" p2) [e2] [] q2)=false:=by rfl) :
  DT X (.Compare (.Call (.Name "set" p1) [e1] [] q1) [.NotEq] [.Call (.Name "set" p2) [e2] [] q2] pos) (dfT lN fa fb):=⟨fun pins s σ H Q I ⟨ρ,r,H0,G₀,G,ef,R,q⟩=>by
 unfold dfT at ef
 split at ef
 ·rename_i x y ea eb
  obtain ⟨t,et,rfl⟩:=bI ef
  unfold lN at et
  split at et
  ·rename_i D ys
   split at et
   ·rename_i ks ns hks hns
    split at et
    ·rename_i hz
     cases (Option.some.inj et)
     have ey:=dX (g:=PyData.str) (fun d a q=>yK q) hns
     have ex:=dX (g:=PyData.str) (fun d a q=>yK q) hks
     subst ey
     refine wpAny_isTrue_Compare1 (wpAny_Call_Name_kw (iG I hg m boot_set ?_)) hm
     refine callWith_type1 (thn ((dD (ha.pd ea) eN he1).run H0 G₀ G q1 pins s σ H (fun vs H1=>∃ G1,Grow G H G1 H1∧RepAll X.K G1 vs [.dict D]) I R (fun vs G1 H1 g1 rv=>⟨G1,g1,rv⟩)) fun us s1 ⟨vs,H1,I1,r1,G1,g1,rv⟩=>?_) he1 (hpl _)
     cases rv with
     | cons rv rr=>
     cases rr
     cases rv with
     | dict hq e0 rd=>
      rename_i a kvs
      obtain ⟨u,rfl,rx⟩:=vals1 r1
      cases rx
      obtain ⟨z,lo,vs',rel,dd⟩:=a3u I1.hok (nA g1.sub hq)
      have ek:kvs.map (·.1)=ks.map (Sum.inr:Str→Key):=vB (by rw [←ex,←e0])
      have ek':vs'.map (·.1)=ks.map (Sum.inr:Str→Key):=(zD rel).trans ek
      have lk:vs'.length=ks.length:=by have:=congrArg List.length ek';simpa using this
      refine SX.set_ofD (knd:=aP X.prog X.w) dd lo uV (by omega) fun h' tk g kp=>?_
      rw [ek'] at g
      have I2:Inv X pins σ H1 { s1 with heap:=h',toks:=tk }:=I1.kept fun b o z=>kp b o (Heap.lt_size z) z
      obtain ⟨o1,es1,ep1,t1,ho1,hx1,hd1,_⟩:=id g.ex
      have I3:Inv X (pins++kB [s1.heap.objs.size] h') σ H1 { s1 with heap:=h',toks:=tk }:=I2.pinned (fun b hb=>by
       rw [List.mem_singleton.mp hb];exact I1.fpOk (Nat.le_refl _) (I1.hok.fresh (Nat.le_refl _))) (fun b hb=>by
       rw [List.mem_singleton.mp hb]
       exact ⟨o1,ho1,fun v z=>by rw [hd1] at z;cases z⟩)
      refine wpAny_Call_Name_kw (iG I3 hg m boot_set ?_)
      refine callWith_type1 (thn ((dD (hb.pd eb) eN he2).run H0 G₀ G1 q2 (pins++kB [s1.heap.objs.size] h') _ σ H1 (fun vs H2=>∃ G2,Grow G1 H1 G2 H2∧RepAll X.K G2 vs [.list (ns.map .str)]) I3 (R.more g1) (fun vs G2 H2 g2 rv=>⟨G2,g2,rv⟩)) fun us s3 ⟨vs,H2,I4,r2,G2,g2,rv2⟩=>?_) he2 (hpl _)
      cases rv2 with
      | cons rv2 rr2=>
      cases rr2
      cases rv2 with
      | list hq2 ra2=>
       have e5:=ra2.strs
       subst e5
       obtain ⟨u,rfl,rx⟩:=vals1 r2
       cases rx
       obtain ⟨its,rvl,pl,hzl⟩:=I4.list (g2.sub.seq hq2)
       have hi:=wN rvl
       have hl:its.length=ns.length:=uI hi
       have hsz:its.toArray.size=ns.length:=by rw [List.size_toArray,hl]
       refine SX.set_of (knd:=aP X.prog X.w) (val:=fun i=>Sum.inr (ns.getD i "")) (I4.ok.hd hc) pl.isList (fun i v e=>?_) (fun i v A' E' s' Q' e q'=>?_) ?_ fun h2 tk2 gb kp2=>?_
       ·obtain ⟨t,rfl⟩:=yJ hi i v (by simpa using e)
        exact ⟨fQ _ _ _ _,rfl⟩
       ·obtain ⟨t,rfl⟩:=yJ hi i v (by simpa using e)
        exact (aP X.prog X.w).pyHash (k:=Sum.inr (ns.getD i "")) (fQ _ _ _ _) q'
       ·rw [hsz];exact Nat.lt_of_le_of_lt (Nat.succ_le_of_lt hz.2) (by decide)
       ·rw [hsz,a5c] at gb
        have pin1:s3.heap.get? s1.heap.objs.size=some o1:=(I4.pin _ (List.mem_append_right _ (List.mem_append_right _ (eY List.mem_cons_self ho1)))).1
        have ga:SX.Good (aP X.prog X.w) h2 s1.heap.objs.size (ks.map Sum.inr) (SX.ledOf X.w):=g.keeps fun o eo=>by
         rw [ho1] at eo
         cases eo
         exact kp2 _ _ (Heap.lt_size pin1) pin1
        have I5:Inv X pins σ H2 { s3 with heap:=h2,toks:=tk2 }:=(I4.unpinned).kept fun b o z=>kp2 b o (Heap.lt_size z) z
        show wpAny _ _ (richCompare .NotEq (.ref s1.heap.objs.size) (.ref s3.heap.objs.size)) _ _ _
        refine SX.sets_ne ga gb uV (by omega) ?_
        refine wpAny_truthy_bool ⟨H2,I5,?_⟩
        rw [a5U (Sum.inr:Str→Key) (fun a b h=>Sum.inr.inj h)]
        exact q G2 H2 (g1.trans g2)
    ·cases et
   ·cases et
  ·cases et
 ·cases ef⟩
end
end L2.L3
namespace L2.L3
open PySem PySem.Spec PyProof.Rows
section
variable {X:Cx}
end
end L2.L3
namespace L2.L3
open PySem PySem.Spec PyProof.Rows
section
variable {X:Cx} {elt iter tg:Expr} {ifs:List Expr} {scope:Scope} {pos spos p:Pos} {N':List Str} {cap:List (Option Nat)} {t:Tg} {fi:AF} {ft:TF} {fe:EF}
end
end L2.L3
namespace L2.L3
open PySem PySem.Spec PyProof.Rows
noncomputable def jR:List (PyData×PyData)→Option (List (Key×PyData))
 | []=>some []
 | p::r=>match pI p.1,jR r with
  | some k,some l=>some ((k,p.2)::l)
  | _,_=>none
noncomputable def uS (i:Nat) (fa:EF):SF:=fun ρ=>bns (fa ρ) ρ fun d=>match d with
 | .dict D=>(match jR D with
  | some kvs=>if decide (kvs.length≤1000)&&noD i ρ then some (.nx (ρ.set i (.dct kvs))) else none
  | none=>none)
 | _=>none
end L2.L3
namespace L2.L3
open PySem PySem.Spec PyProof.Rows
section
variable {X:Cx} {pins:List (Addr×Obj)} {σ:St} {H:Hp} {s:Shared} {a:Addr} {o o':HO}
theorem Inv.as (I:Inv X pins σ H s) (e:H a=some o) (h1:∀ xs,o≠.tup xs) (h2:∀ ob u,X.H₀ a≠some (.frz ob u)) (h3:∀ p,o≠.tbl p) (h4:∀ x,o≠.own x)
  (new:bR X.prog X.w (upd H a o') s.heap a o'):Inv X pins σ (upd H a o') s:=by
 have ne:∀ b,H b=none→b≠a:=fun b hb z=>by rw [z,e] at hb;cases hb
 have nu:∀ b,H b=none→upd H a o' b=none:=fun b hb=>by rw [aD (ne b hb)];exact hb
 refine ⟨I.ok,I.os,I.bare,⟨I.base.keep,I.base.slot,fun b ob q n hx=>nu b (I.base.free b ob q n hx),I.base.there,fun b xs q=>?_,fun b ob u q=>?_,fun b ps q=>?_⟩,I.loc,I.cell,nu _ I.free,fun x c q=>nu _ (I.freeC x c q),fun p hp=>?_,fun b u q=>?_,I.len⟩
 ·have z:=I.base.tups b xs q
  rw [aD (fun y=>by rw [y,e] at z;exact h1 _ (Option.some.inj z))];exact z
 ·rw [aD (fun y=>h2 ob u (by rw [←y];exact q))];exact I.base.frzs b ob u q
 ·obtain ⟨m,z⟩:=I.base.tbls b ps q
  exact ⟨m,by rw [aD (fun y=>by rw [y,e] at z;exact h3 _ (Option.some.inj z))];exact z⟩
 ·obtain ⟨e1,n,r⟩:=I.pin p hp
  exact ⟨e1,nu _ n,r⟩
 ·by_cases hb:b=a
  ·subst hb;rw [aF] at q;cases q;exact new
  ·rw [aD hb] at q
   refine (I.hok b u q).stay (fun _ _ _ z=>z) (fun c z=>?_) fun c xs z=>?_
   ·rw [aD (fun y=>by rw [y,e] at z;exact h4 _ (Option.some.inj z))];exact z
   ·rw [aD (fun y=>by rw [y,e] at z;exact h1 _ (Option.some.inj z))];exact z
end
theorem kv_at {kvs:List (Key×V)} {vs:List (Key×Value)} (r:KV kvs vs) {i:Nat} {p:Key×V} (h:kvs[i]?=some p):∃ u,vs[i]?=some (p.1,u)∧RelV p.2 u:=by
 unfold KV at r
 induction r generalizing i with
 | nil=>simp at h
 | @cons x y _ _ h1 t ih=>
  cases i with
  | zero=>simp at h;subst h;exact ⟨y.2,by simp [h1.1],h1.2⟩
  | succ i=>simpa using ih (by simpa using h)
section
variable {X:Cx} {o tg:Expr} {td:TE} {apos cpos:Pos}
end
section
variable {X:Cx} {elt tg:Expr} {ifs:List Expr} {scope:Scope} {pos spos p apos cpos xp:Pos} {N':List Str} {cap:List (Option Nat)} {t:Tg} {fi:AF} {ft:TF} {fe:EF}
theorem Tab.as {a P:Addr} {q:Str} {H:Hp} {o o':HO} (e:H a=some o) (h3:∀ p,o≠.tbl p) (hcd:∀ n,o≠cdO a n) (h:Tab P q H):Tab P q (upd H a o'):=by
 obtain ⟨ps,g1,g2,g3⟩:=h
 refine ⟨ps,by rw [aD (fun z=>by rw [z,e] at g1;exact h3 _ (Option.some.inj g1))];exact g1,g2,fun p cv q1=>?_⟩
 obtain ⟨d,e1,e2⟩:=g3 p cv q1
 exact ⟨d,e1,by rw [aD (fun z=>by subst z;rw [e] at e2;exact hcd _ (Option.some.inj e2))];exact e2⟩
theorem frz_in {X:Cx} {pins:List (Addr×Obj)} {σ:St} {G H:Hp} {s:Shared} {a:Addr} {kvs:List (Key×V)} (I:Inv X pins σ H s) (hs:aS G H) (h:Rd G a (.dK kvs)) :
  ∃ ob o0,G a=some o0∧(∀ p,o0≠.tbl p)∧(∀ n,o0≠cdO a n)∧Inv X pins σ (upd H a (.frz ob (.dK kvs))) s∧∀ (s':Shared) (H':Hp),Inv X pins σ H' s'→H' a=some (.frz ob (.dK kvs))→Inv X pins σ (upd H' a o0) s':=by
 rcases h with hGa | ⟨ob,hGf⟩
 ·have hHa:=hs _ _ hGa
  obtain ⟨z,lo,vs,rel,dd⟩:=dk_of I.hok hHa
  obtain ⟨ob,es0,ep,hob,hr⟩:=id dd
  have nfr:∀ ob u,X.H₀ a≠some (.frz ob u):=fun ob' u y=>by
   have:=I.base.frzs a ob' u y
   rw [hHa] at this;cases this
  refine ⟨ob,.dK kvs,hGa,by nofun,by unfold cdO;nofun,Inv.as (o':=.frz ob (.dK kvs)) I hHa (by nofun) nfr (by nofun) (by nofun) ⟨hob,z,lo,vs,rel,dd⟩,fun s' H' I' ha'=>?_⟩
  obtain ⟨_,z',lo',vs',rel',dd'⟩:=(show s'.heap.get? a=some ob∧kvs.length≤sizeLine∧(a==sysModules)=false∧∃ vs,KV kvs vs∧s'.heap.DictOf (aP X.prog X.w) a vs from I'.hok a _ ha')
  exact Inv.as (o':=.dK kvs) I' ha' (by nofun) nfr (by nofun) (by nofun) ⟨z',lo',vs',rel',dd'⟩
 ·have up:∀ (H':Hp),H' a=some (.frz ob (.dK kvs))→upd H' a (.frz ob (.dK kvs))=H':=fun H' e=>by
   funext b
   by_cases hb:b=a
   ·rw [hb,aF,e]
   ·rw [aD hb]
  refine ⟨ob,.frz ob (.dK kvs),hGf,by nofun,by unfold cdO;nofun,by rw [up H (hs _ _ hGf)];exact I,fun s' H' I' ha'=>by rw [up H' ha'];exact I'⟩
end
end L2.L3
namespace L2.L3
open PySem PySem.Spec PyProof.Rows
section
variable {X:Cx} {e:Expr} {fa:EF} {pos p p2 p3:Pos}
theorem yA:dP X (.type "dict") (fun xs H Q=>∃ a kvs,xs=[V.ref a]∧Rd H a (.dK kvs)∧∀ l,H l=none→Q (.ref l) (upd H l (.dK kvs))):=by
 intro pins s σ H xs us Q I r h
 obtain ⟨a,kvs,rfl,ha,q⟩:=h
 obtain ⟨u,rfl,rx⟩:=vals1 r
 cases rx
 obtain ⟨z,lo,vs,rel,dd⟩:=a3u I.hok ha
 refine kt_call_dict lo dd (by rw [←rel.length];exact z) fun h' dd' hs=>?_
 refine ⟨.ref s.heap.objs.size,_,I.laid (a:=s.heap.objs.size) (o:=.dK kvs) (t':=s.toks) (fun b o ho=>?_) (Nat.le_refl _) (a3v z (beq_eq_false_iff_ne.mpr (Ne.symm (Nat.ne_of_lt I.big))) rel dd'),rfl,q _ (I.hok.fresh (Nat.le_refl _))⟩
 exact (hs.2 b (Nat.ne_of_lt (Heap.lt_size ho))).trans (Heap.get?_push_of_some _ ho)
theorem vC:∀ {D:List (PyData×PyData)} {kvs:List (Key×PyData)},jR D=some kvs→D=kvs.map fun p=>(cE p.1,p.2):=by
 intro D
 induction D with
 | nil=>intro kvs h;cases (Option.some.inj h);rfl
 | cons p r ih=>
  intro kvs h
  unfold jR at h
  split at h
  ·rename_i k l hk hl
   cases (Option.some.inj h)
   rw [List.map_cons,←ih hl,←nJ hk]
  ·cases h
theorem a2H {k l:Key} (h:cE k=cE l):k=l:=by
 have:=congrArg pI h
 rw [mD,mD] at this
 exact Option.some.inj this
theorem a2v:∀ {a b:List Key},a.map cE=b.map cE→a=b:=by
 intro a
 induction a with
 | nil=>intro b h;cases b with | nil=>rfl | cons _ _=>cases h
 | cons x a ih=>
  intro b h
  cases b with
  | nil=>cases h
  | cons y b=>
   rw [List.map_cons,List.map_cons,List.cons.injEq] at h
   rw [a2H h.1,ih h.2]
noncomputable def dcK (i:Nat) (ρ:List Ent):List PyData→Option So
 | [d]=>(match d with
  | .dict D=>(match jR D with
   | some kvs=>if decide (kvs.length≤1000)&&noD i ρ then some (.nx (ρ.set i (.dct kvs))) else none
   | none=>none)
  | _=>none)
 | _=>none
theorem a3r (i:Nat) {x:Str} (hN:X.N.Nodup) (hm:X.mg "dict" = none) (h:DE X e fa) (hg:Gl X "dict":=by rfl) (he:starEach [e] X.env=(false,eval e X.env)::starEach [] X.env:=by rfl) (hpl:(backTo p3 (starEach [] X.env)).any (·.1)=false:=by rfl)
  (hi:X.N[i]?=some x:=by rfl) (hx:Loc X.env.scope x:=by first | exact Or.inl rfl | exact Or.inr rfl)
  (hs:swapsWith (.Call (.Name "dict" p2) [e] [] p3) (some (.Name x p)) pos.line X.env=pure false:=by rfl) (hf:X.fn x=true∨X.env.scope.names.lookup x=some .local:=by first | exact .inl rfl | exact .inr rfl) :
  DS X (.Assign [.Name x p] (.Call (.Name "dict" p2) [e] [] p3) pos) (uS i fa):=⟨fun pins s σ H D I ⟨ρ,o,H0,G₀,G,ef,R,q⟩=>oH hN hi hx (lR yA hg hm boot_dict (aA h aI he).run (by decide) (by decide) he hpl) hs hf pins s σ H D I (by
 unfold uS at ef
 have ef':bns (aC fa aJ ρ) ρ (dcK i ρ)=some o:=by
  rcases gW ef with ⟨d,e1,e2⟩ | ⟨c,e1,e2⟩
  ·have:aC fa aJ ρ=some (.ok [d]):=by unfold aC;rw [e1];rfl
   rw [this];exact e2
  ·have:aC fa aJ ρ=some (.ex c):=by unfold aC;rw [e1];rfl
   rw [this,e2];rfl
 refine sA R ef' q fun ds vs G1 H1 g1 R1 rv e1 q1=>?_
 unfold dcK at e1
 split at e1
 ·cases rv with | cons rv rr=>
  cases rr
  split at e1
  ·rename_i d D
   cases rv with
   | @dict a vs _ hGa e0 rr=>
   split at e1
   ·rename_i kvs hk
    split at e1
    ·rename_i hz
     cases (Option.some.inj e1)
     rw [Bool.and_eq_true,decide_eq_true_eq] at hz
     refine ⟨a,vs,rfl,nA g1.sub hGa,fun l hl=>q1 G1 _ _ (.refl _) (R1.freshD hl (a2h hz.2) ⟨?_,?_⟩)⟩
     ·have e2:=vC hk
      rw [e2,List.map_map] at e0
      refine (a2v (a:=kvs.map (·.1)) (b:=vs.map (·.1)) ?_).symm
      rw [List.map_map,List.map_map];exact e0
     ·rw [vC hk,List.map_map] at rr;exact rr
    ·cases e1
   ·cases e1
  ·cases e1
 ·cases e1)⟩
open Classical in
noncomputable def mask (G H G2:Hp):Hp:=fun b=>if G b=none∧((∃ xs,H b=some (.lst xs))∨∃ kvs,H b=some (.dK kvs)) then none else G2 b
end
section
variable {X:Cx} {elt iter tg:Expr} {ifs:List Expr} {scope:Scope} {pos spos p:Pos} {N':List Str} {cap:List (Option Nat)} {t:Tg} {fi:AF} {ft:TF} {fe:EF}
end
end L2.L3
namespace L2.L3
open PySem PySem.Spec PyProof.Rows PySem.W PySem.Builtin PySem.Builtin.ObjectAttr PySem.Builtin.Getset_descriptor
noncomputable abbrev bmVE:List Value:=[.type "ValueError", .type "Exception", .type "BaseException", .type "object"]
structure XCls (K:Frag) (C:Addr):Prop where
 ex:excIn K C bmVE "ValueError.__new__" = true
 ga:findIn K (.ref C) "__getattribute__" = some (some (.builtin "BaseException.__getattribute__"))
 nga:findIn K (.ref C) "__getattr__" = some none
 cl:findIn K (.ref C) "__class__" = some (some (.builtin "object.__class__"))
 ob:mroIn K C (.type "object")=some true
theorem XCls.obj {K:Frag} {C:Addr} {h:Heap} (x:XCls K C) (X:K.In h):∃ bm N nm q bs hdct sn sub ab col dd k0 k1 k2 k3 k5 mN,h.get? C=some (excClassObj nm q C N bs bm hdct sn sub ab col dd k0 k1 k2 k3 k5 "ValueError.__new__")∧h.Ns N mN∧mN "__init__" = none∧OwnTail h bmVE bm:=by
 have q:=x.ex
 unfold excIn at q
 split at q
 ·rename_i dd cd sl ho
  split at q
  ·rename_i C' bm k0 k1 k2 k3 n k5 hm hs
   simp only [Bool.and_eq_true,beq_iff_eq,Bool.not_eq_true'] at q
   obtain ⟨⟨⟨⟨⟨rfl,rfl⟩,hdel⟩,ht⟩,hok⟩,hni⟩:=q
   obtain ⟨nm,bs,mro,ns,qn,hd,sn,sub,ab,col,del⟩:=cd
   dsimp only at hm hdel hok hni
   subst hm hdel
   have hsl:sl=#[k0,k1,k2,k3,some (.builtin "ValueError.__new__"),k5]:=by
    obtain ⟨l⟩:=sl
    simp only at hs
    rw [hs]
   subst hsl
   exact ⟨bm,ns,nm,qn,bs,hd,sn,sub,ab,col,dd,k0,k1,k2,k3,k5,_,X _ _ ho,.of_isNs (isNs_of_in X hok),nsMap_none_of_in X hok hni,tail_of_in X ht⟩
  ·cases q
 ·cases q
section
variable {prog:Program} {w:World} {A:Around} {E:Value→Shared→Prop} {s:Shared} {K:Frag} {C D a:Addr} {ox:Obj}
theorem xc_get {R:Result→Shared→Prop} {tp:Value} (x:XCls K C) (X:K.In s.heap) (I:ExO s.heap a C ox) (h:R (.ok (.ret (.ref C))) s) :
  codeAny (model prog w) A (.call (.builtin "getset_descriptor.__get__") ⟨[.builtin "object.__class__", .ref a,tp],[]⟩) R s:=by
 obtain ⟨hh,g,dr,t,os⟩:=s
 have L0:=I.type (M:=model prog w)
 have L1:=looks_mroIn (M:=model prog w) X x.ob
 refine codeAny_call_builtin KF.slot_gs.plain KF.entry_gs (KF.slot_gs.check _ _ _ _ _ _ _ _ KF.type_class (KF.args_gs _ _ _) ?_)
 unfold Builtin.«getset_descriptor.__get__» descrGet
 rw [dga_obj]
 refine wpAny_bind (wpAny_pure ?_)
 unfold descrGetter descrCheckInstance descrNameAndClass isInstance
 simp only [KF.owner_class]
 repeat lk
 refine ⟨Code.quiet_builtin _ (by decide +kernel),codeAny_builtin KF.entry_class ?_⟩
 unfold Builtin.«object.__class__» shownTypeOf
 repeat lk
 exact h
theorem a1i {tk:Tok} {Q:Fin→Shared→Prop} (x:XCls K C) (X:K.In s.heap) (I:ExO s.heap a C ox) (hq:Q (.done (.ret (.ref C))) s) :
  wpAny (model prog w) A (Builtin.«object.__getattribute__» ⟨[.ref a,.str "__class__" tk],[]⟩) Q E s:=by
 obtain ⟨hh,g,d,t,os⟩:=s
 have L0:=I.type (M:=model prog w)
 have L3:=looks_findIn (M:=model prog w) X x.cl
 have hT5:(⟨hh,g,d,t,os⟩:Shared).TypeIs (.builtin "object.__class__") "getset_descriptor" := PySem.F.typeOf_object_class
 have f5:=PySem.F.typeOf_object_class
 have f6:=PySem.F.slot_gs_get.lookup
 have f7:=PySem.F.slot_gs_set.lookup
 repeat (any_goals (first | assumption | with_reducible refine L0.at ?_ | with_reducible refine L3.at ?_ | wp_step))
 refine xc_get x X I ?_
 repeat (any_goals (first | assumption | wp_step))
theorem a1k {M:Model} {nameV:Value} {Q:Unit→Shared→Prop} (x:XCls K C) (X:K.In s.heap) (I:ExO s.heap a C ox) (hq:Q () s) :
  wpAny M A (checkBuiltinCall "BaseException.__getattribute__" ⟨[.ref a,nameV],[]⟩) Q E s:=by
 obtain ⟨bm,N,nm,q,bs,hdct,sn,sub,ab,col,dd,k0,k1,k2,k3,k5,mN,hC,hN,hni,T⟩:=x.obj X
 obtain ⟨hh,g,d,t,os⟩:=s
 have hk:builtinKind "BaseException.__getattribute__" = some .slot:=by decide +kernel
 have hsplit:splitId "BaseException.__getattribute__" = some ("BaseException", "__getattribute__"):=by decide +kernel
 have hcB:(Value.ref C::bm).contains (.type "BaseException")=true:=by rw [List.contains_cons,T.hasType (X := "BaseException") (b:=true) rfl];rfl
 have ha:=PySem.F.args_bexc_ga (.ref a) nameV
 simp only [checkBuiltinCall,hk,hsplit]
 refine wpAny_bind ?_
 ·unfold isInstance
  repeat (first | (with_reducible refine wpAny_loadPart_at I.at_ ?_;rw [I.cls]) | (with_reducible refine wpAny_isSubtype_exc hC ?_;rw [hcB]) | wp_step)
  exact hq
theorem a3X {tk:Tok} {R:Result→Shared→Prop} (x:XCls K C) (X:K.In s.heap) (I:ExO s.heap a C ox) (hq:R (.ok (.ret (.ref C))) s) :
  codeAny (model prog w) A (.call (.builtin "BaseException.__getattribute__") ⟨[.ref a,.str "__class__" tk],[]⟩) R s:=
 codeAny_call_builtin PySem.F.attrBase_ValueError.ga.plain PySem.F.entry_bexc_ga (a1k x X I (a1i x X I hq))
theorem xc_by {tk:Tok} {Q:Value→Shared→Prop} (x:XCls K C) (X:K.In s.heap) (I:ExO s.heap a C ox) (hq:Q (.ref C) s) :
  wpAny (model prog w) A (getAttrBy (.ref a) (.str "__class__" tk) false) Q E s:=by
 obtain ⟨hh,g,d,t,os⟩:=s
 have L0:=I.type (M:=model prog w)
 have L1:=looks_findIn (M:=model prog w) X x.ga
 have L2:=looks_findIn (M:=model prog w) X x.nga
 have f3:=PySem.F.attrBase_ValueError.ga.bind (.ref a)
 have hx2:(Value.builtin "BaseException.__getattribute__" == Value.builtin "object.__getattribute__")=false:=by decide +kernel
 have hx1:(onTheHeap (Value.ref C)&&Value.builtin "BaseException.__getattribute__" == Value.builtin "object.__getattribute__")=false:=by rw [hx2];rfl
 repeat (any_goals (first | assumption | with_reducible refine L0.at ?_ | with_reducible refine L1.at ?_ | with_reducible refine L2.at ?_ | wp_step))
 refine a3X x X I ?_
 repeat (any_goals (first | assumption | wp_step))
theorem a1j {Q:Option Value→Shared→Prop} (x:XCls K C) (X:K.In s.heap) (I:ExO s.heap a C ox) (hq:Q (some (.ref C)) { s with toks:=s.toks+1 }) :
  wpAny (model prog w) A (getAttr? (.ref a) "__class__") Q E s:=by
 obtain ⟨hh,g,d,t,os⟩:=s
 unfold getAttr? getAttrBy?
 exact wpAny_bind (wpAny_mkText (wpAny_bind (wpAny_attempt (xc_by (s:=⟨hh,g,d,t+1,os⟩) x X I (wpAny_pure hq)))))
theorem sB {c:Value} {dep:Int} {tk:Tok} {Q:Fin→Shared→Prop} (x:XCls K C) (X:K.In s.heap) (I:ExO s.heap a C ox) (hty:Looks (model prog w) s.heap (typeOf c) (.type "type")) (his:Looks (model prog w) s.heap (isType c) true)
  (hne:(Value.ref C==c)=false) (hsub:Looks (model prog w) s.heap (isSubtype (.ref C) c) false) (h:Q (.done (.ret (.bool false))) { s with toks:=s.toks+1 }) :
  wpAny (model prog w) A (Builtin.«isinstance.nested» ⟨[.ref a,c,.int dep tk],[]⟩) Q E s:=by
 obtain ⟨bm,N,nm,q,bs,hdct,sn,sub,ab,col,dd,k0,k1,k2,k3,k5,mN,hC,hN,hni,T⟩:=x.obj X
 have hisD:Looks (model prog w) s.heap (isType (.ref C)) true:=by
  intro A' Q' E' s' k q
  unfold isType loadHead
  exact wpAny_bind (wpAny_loadPart (k _ _ hC) (wpAny_pure q))
 obtain ⟨h0,g,d,tt,os⟩:=s
 have L0:=I.type (M:=model prog w)
 have LI:Looks (model prog w) h0 (isInstance (.ref a) c) false:=L0.andThen hsub
 unfold Builtin.«isinstance.nested»
 refine wpAny_bind (L0.at ?_)
 rw [if_neg (fun q=>by rw [hne] at q;exact Bool.noConfusion q)]
 refine wpAny_bind (hty.at ?_)
 rw [if_pos (by decide)]
 k_delta "plainIsInstance"
 refine wpAny_bind (wpAny_bind (his.at ?_))
 simp only [Bool.not_true,Bool.false_eq_true,if_false]
 refine wpAny_bind (LI.at ?_)
 simp only [Bool.false_eq_true,if_false]
 refine wpAny_bind (a1j x X I ?_)
 refine wpAny_bind (hisD.at ?_)
 simp only [Bool.not_true,Bool.false_eq_true,if_false]
 refine wpAny_bind (wpAny_rule ?_)
 refine hsub.at ?_
 first
  | exact wpAny_pure h
  | exact wpAny_pure (wpAny_pure h)
  | exact wpAny_bind (wpAny_pure (wpAny_pure h))
theorem a1h {Q:Value→Shared→Prop} (x:XCls K C) (y:XCls K D) (X:K.In s.heap) (I:ExO s.heap a C ox) (hne:C≠D) (hty:typeIn K (.ref D)=some (.type "type")) (hs:subIn K (.ref C) (.ref D)=some false) (h:Q (.bool false) { s with toks:=s.toks+1 }) :
  wpAny (model prog w) A (call (.builtin "isinstance") [.ref a,.ref D]) Q E s:=
 call_isinstance (S:=fun _ R s=>(K.In s.heap∧ExO s.heap a C ox)∧R (.ok (.ret (.bool false))) { s with toks:=s.toks+1 })
  (fun _ _ _ _ _ hs'=>isinstance_outer (sB x hs'.1.1 hs'.1.2 (looks_typeIn hs'.1.1 hty) (by
   obtain ⟨bm,N,nm,q,bs,hdct,sn,sub,ab,col,dd,k0,k1,k2,k3,k5,mN,hC,_⟩:=y.obj hs'.1.1
   intro A' Q' E' s' k q
   unfold isType loadHead
   exact wpAny_bind (wpAny_loadPart (k _ _ hC) (wpAny_pure q))) (Bool.eq_false_iff.mpr fun q=>hne (Value.ref.inj (beq_iff_eq.mp q))) (looks_subIn hs'.1.1 hs) hs'.2) (by intro q;cases q)) ⟨⟨X,I⟩,h⟩
theorem xc_is {Q:Value→Shared→Prop} (X:K.In s.heap) (I:ExO s.heap a C ox) (e:isIn K (.ref C) D=true) (h:Q (.bool true) s) :
  wpAny (model prog w) A (call (.builtin "isinstance") [.ref a,.ref D]) Q E s:=isi_call X (fun _=>I.type) e (by intro q;cases q) h
theorem xc_isT {T:String} {Q:Value→Shared→Prop} (X:K.In s.heap) (I:ExO s.heap a C ox) (hty:typeOf (.type T)=pure (.type "type")) (e:subIn K (.ref C) (.type T)=some true) (h:Q (.bool true) s) :
  wpAny (model prog w) A (call (.builtin "isinstance") [.ref a,.type T]) Q E s:=by
 refine PyProof.Rows.call_isinstance_of ?_ (by intro q;cases q)
 obtain ⟨hh,g,d,t,os⟩:=s
 have L0:=I.type (M:=model prog w)
 have L1:=looks_subIn (M:=model prog w) X e
 unfold Builtin.«isinstance.nested»
 refine wpAny_bind (L0.at ?_)
 rw [if_neg (fun q=>by cases beq_iff_eq.mp q)]
 refine wpAny_bind (m:=typeOf (.type T)) (wpAny_of_eq hty ?_)
 rw [if_pos (by decide)]
 refine wpAny_bind (wpAny_bind (m:=isType (.type T)) (wpAny_pure (a:=true) ?_))
 refine wpAny_bind (m:=isInstance (.ref a) (.type T)) ((L0.andThen L1).at ?_)
 exact wpAny_pure (a:=true) (wpAny_pure h)
theorem a1g {M:Model} {Q:Bool→Shared→Prop} (x:XCls K C) (y:XCls K D) (X:K.In s.heap) (I:ExO s.heap a C ox) (hs:subIn K (.ref C) (.ref D)=some true) (hq:Q true s):wpAny M A (excMatches (.ref a) (.ref D)) Q E s:=by
 obtain ⟨bm,N,nm,q,bs,hdct,sn,sub,ab,col,dd,k0,k1,k2,k3,k5,mN,hC,hN,hni,T⟩:=y.obj X
 obtain ⟨hh,g,d,t,os⟩:=s
 have L1:=looks_subIn (M:=M) X hs
 have hcB:(Value.ref D::bm).contains (.type "BaseException")=true:=by rw [List.contains_cons,T.hasType (X := "BaseException") (b:=true) rfl];rfl
 have f:=tc_notTuple
 unfold excMatches
 repeat (first | (with_reducible refine wpAny_loadPart_at I.at_ ?_;rw [I.cls]) | with_reducible refine wpAny_loadPart_at hC ?_ | with_reducible refine L1.at ?_ | (with_reducible refine wpAny_isSubtype_exc hC ?_;rw [hcB]) | wp_step)
 exact hq
end
end L2.L3
namespace L2.L3
open PySem PySem.Spec PyProof.Rows
section
variable {X:Cx} {pins:List (Addr×Obj)} {σ:St} {H:Hp} {s:Shared}
theorem tH (I:Inv X pins σ H s) {b:Addr} (h:s.heap.get? b=none):rY X b:=by
 refine ⟨?_,fun p hp z=>?_⟩
 ·cases q:X.s₀.heap.get? b with
  | none=>exact .inr rfl
  | some o=>
   refine .inl (Classical.byContradiction fun n=>?_)
   obtain ⟨o',e⟩:=I.base.there b o q n
   rw [h] at e;cases e
 ·obtain ⟨e,_⟩:=I.pin p (List.mem_append_left _ hp)
  rw [z,h] at e;cases e
end
section
variable {X:Cx} {st:Stmt} {f:SF}
noncomputable def a2e (f:SF):SF:=fun ρ=>match f ρ with
 | some (.xc _ _)=>none
 | r=>r
theorem ds_nox (h:DS X.nox st f):DS X st (a2e f):=⟨fun pins s σ H D I ⟨ρ,o,H0,G₀,G,e,R,q⟩=>by
 have ⟨e',n⟩:f ρ=some o∧∀ c ρ',o≠.xc c ρ':=by
  unfold a2e at e
  split at e
  ·cases e
  ·rename_i z
   exact ⟨e,fun c ρ' w=>z c ρ' (by rw [e,w])⟩
 have q':mG X.nox H0 G₀ G D o:=by
  cases o with
  | nx ρ'=>exact q
  | rt d=>exact q
  | bk ρ'=>exact q
  | ct ρ'=>exact q
  | xc c ρ'=>exact absurd rfl (n c ρ')
 exact wpAny_mono (h.run pins s σ H D (I.wish _) ⟨ρ,o,H0,G₀,G,e',R,q'⟩) (fun _ _ z=>z.unwish) fun _ _ z=>False.elim z⟩
noncomputable def wU (c:Str):SF:=fun ρ=>some (.xc c ρ)
theorem a3p {x m:Str} {C:Addr} {np sp cpos pos:Pos} {j} (hc:X.calm=true) (hE:eP X.K x=some C) (hX:XCls X.K C) (hg:Gl X x:=by rfl) (hdb:(x==("__debug__" : Str))=false:=by decide)
  (he:starEach [.Constant (.str m) j sp] X.env=(false,eval (.Constant (.str m) j sp) X.env)::starEach [] X.env:=by rfl) (hpl:(backTo cpos (starEach [] X.env)).any (·.1)=false:=by rfl) :
  DS X (.Raise (some (.Call (.Name x np) [.Constant (.str m) j sp] [] cpos)) none pos) (wU x):=⟨fun pins s σ H D I ⟨ρ,o,H0,G₀,G,e,R,q⟩=>by
 cases (Option.some.inj e)
 obtain ⟨bm,N,nm,qn,bs,hdct,sn,sub,ab,col,dd,k0,k1,k2,k3,k5,mN,hC,hN,hni,T⟩:=hX.obj I.mod.kin
 have hm:X.mg x=some (.ref C):=PySem.W.mg_of I.mod.kin I.mod.glob (tL hE)
 refine wpAny_Raise_call_subT (C:=C) (nm:=nm) (q:=qn) (N:=N) (bs:=bs) (bm:=bm) (hdct:=hdct) (sn:=sn) (sub:=sub) (ab:=ab) (col:=col) (dd:=dd) (k0:=k0) (k1:=k1) (k2:=k2) (k3:=k3) (k5:=k5)
  PySem.F.excBase_ValueError (mN:=mN) (T.hasType PySem.F.excBase_ValueError.hasBase) (I.ok.hd hc) (by rw [he];show (false || (backTo cpos (starEach [] X.env)).any (·.1))=false;rw [hpl];rfl) hni (kK I hg hm ⟨rfl,?_⟩ hdb)
 have h:=dR (X:=X) (a1T:PE X (.Constant (.str m) j sp) (tC (.str m))) iZ he cpos pins s σ H (fun vs H'=>vs=[.str m]∧H'=H) I ⟨rfl,rfl⟩
 rw [he] at h ⊢
 refine Calls.evalArgs_plain (thn h fun us s2 ⟨vs,H',I2,rv,e1,e2⟩=>?_)
 subst e1 e2
 refine ⟨rfl,by rw [←rv.length];show 1≤sizeLine;decide,I2.bk _ _ hC,hN.keeps I2.bk,T.keeps I2.bk,fun h' a hm'=>?_⟩
 obtain ⟨t,ht,_,_⟩:=hm'.there
 exact q pins { s2 with heap:=h' } σ H' G _ (I2.kept (t':=s2.toks) hm'.keeps) R (.refl _) ⟨a,C,rfl,hE,.inl (.inl ⟨tH I2 hm'.new,a2R I2.hok hm'.new,_,_,.ref t,ht,rfl,rfl,rfl,rfl⟩)⟩⟩
end
end L2.L3
namespace L2.L3
open PySem PySem.Spec PyProof.Rows
noncomputable def sK (m n:Nat) (f:SF) (ds:List PyData):Mm PyData:=if ds.length=n then (match f (lH m ds) with
 | some (.rt d)=>some (.ok d)
 | some (.nx _)=>some (.ok .none)
 | some (.xc c _)=>some (.ex c)
 | _=>none) else none
noncomputable def CX1 (P:Program) (w:World):CXT:=fun outer H s E e s'=>∃ a C H',e=.ref a∧E (.ref C) none H'∧s'.os=s.os∧AllBare s'.gens∧Un (frs outer) [] H H' s.heap s'.heap∧HOk P w H' s'.heap∧ExcAt (fun b=>s.heap.get? b=none) H' a C s'.heap
noncomputable def EndX (K:PySem.W.Frag) (G H:Hp) (Q:VK) (E:XK):Re PyData→Prop
 | .ok d=>∀ v G' H',Grow G H G' H'→Rep K G' v d→Q v H'
 | .ex c=>∀ C G' H',eP K c=some C→Grow G H G' H'→E (.ref C) none H'
noncomputable def spX (K:PySem.W.Frag) (F:List PyData→Mm PyData):Sp:=fun vs H Q E=>∃ G ds r,(aS G H∧fI K G H)∧RepAll K G vs ds∧F ds=some r∧EndX K G H Q E r
structure CalleeX (P:Program) (w:World) (K:PySem.W.Frag) (mg:Str→Option Value) (base:Heap) (x:Str) (k:Nat) (ps:List Str) (F:List PyData→Mm PyData):Prop where
 ex:∃ f fd,mg x=some (.ref f)∧PySem.W.keepIn K (.ref f)=true∧Binds K fd ps []∧FnOk P w K mg base (CX1 P w) k f fd ps (spX K F)
section
variable {X:Cx} {pins:List (Addr×Obj)} {σ:St} {H:Hp} {s:Shared}
theorem a1r {ch:List Addr} {h':Heap} (I:Inv X pins σ H s) (hex:X.ex=[]) (un:Un (frs X.stack) ch H H s.heap h') (hch:∀ b∈ch,X.s₀.heap.get? b=none):Un X.fs [] X.H₀ H X.s₀.heap h':=by
 have nx:∀ b:Addr,b∉X.ex:=fun b z=>by rw [hex] at z;cases z
 have neL:∀ b o,X.s₀.heap.get? b=some o→b≠X.env.locals:=fun b o e=>Nat.ne_of_lt (Nat.lt_of_lt_of_le (Heap.lt_size e) I.ok.above)
 have nc:∀ b o,X.s₀.heap.get? b=some o→b∉ch:=fun b o e z=>by rw [hch b z] at e;cases e
 refine ⟨fun b o e n hb _=>?_,fun b o e n hb _=>?_,fun b o e n _=>I.base.free b o e n (nx b),fun b o e _=>?_,I.base.tups,I.base.frzs,I.base.tbls⟩
 ·exact un.keep b o (I.base.keep b o e n hb (nx b)) (I.base.free b o e n (nx b)) (fun z=>(List.mem_cons.mp (I.stkSub b z)).elim (neL b o e) hb) (nc b o e)
 ·obtain ⟨sl,e1⟩:=I.base.slot b o e n hb (nx b)
  obtain ⟨sl',e2⟩:=un.any e1 (I.base.free b o e n (nx b)) (nc b o e)
  exact ⟨sl',e2⟩
 ·obtain ⟨o',e1⟩:=I.base.there b o e (nx b)
  exact un.there b o' e1 (nc b o e)
end
section
variable {P:Program} {w:World} {K:PySem.W.Frag} {mg:Str→Option Value} {base:Heap} {X:Cx} {e:Expr} {es:List Expr} {pos p:Pos} {x:Str} {k:Nat} {ps N:List Str} {F:List PyData→Mm PyData}
noncomputable abbrev fcX (P:Program) (w:World) (K:PySem.W.Frag) (mg:Str→Option Value) (base:Heap) (N:List Str) (qual:Str) (scope:Scope) (f:Addr) (cd:Value) (A:Around) (outer:List Env) (s:Shared) (H:Hp) (E:XK):Cx:=vR (CX1 P w) P w K mg base N qual scope f cd A outer s H E
theorem a5r {st:Stmt} {f:SF} {fa:Addr} {fd:FuncData} (m n:Nat) (Fu:Fun K x x st fa fd) (S:FnScope N ps (aE st)) (hm:N.length=m) (hn:ps.length=n)
  (body:∀ (cdv:Value) (A:Around) (outer:List Env) (s:Shared) (H:Hp) (E:XK),Room k (A.deeper (envOfC x (aE st) s.heap.objs.size fa cdv))→DB (fcX P w K mg base N x (aE st) fa cdv A outer s H E) (bG st) f) :
  FnOk P w K mg base (CX1 P w) (k+1) fa fd ps (spX K (sK m n f)):=by
 obtain ⟨oc,od,kV,doc,pm,an,cdv,ct,osl,rfl,lk,hcd⟩:=Fu.ex
 refine a3c lk hcd S (fun vs H Q E ⟨G,ds,r,s,rv,hF,_⟩=>?_) fun A outer s H vs Q E hr ⟨G,ds,r,sm,rv,hF,q⟩=>?_
 ·unfold sK at hF
  split at hF
  ·rename_i hl;rw [rv.length,hl,hn]
  ·cases hF
 ·unfold sK at hF
  split at hF
  ·rw [←hm,←lI] at hF
   split at hF
   ·rename_i d e
    cases (Option.some.inj hF)
    exact ⟨_,(body cdv A outer s H E hr).run,eE N ds,_,H,G,G,e,cY sm rv,fun v G' H' _ g rv=>q v G' H' g rv⟩
   ·rename_i ρ' e
    cases (Option.some.inj hF)
    exact ⟨_,(body cdv A outer s H E hr).run,eE N ds,_,H,G,G,e,cY sm rv,fun G' H' σ' _ R'=>q .non G' H' R'.grow .none⟩
   ·rename_i c ρ' e
    cases (Option.some.inj hF)
    refine ⟨_,(body cdv A outer s H E hr).run,eE N ds,_,H,G,G,e,cY sm rv,fun pins s' σ H' G' e' I R _ ⟨a,C,e1,hE,xa⟩=>?_⟩
    subst e1
    refine a2A (X:=fcX P w K mg base N x (aE st) fa cdv A outer s H E) (fr:=fun b=>s.heap.get? b=none) I.ok.frames rfl rfl I (xa.mono fun b hb=>?_) (fun b hb=>?_) fun h' ch un hch hok x'=>?_
    ·rcases hb.1 with z | z
     ·cases z
     ·exact z
    ·cases z:s.heap.get? b with
     | none=>rfl
     | some o=>
      obtain ⟨o',z'⟩:=I.base.there b o z (by intro w;cases w)
      rw [hb] at z';cases z'
    ·exact ⟨a,C,H',rfl,q C G' H' hE R.grow,I.os,I.bare,a1r I rfl un hch,hok,x'⟩
   ·cases hF
  ·cases hF
theorem wA {st:Stmt} {f:SF} (m n:Nat) (D:Def K mg x st) (S:FnScope N ps (aE st)) (hm:N.length=m) (hn:ps.length=n)
  (hb:∀ (kV doc pm:Value) (an:Option Addr) (cdv ct:Value) (us:List Value),us.length=ps.length→bindArgs (PySem.W.fnOf x x (cR st) (bG st) (aE st) .none kV doc pm an cdv ct) ⟨us,[]⟩=pure (ps.zip us))
  (body:∀ (fa:Addr) (cdv:Value) (A:Around) (outer:List Env) (s:Shared) (H:Hp) (E:XK),Room k (A.deeper (envOfC x (aE st) s.heap.objs.size fa cdv))→DB (fcX P w K mg base N x (aE st) fa cdv A outer s H E) (bG st) f) :
  CalleeX P w K mg base x (k+1) ps (sK m n f):=by
 obtain ⟨fa,fd,Fu,hmg⟩:=D.ex
 exact ⟨fa,fd,hmg,Fu.kp,Fu.binds hb,a5r m n Fu S hm hn fun cdv A outer s H E hr=>body fa cdv A outer s H E hr⟩
noncomputable def kZ (F:List PyData→Mm PyData) (fa:AF):EF:=fun ρ=>bnd (fa ρ) F
theorem jH {fa:AF} (C:CalleeX X.prog X.w X.K X.mg X.base x k ps F) (hr:Room k X.A) (ha:DA X (e::es) fa) (hg:Gl X x:=by rfl) (hdb:(x==("__debug__" : Str))=false:=by decide)
  (he:starEach (e::es) X.env=(false,eval e X.env)::starEach es X.env:=by rfl) (hpl:(backTo pos (starEach es X.env)).any (·.1)=false:=by rfl):DE X (.Call (.Name x p) (e::es) [] pos) (kZ F fa):=⟨fun pins s σ H Q I ⟨ρ,r,H0,G₀,G,e',R,q⟩=>by
 obtain ⟨f,fd,a,b,c,Fk⟩:=C.ex
 refine wpAny_Call_Name_kw (kK I hg a ?_ hdb)
 refine PySem.W.callWith_K (h₀:=X.base) I.ok.mod.kin b (thn (ha.run pos pins s σ H (fun vs H1=>∃ G1 ds,Grow G H G1 H1∧RepS X.K H0 G₀ G1 H1 σ ρ∧RepAll X.K G1 vs ds∧F ds=some r) I (bA R e' q.x fun ds vs G1 H1 g1 R1 rv e1=>⟨G1,ds,g1,R1,rv,e1⟩))
  fun us s1 ⟨vs,H1,I1,rv,G1,ds,g1,R1,rd,hF⟩=>⟨I1.kIn,?_⟩) he hpl
 have sp:spX X.K F vs H1 Q (fun cv _ H'=>∃ G' C c,cv=.ref C∧r=.ex c∧eP X.K c=some C∧Grow G1 H1 G' H'):=by
  refine ⟨G1,ds,r,⟨g1.sub,R1.tab⟩,rd,hF,?_⟩
  cases r with
  | ok d=>exact fun v G' H' g rv=>q v G' H' (g1.trans g) rv
  | ex c=>exact fun C G' H' hC g=>⟨G',C,c,rfl,rfl,hC,g⟩
 have hl:us.length=ps.length:=by rw [←rv.length];exact Fk.len _ _ _ _ sp
 refine wpAny_call (codeAny_mono (Fk.run X.A X.stack s1 H1 ⟨us,[]⟩ us vs Q _ hr I1.env0 (by simpa using c s1 us I1.kIn (by simpa using hl)) rv sp) fun res s' hq=>?_)
 cases res with
 | error e2=>
  obtain ⟨a2,C2,H2,rfl,⟨G2,C3,c3,e3,rfl,hC,g2⟩,os,bare,un,hok,xa⟩:=hq
  cases e3
  exact q pins s' σ H2 G2 _ (I1.call' (ch:=[]) os un hok bare (fun b z=>nomatch z)) (R1.more g2) (g1.gg.trans g2.gg) ⟨a2,C2,rfl,hC,.inl (xa.mono fun b hb=>tH I1 hb)⟩
 | ok fl=>
  cases fl with
  | ret u=>exact I1.after hq
  | next=>exact False.elim hq
  | brk=>exact False.elim hq
  | cont=>exact False.elim hq⟩
end
end L2.L3
namespace L2.L3
open PySem PySem.Spec PyProof.Rows
section
variable {K:PySem.W.Frag} {H0 G₀ G H:Hp} {σ:St} {ρ:List Ent}
theorem RepS.setNo (R:RepS K H0 G₀ G H σ ρ) (j:Nat) (o:Option V):RepS K H0 G₀ G H (σ.set j o) (ρ.set j .no):=by
 refine ⟨R.grow,by simp [R.len],fun i o' e h1 h2=>?_,R.inj.sub fun i e h1 h2=>?_,R.tab⟩
 ·rcases aH h2 with ⟨_,rfl,_⟩ | ⟨n,h2⟩
  ·trivial
  ·rw [List.getElem?_set_ne (Ne.symm n)] at h1
   exact R.ent i o' e h1 h2
 ·rcases aH h1 with ⟨_,rfl,_⟩ | ⟨n,h1⟩
  ·cases h2
  ·exact ⟨h1,List.getElem?_set_ne (Ne.symm n)⟩
theorem RepS.setExc {c:Str} {a C:Addr} (R:RepS K H0 G₀ G H σ ρ) (i:Nat) (hC:eP K c=some C) (ha:H a=some (xcO a C)):RepS K H0 G₀ G H (σ.set i (some (.ref a))) (ρ.set i (.exc c)):=by
 refine ⟨R.grow,by simp [R.len],fun j o' e h1 h2=>?_,R.inj.sub fun j e h1 h2=>?_,R.tab⟩
 ·rcases aH h2 with ⟨rfl,rfl,_⟩ | ⟨n,h2⟩
  ·rcases aH h1 with ⟨_,rfl,_⟩ | ⟨n,_⟩
   ·exact ⟨a,C,rfl,hC,ha⟩
   ·exact absurd rfl n
  ·rw [List.getElem?_set_ne (Ne.symm n)] at h1
   exact R.ent j o' e h1 h2
 ·rcases aH h1 with ⟨_,rfl,_⟩ | ⟨n,h1⟩
  ·cases h2
  ·exact ⟨h1,List.getElem?_set_ne (Ne.symm n)⟩
end
section
variable {X:Cx} {pins:List (Addr×Obj)} {σ:St} {H:Hp} {s:Shared}
theorem name_goes {M:Model} {A:Around} {E:Value→Shared→Prop} {Q:Unit→Shared→Prop} {j:Nat} {n:Str} {pos:Pos} (I:Inv X pins σ H s) (hN:X.N.Nodup) (hj:X.N[j]?=some n) (hk:X.env.scope.names.lookup n=some .local)
  (h:∀ s',Inv X pins (σ.set j none) H s'→Q () s'):wpAny M A (do bindName X.env n .none;unbindBehindTheSuite X.env n pos) Q E s:=by
 obtain ⟨m,hn,hl⟩:=id I.loc
 obtain ⟨oL,_,_,hoL,_⟩:=id hn
 have hcls:(X.env.scope.kind==.class || (X.env.scope.kind==.module&&X.env.locals != X.env.globals))=false:=by rw [I.ok.kind];rfl
 have hjσ:j<σ.length:=by rw [I.len];exact (List.getElem?_eq_some_iff.mp hj).1
 refine wpAny_nameGoes_keeps hk hn hcls fun h' v hn' hs=>?_
 have ne0:∀ b o,X.s₀.heap.get? b=some o→b≠X.env.locals:=fun b o e=>Nat.ne_of_lt (Nat.lt_of_lt_of_le (Heap.lt_size e) I.ok.above)
 refine h _ ⟨I.ok,I.os,I.bare,⟨fun b o e n hb hx=>?_,fun b o e n hb hx=>?_,I.base.free,fun b o e hx=>?_,I.base.tups,I.base.frzs,I.base.tbls⟩,⟨_,hn',fun i y v' e1 e2 e3=>?_⟩,fun y c e=>?_,I.free,I.freeC,fun p hp=>?_,fun b ob e=>?_,by simpa using I.len⟩
 ·exact (hs.2 b (ne0 b o e)).trans (I.base.keep b o e n hb hx)
 ·obtain ⟨sl,e1⟩:=I.base.slot b o e n hb hx
  exact ⟨sl,(hs.2 b (ne0 b o e)).trans e1⟩
 ·obtain ⟨o',e1⟩:=I.base.there b o e hx
  exact ⟨o',(hs.2 b (ne0 b o e)).trans e1⟩
 ·by_cases hi:i=j
  ·subst hi
   rw [List.getElem?_set_self hjσ] at e2
   cases e2
  ·rw [List.getElem?_set_ne (Ne.symm hi)] at e2
   obtain ⟨u',r',q⟩:=hl i y v' e1 e2 e3
   refine ⟨u',r',?_⟩
   rcases q with ⟨k,e⟩ | ⟨k,c,e,z⟩
   ·refine .inl ⟨k,?_⟩
    have:y≠n:=fun e=>hi (oN hN e1 (e▸hj))
    simp [this,e]
   ·exact .inr ⟨k,c,e,z.sameBut hs (I.cne y c e)⟩
 ·obtain ⟨w',z⟩:=I.cell y c e
  exact ⟨w',z.sameBut hs (I.cne y c e)⟩
 ·obtain ⟨e,n,ne,nf,d⟩:=I.pin p hp
  exact ⟨(hs.2 p.1 ne).trans e,n,ne,nf,d⟩
 ·refine (I.hok b ob e).stay (fun c w' hc q=>(hs.2 c ?_).trans q) (fun _ q=>q) fun _ _ q=>q
  rintro rfl
  rcases hc with rfl | hc
  ·rw [I.free] at e;cases e
  ·rw [I.free] at hc;cases hc
noncomputable abbrev Cx.tryc (X:Cx) (E:Value→Shared→Prop) (pn:List (Addr×Obj)):Cx:={ X with xe:=E,pn:=pn }
noncomputable abbrev Cx.suite (X:Cx) (a:Addr):Cx:={ X with A:=X.A.mark (some (.ref a)),calm:=false,xe:=fun _ _=>False }
theorem a2P (I:Inv X pins σ H s) (E:Value→Shared→Prop):Inv (Cx.tryc X E (X.pn++pins)) [] σ H s:=
 ⟨⟨I.ok.mod,I.ok.kind,I.ok.glob,I.ok.blt,I.ok.above,I.ok.inj,I.ok.has,I.ok.cab,I.ok.hd,I.ok.frames,I.ok.stk,I.ok.exf,I.ok.bs,I.ok.bsz,I.ok.noex,I.ok.exfs,I.ok.funs,I.ok.frf⟩,I.os,I.bare,I.base,I.loc,I.cell,I.free,I.freeC,
  fun p hp=>I.pin p (by simpa using hp),I.hok,I.len⟩
theorem fC {E:Value→Shared→Prop} {pins':List (Addr×Obj)} (I:Inv (Cx.tryc X E (X.pn++pins)) pins' σ H s):Inv X pins σ H s:=
 ⟨⟨I.ok.mod,I.ok.kind,I.ok.glob,I.ok.blt,I.ok.above,I.ok.inj,I.ok.has,I.ok.cab,I.ok.hd,I.ok.frames,I.ok.stk,I.ok.exf,I.ok.bs,I.ok.bsz,I.ok.noex,I.ok.exfs,I.ok.funs,I.ok.frf⟩,I.os,I.bare,I.base,I.loc,I.cell,I.free,I.freeC,
  fun p hp=>I.pin p (List.mem_append_left _ hp),I.hok,I.len⟩
theorem rC (I:Inv X pins σ H s) (a:Addr):Inv (Cx.suite X a) pins σ H s:=
 ⟨⟨I.ok.mod,I.ok.kind,I.ok.glob,I.ok.blt,I.ok.above,I.ok.inj,I.ok.has,I.ok.cab,(fun z=>nomatch z),I.ok.frames,I.ok.stk,I.ok.exf,I.ok.bs,I.ok.bsz,I.ok.noex,I.ok.exfs,I.ok.funs,I.ok.frf⟩,I.os,I.bare,I.base,I.loc,I.cell,I.free,I.freeC,I.pin,I.hok,I.len⟩
theorem vF {a:Addr} (I:Inv (Cx.suite X a) pins σ H s) (ok:X.Ok):Inv X pins σ H s:=⟨ok,I.os,I.bare,I.base,I.loc,I.cell,I.free,I.freeC,I.pin,I.hok,I.len⟩
end
noncomputable def a1s (i j:Nat) (cs:List Str) (f:SF):SF:=fun ρ=>match f ρ with
 | some (.xc c ρ')=>if cs.contains c then some (.nx (((ρ'.set j .no).set i (.exc c)).set j .no)) else none
 | r=>r
section
variable {X:Cx} {body:List Stmt} {f:SF}
theorem ds_try (i j:Nat) {cs:List Str} {x n d:Str} {D:Addr} {np xp ep hpos apos pos:Pos} (hN:X.N.Nodup) (hst:X.stack=X.env::X.outer) (hf:X.env.frame=some X.env.locals)
  (hD:eP X.K d=some D) (hXD:XCls X.K D) (hcs:∀ c∈cs,∃ C,eP X.K c=some C∧XCls X.K C∧PySem.W.subIn X.K (.ref C) (.ref D)=some true)
  (hb:∀ E pn,DB (Cx.tryc X E pn) body f)
  (hi:X.N[i]?=some x:=by rfl) (hj:X.N[j]?=some n:=by rfl) (hg:Gl X d:=by rfl) (hk:X.env.scope.names.lookup n=some .local:=by rfl) (hx:X.env.scope.names.lookup x=some .local:=by rfl)
  (hdb:(d==("__debug__" : Str))=false:=by decide) (hnd:(n==("__debug__" : Str))=false:=by decide) (hncd:(n==("__classdict__" : Str))=false:=by decide)
  (hs:swapsWith (.Name n ep) (some (.Name x xp)) apos.line X.env=pure false:=by rfl) :
  DS X (.Try body [.ExceptHandler (some (.Name d np)) (some n) [.Assign [.Name x xp] (.Name n ep) apos] hpos] [] [] pos) (a1s i j cs f):=⟨fun pins s σ H DD I ⟨ρ,o,H0,G₀,G,e,R,q⟩=>by
 refine wpAny_Try_except ?_
 have go:∀ o',f ρ=some o'→mG (Cx.tryc X (fun e s₁=>wpAny (model X.prog X.w) X.A (noteFrame e X.env) (fun _ s₂=>wpAny (model X.prog X.w) X.A (setFlight e none) (fun _ s₃=>wpAny (model X.prog X.w) X.A (handleBy e X.env [.ExceptHandler (some (.Name d np)) (some n) [.Assign [.Name x xp] (.Name n ep) apos] hpos]) (SP X pins DD) X.xe s₃) X.xe s₂) X.xe s₁) (X.pn++pins)) H0 G₀ G DD o' →
   wpAny (model X.prog X.w) X.A (execs body X.env) (fun f s₁=>match f with | .next=>wpAny (model X.prog X.w) X.A (execs [] X.env) (SP X pins DD) X.xe s₁ | f=>SP X pins DD f s₁)
   (fun e s₁=>wpAny (model X.prog X.w) X.A (noteFrame e X.env) (fun _ s₂=>wpAny (model X.prog X.w) X.A (setFlight e none) (fun _ s₃=>wpAny (model X.prog X.w) X.A (handleBy e X.env [.ExceptHandler (some (.Name d np)) (some n) [.Assign [.Name x xp] (.Name n ep) apos] hpos]) (SP X pins DD) X.xe s₃) X.xe s₂) X.xe s₁) s:=fun o' e' q'=>by
  refine thn ((hb _ _).run [] s σ H DD (a2P I _) ⟨ρ,o',H0,G₀,G,e',R,q'⟩) fun fl s1 z=>?_
  cases fl with
  | next=>obtain ⟨σ',H',I',z⟩:=z;exact yR pins s1 σ' H' DD (fC I') z
  | ret v=>obtain ⟨v',σ',H',I',z⟩:=z;exact ⟨v',σ',H',fC I',z⟩
  | brk=>obtain ⟨σ',H',I',z⟩:=z;exact ⟨σ',H',fC I',z⟩
  | cont=>obtain ⟨σ',H',I',z⟩:=z;exact ⟨σ',H',fC I',z⟩
 unfold a1s at e
 split at e
 ·rename_i c ρ' e'
  split at e
  ·rename_i hc
   cases (Option.some.inj e)
   refine go _ e' fun pins' s' σ' H' G' ev I' R' sg ⟨a,C,hev,hE,xa⟩=>?_
   subst hev
   have I1:Inv X pins σ' H' s':=fC I'
   obtain ⟨C',hE',hXC,hsub⟩:=hcs c (by simpa using hc)
   have hE:eP X.K c=some C:=hE
   rw [hE] at hE';cases hE'
   have xa1:iN X (fun b=>rY X b∧∀ p∈pins,p.1≠b) H' a C s'.heap:=xa.mono fun b hb=>⟨⟨hb.1,fun p hp=>hb.2 p (List.mem_append_left _ hp)⟩,fun p hp=>hb.2 p (List.mem_append_right _ hp)⟩
   have nw:∀ b,s'.heap.get? b=none→rY X b∧∀ p∈pins,p.1≠b:=fun b hb=>⟨tH I1 hb,fun p hp z=>by
    obtain ⟨e,_⟩:=I1.pin p (List.mem_append_right _ hp)
    rw [z,hb] at e;cases e⟩
   refine uR (X:=X) I1.ok.frames hst hf I1 xa1 nw fun h1 ch1 c1 x1=>?_
   have I2:=Inv.chg I1 c1
   refine xP (X:=X) (s:={ s' with heap:=h1 }) c1.hok x1 fun h2 ch2 c2 x2=>?_
   have I3:Inv X pins σ' H' { s' with heap:=h2 }:=Inv.chg (s:={ s' with heap:=h1 }) I2 c2
   obtain ⟨_,_,oe,vs,xo,_⟩:=(show ExcAt _ H' a C h2 from .inr x2).ob
   have hm:X.mg d=some (.ref D):=PySem.W.mg_of I.mod.kin I.mod.glob (tL hD)
   refine wpAny_handleBy_cons (codeAny_handlers_test (kK (X:=Cx.suite X a) (rC I3 a) hg hm (a1g hXC hXD I3.kIn xo hsub ?_) hdb)) (by intro z;cases z)
   refine codeAny_handlers_suite_as ?_
   refine xP (X:=X) (s:={ s' with heap:=h2 }) c2.hok x2 fun h3 ch3 c3 x3=>?_
   have I4:Inv X pins σ' H' { s' with heap:=h3 }:=Inv.chg (s:={ s' with heap:=h2 }) I3 c3
   obtain ⟨fa,na,oe3,vs3,xo3,hv3⟩:=(show ExcAt _ H' a C h3 from .inr x3).ob
   have I5:Inv X pins σ' (upd H' a (xcO a C)) { s' with heap:=h3 }:=Inv.track I4 fa na ⟨oe3,vs3,xo3.at_,hv3⟩ ⟨⟨oe3,xo3⟩,⟨oe3,xo3.at_⟩,fun g1 g2 ⟨o1,y⟩ k=>⟨o1,k _ y.at_,y.cls⟩⟩
   have hjσ:j<σ'.length:=by rw [I5.len];exact (List.getElem?_eq_some_iff.mp hj).1
   refine nS (i:=j) (v:=.ref a) I5 hN hj (.inl hk) rfl (fun s4 I6=>?_) (.inr hk)
   have run:=yQ (oH (X:=Cx.suite X a) (pos:=apos) (pos':=xp) hN hi (.inl hx) (eF (i:=j) (pos:=ep) hj (.inl hk) hnd hncd) hs (.inr hx)) pins s4 _ _ { nx:=fun σ'' H''=>σ''=(σ'.set j (some (.ref a))).set i (some (.ref a))∧H''=upd H' a (xcO a C),rt:=fun _ _=>False } (rC I6 a) ⟨.ref a,by rw [List.getElem?_set_self hjσ],rfl,rfl⟩
   refine wpAny_mono run (fun fl s5 z=>?_) fun _ _ z=>False.elim z
   cases fl with
   | next=>
    obtain ⟨σ5,H5,I7,e5,e6⟩:=z
    subst e5 e6
    have I8:=vF I7 I.ok
    refine name_goes I8 hN hj hk fun s6 I9=>⟨_,_,I9,q G' _ _ sg ?_⟩
    have R1:RepS X.K H0 G₀ G' (upd H' a (xcO a C)) σ' ρ':=R'.more (Grow.side R'.sub na)
    exact (((R1.setNo j _).setExc i hE aF).setNo j none)
   | ret v=>obtain ⟨_,_,_,_,_,z⟩:=z;exact z.elim
   | brk=>obtain ⟨_,_,_,z⟩:=z;exact z.elim
   | cont=>obtain ⟨_,_,_,z⟩:=z;exact z.elim
  ·cases e
 ·rename_i z
  have n:∀ c ρ',o≠.xc c ρ':=fun c ρ' w=>z c ρ' (by rw [e,w])
  refine go o e ?_
  cases o with
  | nx ρ'=>exact q
  | rt d=>exact q
  | bk ρ'=>exact q
  | ct ρ'=>exact q
  | xc c ρ'=>exact absurd rfl (n c ρ')⟩
end
end L2.L3
namespace L2.L3
open PySem PySem.Spec PyProof.Rows
noncomputable def bY:List Str:=["NoMeeting", "NoText", "NoTime", "NoZone", "Taken", "TooMany"]
noncomputable def yH (K:PySem.W.Frag) (C:Addr):Bool:=PySem.W.excIn K C bmVE "ValueError.__new__" && (PySem.W.findIn K (.ref C) "__getattribute__" == some (some (.builtin "BaseException.__getattribute__")))&&(PySem.W.findIn K (.ref C) "__getattr__" == some none)
 && (PySem.W.findIn K (.ref C) "__class__" == some (some (.builtin "object.__class__")))&&(PySem.W.mroIn K C (.type "object")==some true)
noncomputable def a3g (K:PySem.W.Frag) (S:Addr) (c:Str):Bool:=match eP K c with
 | some C=>yH K C&&(PySem.W.typeIn K (.ref C)==some (.type "type"))&&(PySem.W.subIn K (.ref C) (.type "ValueError")==some true)&&(PySem.W.subIn K (.ref C) (.ref S)==some true)
 | none=>false
noncomputable def exOkD (K:PySem.W.Frag) (c d:Str):Bool:=c==d || match eP K c,eP K d with
 | some C,some D=>(C != D)&&(PySem.W.subIn K (.ref C) (.ref D)==some false)
 | _,_=>false
noncomputable def a5t (K:PySem.W.Frag):Bool:=match eP K "SheetError" with
 | some S=>yH K S&&bY.all (a3g K S)&&(bY.all fun c=>bY.all fun d=>exOkD K c d)
 | none=>false
theorem rZ {K:PySem.W.Frag} {C:Addr} (h:yH K C=true):XCls K C:=by
 simp only [yH,Bool.and_eq_true,beq_iff_eq] at h
 exact ⟨h.1.1.1.1,h.1.1.1.2,h.1.1.2,h.1.2,h.2⟩
structure ExF (K:PySem.W.Frag):Prop where
 ok:a5t K=true
theorem ExF.she {K:PySem.W.Frag} (F:ExF K):∃ S,eP K "SheetError" = some S∧XCls K S∧∀ c∈bY,∃ C,eP K c=some C∧XCls K C∧PySem.W.subIn K (.ref C) (.ref S)=some true:=by
 have h:=F.ok
 unfold a5t at h
 split at h
 ·rename_i S hS
  rw [Bool.and_eq_true,Bool.and_eq_true] at h
  refine ⟨S,hS,rZ h.1.1,fun c hc=>?_⟩
  have h2:=List.all_eq_true.mp h.1.2 c hc
  unfold a3g at h2
  split at h2
  ·rename_i C hC
   simp only [Bool.and_eq_true,beq_iff_eq] at h2
   exact ⟨C,hC,rZ h2.1.1.1,h2.2⟩
  ·cases h2
 ·cases h
theorem ExF.one {K:PySem.W.Frag} (F:ExF K) {c:Str} (hc:c∈bY):∃ C,eP K c=some C∧XCls K C∧PySem.W.typeIn K (.ref C)=some (.type "type")∧PySem.W.subIn K (.ref C) (.type "ValueError")=some true:=by
 have h:=F.ok
 unfold a5t at h
 split at h
 ·rename_i S hS
  rw [Bool.and_eq_true,Bool.and_eq_true] at h
  have h2:=List.all_eq_true.mp h.1.2 c hc
  unfold a3g at h2
  split at h2
  ·rename_i C hC
   simp only [Bool.and_eq_true,beq_iff_eq] at h2
   exact ⟨C,hC,rZ h2.1.1.1,h2.1.1.2,h2.1.2⟩
  ·cases h2
 ·cases h
theorem ExF.two {K:PySem.W.Frag} (F:ExF K) {c d:Str} (hc:c∈bY) (hd:d∈bY) (n:c≠d) {C D:Addr} (eC:eP K c=some C) (eD:eP K d=some D):C≠D∧PySem.W.subIn K (.ref C) (.ref D)=some false:=by
 have h:=F.ok
 unfold a5t at h
 split at h
 ·rw [Bool.and_eq_true,Bool.and_eq_true] at h
  have h2:=List.all_eq_true.mp (List.all_eq_true.mp h.2 c hc) d hd
  unfold exOkD at h2
  rw [eC,eD] at h2
  rcases Bool.or_eq_true_iff.mp h2 with z | z
  ·exact absurd (beq_iff_eq.mp z) n
  ·simp only [Bool.and_eq_true,beq_iff_eq,bne_iff_ne] at z
   exact z
 ·cases h
section
variable {X:Cx} {pos p p2:Pos} {x:Str}
noncomputable def isNX (i:Nat):TF:=fun ρ=>match ρ[i]? with
 | some (.exc _)=>some (.ok false)
 | some (.val .none)=>some (.ok true)
 | _=>none
theorem a5x (i:Nat) {j} (hN:X.N[i]?=some x:=by rfl) (hv:Vis X.env.scope x:=by first | exact Or.inl rfl | exact Or.inr (Or.inl rfl) | exact Or.inr (Or.inr rfl)) (hd:(x==("__debug__" : Str))=false:=by decide)
  (hcd:(x==("__classdict__" : Str))=false:=by decide):DT X (.Compare (.Name x p) [.Is] [.Constant .none j p2] pos) (isNX i):=⟨fun pins s σ H Q I ⟨ρ,r,H0,G₀,G,e,R,q⟩=>by
 refine yP op_isN (eF hN hv hd hcd) a1V (wY _) pins s σ H Q I ?_
 unfold isNX at e
 split at e
 ·rename_i c hi
  cases (Option.some.inj e)
  obtain ⟨o,eo,a,C,rfl,_⟩:=R.at hi
  exact ⟨_,eo,rfl,_,rfl,q G H (.refl R.sub)⟩
 ·rename_i hi
  cases (Option.some.inj e)
  obtain ⟨v,ev,rv⟩:=R.val hi
  cases rv
  exact ⟨_,ev,rfl,_,rfl,q G H (.refl R.sub)⟩
 ·cases e⟩
noncomputable def vE (i:Nat) (d:Str):EF:=fun ρ=>match ρ[i]? with
 | some (.exc c)=>if bY.contains c then some (.ok (.bool (c==d))) else none
 | _=>none
theorem mC (i:Nat) {d:Str} (F:ExF X.K) (hm:X.mg "isinstance" = none) (hd':d∈bY:=by decide) (hN:X.N[i]?=some x:=by rfl) (hv:Vis X.env.scope x:=by first | exact Or.inl rfl | exact Or.inr (Or.inl rfl) | exact Or.inr (Or.inr rfl)) (hd:(x==("__debug__" : Str))=false:=by decide)
  (hcd:(x==("__classdict__" : Str))=false:=by decide) (hdd:(d==("__debug__" : Str))=false:=by decide)
  (he:starEach [.Name x p,.Name d p2] X.env=(false,eval (.Name x p) X.env)::starEach [.Name d p2] X.env:=by rfl) (he2:starEach [.Name d p2] X.env=(false,eval (.Name d p2) X.env)::starEach [] X.env:=by rfl)
  (hpl:(backTo pos (starEach [.Name d p2] X.env)).any (·.1)=false:=by rfl) (hg:Gl X "isinstance":=by rfl) (hgd:Gl X d:=by rfl) {pi:Pos}:DE X (.Call (.Name "isinstance" pi) [.Name x p,.Name d p2] [] pos) (vE i d):=⟨fun pins s σ H Q I ⟨ρ,r,H0,G₀,G,e,R,q⟩=>by
 obtain ⟨D,hD,xD,tD',_⟩:=F.one hd'
 have hmd:X.mg d=some (.ref D):=PySem.W.mg_of I.mod.kin I.mod.glob (tL hD)
 have hc:dP X (.builtin "isinstance") (fun xs H Q=>∃ a C c,xs=[.ref a,.ref D]∧c∈bY∧eP X.K c=some C∧H a=some (xcO a C)∧Q (.bl (c==d)) H):=by
  intro pins s σ H xs us Q I r ⟨a,C,c,e1,hcn,hC,hH,q⟩
  subst e1
  obtain ⟨u,w',rfl,r1,r2⟩:=vals2 r
  cases r1;cases r2
  obtain ⟨⟨ox,xo⟩,_⟩:=I.hok a _ hH
  obtain ⟨C',hC',xC,_⟩:=F.one hcn
  rw [hC] at hC';cases hC'
  by_cases h:c=d
  ·subst h
   rw [hC] at hD;cases hD
   refine xc_is I.kIn xo (by unfold PySem.W.isIn;simp) ⟨.bl (c==c),H,I,by show Value.bool true=Value.bool (c==c);simp,q⟩
  ·obtain ⟨n1,n2⟩:=F.two hcn hd' h hC hD
   exact a1h xC xD I.kIn xo n1 tD' n2 ⟨.bl (c==d),H,I.tok _,by show Value.bool false=Value.bool (c==d);simp [h],q⟩
 refine oJ hc hg hm boot_isinstance (dR (eF hN hv hd hcd) (dR (a4C (v:=.ref D) hgd hmd rfl hdd) iZ he2) he) (by decide) (by decide) he hpl pins s σ H Q I ?_
 unfold vE at e
 split at e
 ·rename_i c hi
  split at e
  ·rename_i hcn
   cases (Option.some.inj e)
   obtain ⟨o,eo,a,C,rfl,hC,hH⟩:=R.at hi
   exact ⟨_,eo,a,C,c,rfl,by simpa using hcn,hC,hH,q _ G H (.refl R.sub) (.bool _)⟩
  ·cases e
 ·cases e⟩
noncomputable def isxV (i:Nat):EF:=fun ρ=>match ρ[i]? with
 | some (.exc c)=>if bY.contains c then some (.ok (.bool true)) else none
 | _=>none
theorem ty_VE:typeOf (.type "ValueError")=pure (.type "type"):=by kernel_rfl
theorem a5D (i:Nat) (F:ExF X.K) (hm:X.mg "isinstance" = none) (hmV:X.mg "ValueError" = none) (hN:X.N[i]?=some x:=by rfl) (hv:Vis X.env.scope x:=by first | exact Or.inl rfl | exact Or.inr (Or.inl rfl) | exact Or.inr (Or.inr rfl)) (hd:(x==("__debug__" : Str))=false:=by decide)
  (hcd:(x==("__classdict__" : Str))=false:=by decide)
  (he:starEach [.Name x p,.Name "ValueError" p2] X.env=(false,eval (.Name x p) X.env)::starEach [.Name "ValueError" p2] X.env:=by rfl) (he2:starEach [.Name "ValueError" p2] X.env=(false,eval (.Name "ValueError" p2) X.env)::starEach [] X.env:=by rfl)
  (hpl:(backTo pos (starEach [.Name "ValueError" p2] X.env)).any (·.1)=false:=by rfl) (hg:Gl X "isinstance":=by rfl) (hgd:Gl X "ValueError":=by rfl) {pi:Pos}:DE X (.Call (.Name "isinstance" pi) [.Name x p,.Name "ValueError" p2] [] pos) (isxV i):=⟨fun pins s σ H Q I ⟨ρ,r,H0,G₀,G,e,R,q⟩=>by
 have hc:dP X (.builtin "isinstance") (fun xs H Q=>∃ a C c,xs=[.ref a,.ty "ValueError"]∧c∈bY∧eP X.K c=some C∧H a=some (xcO a C)∧Q (.bl true) H):=by
  intro pins s σ H xs us Q I r ⟨a,C,c,e1,hcn,hC,hH,q⟩
  subst e1
  obtain ⟨u,w',rfl,r1,r2⟩:=vals2 r
  cases r1;cases r2
  obtain ⟨⟨ox,xo⟩,_⟩:=I.hok a _ hH
  obtain ⟨C',hC',xC,_,sV⟩:=F.one hcn
  rw [hC] at hC';cases hC'
  exact xc_isT I.kIn xo ty_VE sV ⟨.bl true,H,I,rfl,q⟩
 refine oJ hc hg hm boot_isinstance (dR (eF hN hv hd hcd) (dR (a4E (v:=.ty "ValueError") hgd hmV (by decide +kernel) rfl (by decide) (by decide)) iZ he2) he) (by decide) (by decide) he hpl pins s σ H Q I ?_
 unfold isxV at e
 split at e
 ·rename_i c hi
  split at e
  ·rename_i hcn
   cases (Option.some.inj e)
   obtain ⟨o,eo,a,C,rfl,hC,hH⟩:=R.at hi
   exact ⟨_,eo,a,C,c,rfl,by simpa using hcn,hC,hH,q _ G H (.refl R.sub) (.bool _)⟩
  ·cases e
 ·cases e⟩
end
noncomputable def runE (m:Nat) (f:SF) (c:Str):Mm PyData:=match f (.exc c::List.replicate (m - 1) .no) with
 | some (.rt d)=>some (.ok d)
 | some (.nx _)=>some (.ok .none)
 | _=>none
noncomputable def spE (K:PySem.W.Frag) (F:Str→Mm PyData):Sp:=fun vs H Q _=>∃ G c d a C,(aS G H∧fI K G H)∧vs=[.ref a]∧eP K c=some C∧H a=some (xcO a C)∧F c=some (.ok d)∧∀ v G' H',Grow G H G' H'→Rep K G' v d→Q v H'
structure CalleeE (P:Program) (w:World) (K:PySem.W.Frag) (mg:Str→Option Value) (base:Heap) (x:Str) (k:Nat) (ps:List Str) (F:Str→Mm PyData):Prop where
 ex:∃ f fd,mg x=some (.ref f)∧PySem.W.keepIn K (.ref f)=true∧Binds K fd ps []∧FnOk P w K mg base CX0 k f fd ps (spE K F)
theorem qD {K:PySem.W.Frag} {G H:Hp} {N:List Str} {a C:Addr} {c:Str} (s:aS G H∧fI K G H) (hC:eP K c=some C) (hH:H a=some (xcO a C)):RepS K H G G H (start N [.ref a]) (.exc c::List.replicate (N.length - 1) .no):=by
 refine ⟨.refl s.1,by simp [start,Nat.add_comm],fun i o e h1 h2=>?_,Inj.free (fun i e h2=>?_),s.2⟩
 ·cases i with
  | zero=>
   have h1:some (some (V.ref a))=some o:=by simpa [start] using h1
   cases h1
   cases (Option.some.inj h2)
   exact ⟨a,C,rfl,hC,hH⟩
  | succ i=>
   rw [List.getElem?_cons_succ,List.getElem?_replicate] at h2
   split at h2
   ·cases h2;trivial
   ·cases h2
 ·cases i with
  | zero=>cases (Option.some.inj h2);rfl
  | succ i=>
   rw [List.getElem?_cons_succ,List.getElem?_replicate] at h2
   split at h2
   ·cases h2;rfl
   ·cases h2
section
variable {P:Program} {w:World} {K:PySem.W.Frag} {mg:Str→Option Value} {base:Heap} {X:Cx} {pos p p2:Pos} {x y:Str} {k:Nat} {ps N:List Str} {F:Str→Mm PyData}
theorem wB {st:Stmt} {f:SF} (m:Nat) (D:Def K mg x st) (S:FnScope N ps (aE st)) (hm:N.length=m) (hn:ps.length=1)
  (hb:∀ (kV doc pm:Value) (an:Option Addr) (cdv ct:Value) (us:List Value),us.length=ps.length→bindArgs (PySem.W.fnOf x x (cR st) (bG st) (aE st) .none kV doc pm an cdv ct) ⟨us,[]⟩=pure (ps.zip us))
  (body:∀ (fa:Addr) (cdv:Value) (A:Around) (outer:List Env) (s:Shared) (H:Hp) (E:XK),Room k (A.deeper (envOfC x (aE st) s.heap.objs.size fa cdv))→DB (fcx P w K mg base N x (aE st) fa cdv A outer s H E) (bG st) f) :
  CalleeE P w K mg base x (k+1) ps (runE m f):=by
 obtain ⟨fa,fd,Fu,hmg⟩:=D.ex
 refine ⟨fa,fd,hmg,Fu.kp,Fu.binds hb,Fu.ok S (fun vs H Q E ⟨G,c,d,a,C,s,e,_⟩=>by rw [e,hn];rfl) (fun cdv A outer s H vs Q E hr ⟨G,c,d,a,C,sm,e,hC,hH,hF,q⟩=>?_)⟩
 subst e
 unfold runE at hF
 rw [←hm] at hF
 split at hF
 ·rename_i d' e
  cases (Option.some.inj hF)
  exact ⟨_,(body fa cdv A outer s H E hr).run,_,_,H,G,G,e,qD sm hC hH,fun v G' H' _ g rv=>q v G' H' g rv⟩
 ·rename_i ρ' e
  cases (Option.some.inj hF)
  exact ⟨_,(body fa cdv A outer s H E hr).run,_,_,H,G,G,e,qD sm hC hH,fun G' H' σ' _ R'=>q .non G' H' R'.grow .none⟩
 ·cases hF
noncomputable def pM (F:Str→Mm PyData) (i:Nat):EF:=fun ρ=>match ρ[i]? with
 | some (.exc c)=>(match F c with | some (.ok d)=>some (.ok d) | _=>none)
 | _=>none
theorem a0T (i:Nat) (C:CalleeE X.prog X.w X.K X.mg X.base x k ps F) (hr:Room k X.A) (hN:X.N[i]?=some y:=by rfl) (hv:Vis X.env.scope y:=by first | exact Or.inl rfl | exact Or.inr (Or.inl rfl) | exact Or.inr (Or.inr rfl)) (hd:(y==("__debug__" : Str))=false:=by decide)
  (hcd:(y==("__classdict__" : Str))=false:=by decide) (hg:Gl X x:=by rfl) (hdb:(x==("__debug__" : Str))=false:=by decide)
  (he:starEach [.Name y p2] X.env=(false,eval (.Name y p2) X.env)::starEach [] X.env:=by rfl) (hpl:(backTo pos (starEach [] X.env)).any (·.1)=false:=by rfl):DE X (.Call (.Name x p) [.Name y p2] [] pos) (pM F i):=⟨fun pins s σ H Q I ⟨ρ,r,H0,G₀,G,e,R,q⟩=>by
 obtain ⟨f,fd,a,b,c,Fk⟩:=C.ex
 refine yU Fk hr hg a b c .nil (a6g (X:=X)) (dR (eF hN hv hd hcd) iZ he) hdb he hpl pins s σ H Q I ?_
 unfold pM at e
 split at e
 ·rename_i c' hi
  split at e
  ·rename_i d hF
   cases (Option.some.inj e)
   obtain ⟨o,eo,a',C',rfl,hC,hH⟩:=R.at hi
   exact ⟨_,eo,G,c',d,a',C',⟨R.sub,R.tab⟩,rfl,hC,hH,hF,fun v G' H' g rv=>q v G' H' g rv⟩
  ·cases e
 ·cases e⟩
end
end L2.L3
namespace L2.L3
open PySem PySem.Spec PyProof.Rows
section
variable {X:Cx} {body:List Stmt} {f:SF}
theorem a0R {x m:Str} {np sp cpos pos:Pos} {j} (F:ExF X.K) (hc:X.calm=true) (hx:x∈bY:=by decide) (hg:Gl X x:=by rfl) (hdb:(x==("__debug__" : Str))=false:=by decide)
  (he:starEach [.Constant (.str m) j sp] X.env=(false,eval (.Constant (.str m) j sp) X.env)::starEach [] X.env:=by rfl) (hpl:(backTo cpos (starEach [] X.env)).any (·.1)=false:=by rfl) :
  DS X (.Raise (some (.Call (.Name x np) [.Constant (.str m) j sp] [] cpos)) none pos) (wU x):=by
 obtain ⟨C,h1,h2,_⟩:=F.one hx
 exact a3p hc h1 h2 hg hdb he hpl
theorem a5y (i j:Nat) {x n:Str} {np xp ep hpos apos pos:Pos} (F:ExF X.K) (hN:X.N.Nodup) (hst:X.stack=X.env::X.outer) (hf:X.env.frame=some X.env.locals)
  (hb:∀ E pn,DB (Cx.tryc X E pn) body f)
  (hi:X.N[i]?=some x:=by rfl) (hj:X.N[j]?=some n:=by rfl) (hg:Gl X "SheetError":=by rfl) (hk:X.env.scope.names.lookup n=some .local:=by rfl) (hx:X.env.scope.names.lookup x=some .local:=by rfl)
  (hnd:(n==("__debug__" : Str))=false:=by decide) (hncd:(n==("__classdict__" : Str))=false:=by decide)
  (hs:swapsWith (.Name n ep) (some (.Name x xp)) apos.line X.env=pure false:=by rfl) :
  DS X (.Try body [.ExceptHandler (some (.Name "SheetError" np)) (some n) [.Assign [.Name x xp] (.Name n ep) apos] hpos] [] [] pos) (a1s i j bY f):=by
 obtain ⟨S,h1,h2,h3⟩:=F.she
 exact ds_try i j hN hst hf h1 h2 h3 hb hi hj hg hk hx (by decide) hnd hncd hs
end
end L2.L3
namespace L2.L3
open PySem PySem.Spec PyProof.Rows
section
variable {X:Cx} {body:List Stmt} {f:SF}
end
end L2.L3
namespace L2.L3
open PySem PySem.Spec PyProof.Rows
section
variable {X:Cx} {pos p p2:Pos} {x:Str} {body:List Stmt} {f:SF}
end
end L2.L3
namespace L2.L3
open PySem PySem.Spec PyProof.Rows
noncomputable def Itk (a:Addr) (o:Obj) (kvs:List (Key×V)):It where
 go i H:=H a=some (.frz o (.dK kvs))∧i<kvs.length
 yld i H x H':=H'=H∧(kvs[i]?).map (fun p=>kV p.1)=some x
 stop i H:=H a=some (.frz o (.dK kvs))∧kvs.length≤i
theorem a0e {P:Program} {w:World} {K:PySem.W.Frag} {tg:Expr} {a it:Addr} {o:Obj} {kvs:List (Key×V)} {vs:List (Key×Value)} {ep:Nat} (rel:KV kvs vs) (lo:(a==sysModules)=false) (hne:a≠it)
  (hd:∀ h:Heap,h.get? a=some o→h.DictAt (aP P w) a vs ep):Turn P w K tg (Itk a o kvs) [it] it (fun i h=>h.IsKeyIter it a i vs.length ep) where
 mem:=by simp
 obj:=fun i h st b hb=>by
  have e:b=it:=by simpa using hb
  subst e
  obtain ⟨o,e,c,d⟩:=st
  exact ⟨o,e,fun v z=>by rw [d] at z;cases z⟩
 keep:=fun i h h' st k=>by
  obtain ⟨o,e,r⟩:=st
  exact ⟨o,k it (by simp) o e,r⟩
 item:=by
  intro X hP hw hK hc i pins s σ H E I hf st hg
  subst hP hw hK
  obtain ⟨ha,hi⟩:=hg
  have dat:=hd _ (show s.heap.get? a=some o∧_ from I.hok a _ ha).1
  obtain ⟨u,hu,ru⟩:=kv_at rel (List.getElem?_eq_getElem hi)
  obtain ⟨f0,f1,f2,f3,f4,f5⟩:=hf it (by simp)
  refine wpAny_pyNext_dict_item st dat hu fun key h' hk st' sb=>?_
  have I1:Inv X pins σ H { s with heap:=h' }:=I.turned (t':=s.toks) (fun b o hb e=>(sb.2 b hb).trans e) f0 f1 f3 f4 f5
  obtain ⟨o1,e,c,d⟩:=id st'
  exact ⟨key,rfl,zK (s:={ s with heap:=h' }) e c d (by decide) ⟨_,H,I1,is_kV hk,⟨rfl,by rw [List.getElem?_eq_getElem hi];rfl⟩,st',fun b hb=>(hf b hb).1⟩⟩
 done:=by
  intro X hP hw hK hc i pins s σ H E I hf st hg
  subst hP hw hK
  obtain ⟨ha,hi⟩:=hg
  have dat:=hd _ (show s.heap.get? a=some o∧_ from I.hok a _ ha).1
  obtain ⟨f0,f1,f2,f3,f4,f5⟩:=hf it (by simp)
  have hl:=rel.length
  exact wpAny_pyNext_dict_end (I.ok.hd hc) st dat (by simp;omega) fun h' eb=>⟨rfl,I.turned (t':=s.toks) (fun b o hb e=>eb b o hb e) f0 f1 f3 f4 f5⟩
 self:=fun _ _ _ _ _ st h=>wpAny_pyIter_keyiter st h
section
variable {X:Cx} {o tg:Expr} {td:TE} {apos cpos:Pos}
noncomputable def iKeys (td:TE):TI:=fun σ H R=>td σ H fun v H1=>∃ a ob kvs,v=.ref a∧H1 a=some (.frz ob (.dK kvs))∧R (Itk a ob kvs) H1
theorem a4y (ho:PE X o td):PI X tg o (iKeys td):=by
 intro pins s σ H R I h
 refine thn (ho pins s σ H _ I h) fun u s1 ⟨x,H1,I1,rx,a,ob,kvs,ex,ha,q1⟩=>?_
 subst ex
 obtain rfl:u=Value.ref a:=rx
 obtain ⟨hob,z,lo,vs,rel,dd⟩:=(show s1.heap.get? a=some ob∧kvs.length≤sizeLine∧(a==sysModules)=false∧∃ vs,KV kvs vs∧s1.heap.DictOf (aP X.prog X.w) a vs from I1.hok a _ ha)
 obtain ⟨ep,dat⟩:=dd.dictAt
 have hd:∀ h:Heap,h.get? a=some ob→h.DictAt (aP X.prog X.w) a vs ep:=fun h e=>by
  obtain ⟨o1,es,e1,r⟩:=dat
  rw [hob] at e1;cases e1
  exact ⟨ob,es,e,r⟩
 refine wpAny_pyIter_dict (knd:=aP X.prog X.w) lo dat ?_
 refine ⟨_,[_],_,_,H1,rfl,I1.kept (t':=s1.toks) fun b o e=>Heap.get?_push_of_some _ e,a0e rel lo (Nat.ne_of_lt (Heap.lt_size hob)) hd,⟨_,Heap.get?_push_size _ rfl,rfl,rfl⟩,fun b hb=>?_,q1⟩
 obtain rfl:=List.mem_singleton.mp hb
 exact I1.fpOk (Nat.le_refl _) (I1.hok.fresh (Nat.le_refl _))
end
end L2.L3
namespace L2.L3
open PySem PySem.Spec PyProof.Rows
noncomputable def a4o (d:PyData):Bool:=match d with
 | .tuple xs=>xs.all kA
 | d=>kA d
noncomputable def eX (k:Nat) (ρ:List Ent):List Ent:=ρ.mapIdx fun i e=>if i=k then e else .no
noncomputable def rH (k:Nat) (t:Tg) (cap:List (Option Nat)) (ft:TF) (fe:EF):EF:=fun ρ=>match ρ[k]? with
 | some (.val (.dict D))=>if (D.map (·.2)).all kA&&dB D.length then (match kJ t (bK cap (eX k ρ)) ft fe (D.map (·.1)) with
  | some es=>if es.all a4o then some (.ok (.list es)) else none
  | none=>none) else none
 | _=>none
theorem RepS.only {K:PySem.W.Frag} {H0 G₀ G H G1 H1:Hp} {σ:St} {ρ:List Ent} {k:Nat} {d:PyData} {v:V} (R:RepS K H0 G₀ G H σ ρ) (s:aS G1 H1) (t:fI K G1 H1) (hk:ρ[k]?=some (.val d)) (hv:σ[k]?=some (some v)) (r:Rep K G1 v d):RepS K H1 G1 G1 H1 σ (eX k ρ):=by
 have ent:∀ (i:Nat) (e:Ent),(eX k ρ)[i]?=some e→(i=k∧e=.val d)∨e=.no:=fun i e h=>by
  unfold eX at h
  rw [List.getElem?_mapIdx] at h
  cases q:ρ[i]? with
  | none=>rw [q] at h;cases h
  | some e0=>
   rw [q] at h
   by_cases ik:i=k
   ·subst ik
    rw [hk] at q;cases q
    have:=Option.some.inj h
    dsimp only at this
    rw [if_pos rfl] at this
    exact .inl ⟨rfl,this.symm⟩
   ·have:=Option.some.inj h
    dsimp only at this
    rw [if_neg ik] at this
    exact .inr this.symm
 refine ⟨.refl s,by unfold eX;rw [List.length_mapIdx];exact R.len,fun i o e h1 h2=>?_,Inj.free fun i e h=>?_,t⟩
 ·rcases ent i e h2 with ⟨rfl,rfl⟩ | rfl
  ·rw [hv] at h1;cases h1
   exact ⟨v,rfl,r⟩
  ·trivial
 ·rcases ent i e h with ⟨_,rfl⟩ | rfl<;>rfl
theorem a0c {K:PySem.W.Frag} {G:Hp} {a:Addr} {o:Obj} {kvs:List (Key×V)} (ha:G a=some (.frz o (.dK kvs))):Walk K (Itk a o kvs) G (kvs.map fun p=>cE p.1):=by
 intro i G' H' s1 s2
 refine ⟨fun d e=>?_,fun h=>⟨s2 _ _ (s1 _ _ ha),by simpa using h⟩⟩
 have hi:i<kvs.length:=by simpa using (List.getElem?_eq_some_iff.mp e).1
 obtain ⟨v,ev,rv⟩:=(oG (K:=K) (G:=G') kvs).get e
 refine ⟨⟨s2 _ _ (s1 _ _ ha),hi⟩,fun x H2 ⟨e2,y⟩=>?_⟩
 subst e2
 rw [List.getElem?_map] at ev
 rw [ev] at y;cases y
 exact ⟨G',.refl s2,rv⟩
theorem Rep.row {K:PySem.W.Frag} {G G':Hp} (h:∀ t xs,Rd G t (.tup xs)→Rd G' t (.tup xs)) {v:V} {d:PyData} (hd:a4o d=true) (r:Rep K G v d):Rep K G' v d:=by
 cases r with
 | tuple hq rr=>exact .tuple (hq.imp (h _ _) id) (RepAll.plain hd rr)
 | none=>exact .none
 | bool b=>exact .bool b
 | int b=>exact .int b
 | str b=>exact .str b
 | list _ _=>cases hd
 | dict _ _ _=>cases hd
theorem RepAll.row {K:PySem.W.Frag} {G G':Hp} (h:∀ t xs,Rd G t (.tup xs)→Rd G' t (.tup xs)):∀ {vs:List V} {ds:List PyData},ds.all a4o=true→RepAll K G vs ds→RepAll K G' vs ds
 | _,_,_,.nil=>.nil
 | _,_,hd,.cons r t=>by
  rw [List.all_cons,Bool.and_eq_true] at hd
  exact .cons (r.row h hd.1) (RepAll.row h hd.2 t)
section
variable {X:Cx} {elt tg:Expr} {ifs:List Expr} {scope:Scope} {pos spos p apos cpos xp:Pos} {N':List Str} {cap:List (Option Nat)} {t:Tg} {fi:AF} {ft:TF} {fe:EF}
theorem vQ (k:Nat) {x:Str} (hc:X.calm=true) (B:Blk X scope N' cap) (hf:nO cap t=true) (hg:∀ C s₃ H₃ fp,DG (aV X scope N' C s₃ H₃ fp) tg t) (ht:∀ C s₃ H₃ fp,DTs (aV X scope N' C s₃ H₃ fp) ifs ft)
  (he:∀ C s₃ H₃ fp,DE (aV X scope N' C s₃ H₃ fp) elt fe) (hk:X.N[k]?=some x:=by rfl)
  (hv:Vis X.env.scope x:=by first | exact Or.inl rfl | exact Or.inr (Or.inl rfl) | exact Or.inr (Or.inr rfl)) (hd:(x==("__debug__" : Str))=false:=by decide) (hcd:(x==("__classdict__" : Str))=false:=by decide)
  (hs:∀ y,foldedSetIterable (.Name x xp) X.env y=pure y:=by intro _;rfl) :
  DE X (.ListComp elt [⟨tg,.Name x xp,ifs,0⟩] scope pos) (rH k t cap ft fe):=⟨fun pins s σ H Q I ⟨ρ,r,H0,G₀,G,e,R,q⟩=>by
 unfold rH at e
 split at e
 rotate_left
 ·cases e
 rename_i D hD
 split at e
 rotate_left
 ·cases e
 rename_i hpz
 rw [Bool.and_eq_true] at hpz
 split at e
 rotate_left
 ·cases e
 rename_i es e5
 split at e
 rotate_left
 ·cases e
 rename_i hpl
 cases (Option.some.inj e)
 obtain ⟨k1,k2⟩:=gO e5
 obtain ⟨v,ev,rv⟩:=R.val hD
 cases rv with
 | @dict a kvs _ hRd e0 rr=>
 obtain ⟨ob,o0,hGa,nt0,nc0,If,back⟩:=frz_in I R.sub hRd
 have hHa:=R.sub _ _ hGa
 have tb:fI X.K (upd (fun _=>none) a (.frz ob (.dK kvs))) (upd H a (.frz ob (.dK kvs))):=⟨fun y hy c P hc'=>Tab.as hHa nt0 nc0 (R.tab.1 y hy c P hc'),fun b ps hb=>by
  by_cases hba:b=a
  ·subst hba;rw [aF] at hb;cases hb
  ·rw [aD hba] at hb;cases hb⟩
 have sb:aS (upd (fun _=>none) a (.frz ob (.dK kvs))) (upd H a (.frz ob (.dK kvs))):=fun b o hb=>by
  by_cases hba:b=a
  ·subst hba;rw [aF] at hb ⊢;exact hb
  ·rw [aD hba] at hb;cases hb
 have Rb:=R.only sb tb hD ev (.dict (.inr ⟨ob,aF⟩) e0 (RepAll.plain hpz.1 rr))
 have run:=nB (pos:=pos) (g:=gU X.K (D.map (·.1)) (fun d=>d) (bK cap (eX k ρ)) (cX t (bK cap (eX k ρ)))) (tc:=tU X.K (D.map (·.1)) (cX t (bK cap (eX k ρ))) (cT t (bK cap (eX k ρ)) ft)) (te:=eU X.K (D.map (·.1)) (cX t (bK cap (eX k ρ))) (cT t (bK cap (eX k ρ)) ft) (cV t (bK cap (eX k ρ)) fe)) hc B (a4y (tg:=tg) (eF (pos:=xp) hk hv hd hcd))
  (fun C s₃ H₃ fp pins s σ H v u Q I r ⟨x,hx,q⟩=>((hg C s₃ H₃ fp).run _ _ _ (k1 x hx).1).run pins s σ H v u Q I r q)
  (fun C s₃ H₃ fp pins s σ H Q I ⟨x,hx,q⟩=>((ht C s₃ H₃ fp).run _ _ (k1 x hx).2.1).run pins s σ H Q I q)
  (fun C s₃ H₃ fp pins s σ H Q I ⟨x,hx,hcx,H0,G₀,G,R,q⟩=>((he C s₃ H₃ fp).pd ((k1 x hx).2.2 hcx)).run H0 G₀ G pins s σ H Q I R q) hs pins s σ (upd H a (.frz ob (.dK kvs)))
  (fun v H2=>H2 a=some (.frz ob (.dK kvs))∧Q v (upd H2 a o0)) If
  ⟨.ref a,ev,a,ob,kvs,rfl,aF,qB (φ:=fun d=>d) Rb (by rw [List.map_id' (D.map (·.1)),e0];exact a0c aF) (.refl _) (fun x hx=>mW hf (k1 x hx).1) (by rw [List.length_map];exact fJ hpz.2) fun Dd ys G2 H2 g2 hDd hn ra=>?_⟩
 ·refine wpAny_mono run (fun u s' ⟨v',H',I',rv',ha',q'⟩=>?_) fun _ _ z=>z
  exact ⟨v',_,back s' H' I' ha',rv',q'⟩
 ·have ha2:G2 a=some (.frz ob (.dK kvs)):=g2.gg _ _ aF
  have hDa:Dd≠a:=fun y=>by rw [y,aF] at hn;cases hn
  have hH:H Dd=none:=by rw [aD hDa] at hn;exact hn
  refine ⟨g2.sub _ _ ha2,?_⟩
  have old:∀ b,b≠a→H b≠none→G2 b=none:=fun b hb n=>g2.new b (by rw [aD hb]) (by rw [aD hb];exact n)
  let G':Hp:=fun b=>if H b=none then G2 b else G b
  have g1:∀ b,H b=none→G' b=G2 b:=fun b e=>if_pos e
  have g0:∀ b,H b≠none→G' b=G b:=fun b e=>if_neg e
  have gr:Grow G H G' (upd H2 a o0):=by
   refine ⟨fun b o hb=>?_,⟨fun b o hb n=>?_,fun b ps hb=>?_,fun P y tt=>?_⟩,fun b o hb=>?_,fun b e n=>by rw [g0 b n];exact e,fun n=>?_⟩
   ·rw [g0 b (by rw [R.sub _ _ hb];nofun)];exact hb
   ·by_cases hba:b=a
    ·subst hba;rw [hHa] at hb;cases hb;exact aF
    ·rw [aD hba];exact g2.hh.keep b o (by rw [aD hba];exact hb) n
   ·have hba:b≠a:=fun y=>by rw [y,hHa] at hb;exact nt0 _ (Option.some.inj hb)
    rw [aD hba];exact g2.hh.tbl b ps (by rw [aD hba];exact hb)
   ·exact Tab.as (g2.sub _ _ ha2) (by nofun) (by unfold cdO;nofun) (g2.hh.tab P y (Tab.as hHa nt0 nc0 tt))
   ·by_cases hb0:H b=none
    ·rw [g1 b hb0] at hb
     have hba:b≠a:=fun y=>by rw [y,hHa] at hb0;cases hb0
     rw [aD hba];exact g2.sub _ _ hb
    ·rw [g0 b hb0] at hb
     by_cases hba:b=a
     ·subst hba;rw [hGa] at hb;cases hb;exact aF
     ·rw [aD hba]
      exact g2.hh.keep b o (by rw [aD hba];exact R.sub _ _ hb) fun ps y=>R.tab.2 b ps (by rw [hb,y])
   ·intro b ps hb
    by_cases hb0:H b=none
    ·rw [g1 b hb0] at hb
     exact g2.nt tb.2 b ps hb
    ·rw [g0 b hb0] at hb
     exact n b ps hb
  rw [k2] at hpl
  have tu:∀ t xs,Rd G2 t (.tup xs)→Rd G' t (.tup xs):=fun t xs h=>by
   have ne:∀ o,G2 t=some o→t≠a→G' t=some o:=fun o e n=>by
    by_cases ht0:H t=none
    ·rw [g1 t ht0];exact e
    ·rw [old t n ht0] at e;cases e
   rcases h with h | ⟨o,h⟩
   ·exact .inl (ne _ h fun z=>by rw [z,ha2] at h;cases h)
   ·exact .inr ⟨o,ne _ h fun z=>by rw [z,ha2] at h;cases h⟩
  have fin:Rep X.K G' (.ref Dd) (.list es):=.list (.of (by rw [g1 Dd hH];exact hDd)) (by rw [k2];exact RepAll.row tu hpl ra)
  exact q (.ref Dd) _ _ gr fin⟩
end
end L2.L3
namespace L2.L3
open PySem PySem.Spec PyProof.Rows
noncomputable def a4I (k:Nat):AF:=fun ρ=>match ρ[k]? with
 | some (.lst ds)=>some (.ok ds)
 | _=>none
theorem a1n {K:PySem.W.Frag} {G H:Hp} {a:Addr} {xs:List V} {ds:List PyData} (hq:H a=some (.lst xs)) (r:RepAll K G xs ds):zZ K (L2.Itl K a) G H ds:=by
 intro i G' H' g
 have hH:SqL K H' a xs:=.of (g.hh.lst hq)
 refine ⟨fun d e=>?_,fun hl=>⟨xs,hH,by rw [r.length];exact hl⟩⟩
 obtain ⟨v,ev,rv⟩:=r.get e
 refine ⟨⟨xs,v,hH,ev⟩,fun x H2 ⟨e2,y⟩=>?_⟩
 subst e2
 have z:=y xs hH
 rw [ev] at z
 cases z
 exact ⟨G',.refl g.sub,rv.mono g.gg⟩
section
variable {X:Cx} {elt tg:Expr} {ifs:List Expr} {scope:Scope} {pos xp:Pos} {N':List Str} {cap:List (Option Nat)} {t:Tg} {ft:TF} {fe:EF}
theorem a3C (k:Nat) {x:Str} (hc:X.calm=true) (B:Blk X scope N' cap) (hf:nO cap t=true) (hg:∀ C s₃ H₃ fp,DG (aV X scope N' C s₃ H₃ fp) tg t) (ht:∀ C s₃ H₃ fp,DTs (aV X scope N' C s₃ H₃ fp) ifs ft)
  (he:∀ C s₃ H₃ fp,DE (aV X scope N' C s₃ H₃ fp) elt fe) (hk:X.N[k]?=some x:=by rfl)
  (hv:Vis X.env.scope x:=by first | exact Or.inl rfl | exact Or.inr (Or.inl rfl) | exact Or.inr (Or.inr rfl)) (hd:(x==("__debug__" : Str))=false:=by decide) (hcd:(x==("__classdict__" : Str))=false:=by decide)
  (hs:∀ y,foldedSetIterable (.Name x xp) X.env y=pure y:=by intro _;rfl) :
  DE X (.ListComp elt [⟨tg,.Name x xp,ifs,0⟩] scope pos) (dL t cap (a4I k) ft fe):=⟨fun pins s σ H Q I ⟨ρ,r,H0,G₀,G,e,R,q⟩=>by
 rcases cQ e with ⟨ds,e1,e2⟩ | ⟨c,e1,e2⟩
 ·split at e2
  ·rename_i hz
   obtain ⟨d,ed,rfl⟩:=bI e2
   obtain ⟨es,e3,rfl⟩:=Option.map_eq_some_iff.mp ed
   obtain ⟨k1,rfl⟩:=gO e3
   unfold a4I at e1
   split at e1
   ·rename_i ds' hD
    cases (Option.some.inj e1)
    obtain ⟨a,xs,ev,hHa,hGa,_,ra0⟩:=R.own hD
    refine nB (pos:=pos) (g:=gU X.K ds (fun d=>d) (bK cap ρ) (cX t (bK cap ρ))) (tc:=tU X.K ds (cX t (bK cap ρ)) (cT t (bK cap ρ) ft)) (te:=eU X.K ds (cX t (bK cap ρ)) (cT t (bK cap ρ) ft) (cV t (bK cap ρ) fe)) hc B (sO (tg:=tg) (eF (pos:=xp) hk hv hd hcd))
     (fun C s₃ H₃ fp pins s σ H v u Q I r ⟨x,hx,q⟩=>((hg C s₃ H₃ fp).run _ _ _ (k1 x hx).1).run pins s σ H v u Q I r q)
     (fun C s₃ H₃ fp pins s σ H Q I ⟨x,hx,q⟩=>((ht C s₃ H₃ fp).run _ _ (k1 x hx).2.1).run pins s σ H Q I q)
     (fun C s₃ H₃ fp pins s σ H Q I ⟨x,hx,hcx,H0,G₀,G,R,q⟩=>((he C s₃ H₃ fp).pd ((k1 x hx).2.2 hcx)).run H0 G₀ G pins s σ H Q I R q) hs pins s σ H Q I
     ⟨.ref a,ev,a,rfl,⟨xs,.of hHa⟩,nQ (φ:=fun d=>d) R (by rw [List.map_id' ds];exact a1n hHa ra0) (.refl _) (fun x hx=>mW hf (k1 x hx).1) (fJ hz) fun Dd ys G2 H2 g2 hDd hn ra=>q (.ref Dd) _ _ g2 (.list (.of hDd) ra)⟩
   ·cases e1
  ·cases e2
 ·exfalso
  unfold a4I at e1
  split at e1<;>cases e1⟩
end
end L2.L3
namespace L2.L3
open PySem PySem.Spec PyProof.Rows
open PySem.AutoSeq1 (wpAny_loadPart')
theorem a0Q (l:Addr) (items:Array Value) (n:Nat) (dct:Option Addr) (sl:Array (Option Value)) :
  Meets (Builtin.«enumerate.__new__» ⟨[.type "enumerate", .ref l],[]⟩) (fun _ R s=>s.heap.get? l=some { cls:=.type "tuple", dict:=dct,data:=.seq items n,slots:=sl } ∧
   R (.ok (.ret (.ref (s.heap.push { cls:=.type "tuple_iterator", data:=.fields #[.ref l,.int 0 0] }).objs.size)))
    { s with heap:=(s.heap.push { cls:=.type "tuple_iterator", data:=.fields #[.ref l,.int 0 0] }).push { cls:=.type "enumerate", data:=.fields #[.none,.bool false,.ref s.heap.objs.size,rawInt 0,.none,.none] } }):=
 .of_wp fun prog w A R s h=>by
  obtain ⟨hp,g,d,tk,os⟩:=s;obtain ⟨hl,h⟩:=h
  have hsub:=sub_enumerate
  have hL:Heap.IsTuple (Shared.heap ⟨hp,g,d,tk,os⟩) l items:=⟨_,hl,rfl,n,rfl⟩
  wp_walk using wpAny_loadPart' hl
  refine wpAny_stack_any fun st=>wpAny_pure ?_
  split
  ·rename_i c _ _ _ _ _
   cases (c==Value.type "enumerate")<;>(wp_walk using wpAny_loadPart' hl,wpAny_pyIter_tuple hL;exact ⟨_,rfl,h⟩)
  ·wp_walk using wpAny_loadPart' hl,wpAny_pyIter_tuple hL
   exact ⟨_,rfl,h⟩
section
variable {prog:Program} {w:World} {A:Around} {E:Value→Shared→Prop} {s:Shared}
theorem xZ {l:Addr} {items:Array Value} {Q:Value→Shared→Prop} (hL:s.heap.IsTuple l items)
  (h:∀ h',IsEnum h' (s.heap.objs.size+1) s.heap.objs.size 0 .none→h'.IsTupleIter s.heap.objs.size l 0→(∀ b o,s.heap.get? b=some o→h'.get? b=some o)→Q (.ref (s.heap.objs.size+1)) { s with heap:=h' }) :
  wpAny (model prog w) A (call (.type "enumerate") [.ref l]) Q E s:=by
 obtain ⟨⟨c,dct,dt,sl⟩,hl,hc,n,hd⟩:=hL
 obtain rfl:c=.type "tuple" := hc
 obtain rfl:dt=.seq items n:=hd
 refine callType_new F.called_enumerate (by decide) (F.typeCall_enumerate_1 _) (F.newCall_enumerate_1 _) (fun obj=>F.args_object_init_2 obj _) F.entry_enumerate_new (a0Q l items n dct sl) ⟨hl,?_⟩
 generalize hI:s.heap.push { cls:=.type "tuple_iterator", data:=.fields #[.ref l,.int 0 0] }=hh
 have hz:hh.objs.size=s.heap.objs.size+1:=by rw [←hI,Heap.size_push]
 have it:hh.get? s.heap.objs.size=some { cls:=.type "tuple_iterator", data:=.fields #[.ref l,.int 0 0] }:=by rw [←hI];exact Heap.get?_push_size _ rfl
 have kp:∀ b o,s.heap.get? b=some o→hh.get? b=some o:=fun b o e=>by rw [←hI];exact Heap.get?_push_of_some _ e
 show _∧_
 rw [hz]
 have he:IsEnum (hh.push { cls:=.type "enumerate", data:=.fields #[.none,.bool false,.ref s.heap.objs.size,rawInt 0,.none,.none] }) (s.heap.objs.size+1) s.heap.objs.size 0 .none:=by
  have:=Heap.get?_push_size hh (o:={ cls:=.type "enumerate", data:=.fields #[.none,.bool false,.ref s.heap.objs.size,rawInt 0,.none,.none] }) rfl
  rw [hz] at this;exact this
 exact ⟨⟨_,he,rfl⟩,h _ he ⟨_,Heap.get?_push_of_some _ it,rfl,rfl⟩ fun b o x=>Heap.get?_push_of_some _ (kp b o x)⟩
theorem drawsT (hh:A.handled=none) (it l:Addr) (hne:l≠it) (items:Array Value):Draws prog w A it [it,l] items.size (fun i v=>items[i]?=some v) (fun i h=>h.IsTupleIter it l i∧h.IsTuple l items) where
 live:=fun _ _ st=>let ⟨o,ho,_⟩:=st.1;⟨o,ho⟩
 frame:=fun _ _ _ st hk=>⟨st.1.at fun o e=>hk it (by simp) o e,by
  obtain ⟨o,ho,r⟩:=st.2
  exact ⟨o,hk l (by simp) o ho,r⟩⟩
 item:=fun i s Q E hi st hQ=>by
  refine L2.ZT.tup_next st.1 st.2 (x:=items[i]) (by simp [hi]) fun h' hit' hs'=>?_
  obtain ⟨o,ho,r⟩:=st.2
  exact hQ _ h' s.toks (by simp [hi]) ⟨hit',⟨o,hs'.extBut l o hne ho,r⟩⟩ hs'
 done:=fun s Q E st hE=>L2.ZT.tup_stop hh st.1 st.2 (by simp) hE
theorem drawsE (hh:A.handled=none) (it l:Addr) (items:Array Value) (n:Nat) (hn:items.size≤n):Draws prog w A it [it,l] n (fun _ _=>True) (fun i h=>i=n∧h.IsTupleIter it l n∧h.IsTuple l items) where
 live:=fun _ _ st=>let ⟨o,ho,_⟩:=st.2.1;⟨o,ho⟩
 frame:=fun _ _ _ st hk=>⟨st.1,st.2.1.at fun o e=>hk it (by simp) o e,by
  obtain ⟨o,ho,r⟩:=st.2.2
  exact ⟨o,hk l (by simp) o ho,r⟩⟩
 item:=fun i s Q E hi st hQ=>by have:=st.1;omega
 done:=fun s Q E st hE=>L2.ZT.tup_stop hh st.2.1 st.2.2 (by simp;omega) hE
end
noncomputable def Itm (K:PySem.W.Frag) (l:Addr):It:=
 ⟨fun i H=>∃ xs x,SqT K H l xs∧xs[i]?=some x,
 fun i H v H'=>∃ T x,H T=none∧v=.ref T∧H'=upd H T (.tup [.int (i:Int),x])∧∀ xs,SqT K H l xs→xs[i]?=some x,
 fun i H=>∃ xs,SqT K H l xs∧xs.length≤i⟩
noncomputable def a4b (e it l:Addr) (i:Nat) (h:Heap):Prop:=(∃ old,IsEnum h e it i old)∧h.IsTupleIter it l i
theorem wM {P:Program} {w:World} {K:PySem.W.Frag} {elts:List Expr} {k0:Nat} {p0:Pos} {e it l:Addr} (hne:e≠it) (hli:l≠it) (hel:e≠l):Turn P w K (.Tuple elts k0 p0) (Itm K l) [e,it] e (a4b e it l) where
 mem:=by simp
 obj:=fun i h ⟨⟨old,he⟩,⟨o1,g1,_,d1⟩⟩ c hc=>by
  simp only [List.mem_cons,List.not_mem_nil,or_false] at hc
  rcases hc with rfl | rfl
  ·exact ⟨_,he,fun v q=>by cases q⟩
  ·exact ⟨o1,g1,fun v q=>by rw [d1] at q;cases q⟩
 keep:=fun i h h' ⟨⟨old,he⟩,h1⟩ kp=>⟨⟨old,kp e (by simp) _ he⟩,h1.at fun o q=>kp it (by simp) o q⟩
 item:=by
  intro X hP hw hK hc i pins s σ H E I hf ⟨⟨old,he⟩,h1⟩ ⟨xs,x,q1,ex⟩
  subst hP hw hK
  obtain ⟨its,r1,p1,_⟩:=I.tuple q1
  obtain ⟨u,eu,ru⟩:=r1.get ex
  have hi:i<its.length:=(List.getElem?_eq_some_iff.mp eu).1
  have p1':s.heap.IsTuple l its.toArray:=p1
  refine wpAny_pyNext_enum_itemD (drawsT (by rw [Around.in1_handled];exact I.ok.hd hc) it l hli its.toArray) he ⟨h1,p1'⟩ (by rw [List.size_toArray];exact hi) hne (by simp [hne,hel]) fun x' h' tk hx a1 a2 a3 a4 hk=>⟨_,rfl,?_⟩
  rw [List.getElem?_toArray,eu] at hx
  cases hx
  refine wpAny_letOwnedTupleGo_enum a1 fun h2' hz' hs'=>?_
  have hk2:∀ c o,c∉[e,it]→s.heap.get? c=some o→h2'.get? c=some o:=fun c o hc q=>by
   simp only [List.mem_cons,List.not_mem_nil,or_false,not_or] at hc
   exact hs'.extBut c o hc.1 (hk c o hc.1 hc.2 q)
  have nT:s.heap.objs.size≠e:=Nat.ne_of_gt (Heap.lt_size he)
  have new:bR X.prog X.w (upd H s.heap.objs.size (.tup [.int (i:Int),x])) h2' s.heap.objs.size (.tup [.int (i:Int),x]):=
   ⟨by show 2≤sizeLine;decide,[.int i tk,u],.cons ⟨_,rfl⟩ (.cons ru .nil),⟨_,hs'.extBut _ _ nT a3,rfl,_,rfl⟩⟩
  have hfT:H s.heap.objs.size=none:=I.hok.fresh (Nat.le_refl _)
  refine ⟨.ref s.heap.objs.size,upd H s.heap.objs.size (.tup [.int (i:Int),x]),Inv.turnNew (s:=s) (h':=h2') (t':=tk+1) [e,it] I (fun c hc=>hf c hc) hk2 (Nat.le_refl _) new,rfl,
   ⟨_,x,hfT,rfl,rfl,fun xs' q=>by rw [I.tuple_inj q q1];exact ex⟩,⟨⟨u,hz'⟩,a2.1.extBut hs'.extBut (Ne.symm hne)⟩,fun c hc=>?_⟩
  obtain ⟨o,q,_⟩:∃ o,s.heap.get? c=some o∧True:=by
   simp only [List.mem_cons,List.not_mem_nil,or_false] at hc
   rcases hc with rfl | rfl
   ·exact ⟨_,he,trivial⟩
   ·obtain ⟨o,g,_⟩:=h1;exact ⟨o,g,trivial⟩
  rw [aD (Nat.ne_of_lt (Heap.lt_size q))]
  exact (hf c hc).1
 done:=by
  intro X hP hw hK hc i pins s σ H E I hf ⟨⟨old,he⟩,h1⟩ ⟨xs,q1,hend⟩
  subst hP hw hK
  obtain ⟨its,r1,p1,_⟩:=I.tuple q1
  have l1':=r1.length
  have p1':s.heap.IsTuple l its.toArray:=p1
  refine wpAny_pyNext_enum_endD (drawsE (by rw [Around.in1_handled];exact I.ok.hd hc) it l its.toArray i (by rw [List.size_toArray];omega)) he ⟨rfl,h1,p1'⟩ fun h' hk=>⟨rfl,Inv.turnAll (t':=s.toks) [e,it] I (fun c hc=>hf c hc) fun c o hc q=>?_⟩
  simp only [List.mem_cons,List.not_mem_nil,or_false,not_or] at hc
  exact hk c o hc.2 q
 self:=fun A i s Q E ⟨⟨old,he⟩,_⟩ h=>wpAny_pyIter_enum he h
theorem wG {K:PySem.W.Frag} {G:Hp} {l:Addr} {xs:List V} {ds:List PyData} (h1:SqT K G l xs) (r1:RepAll K G xs ds):Walk K (Itm K l) G (pD ds):=by
 intro i G' H' s1 s2
 have a1:=iC (s1.trans s2) h1
 refine ⟨fun d e=>?_,fun hl=>⟨xs,a1,?_⟩⟩
 ·rw [zM] at e
  obtain ⟨p,e1,rfl⟩:=Option.map_eq_some_iff.mp e
  obtain ⟨v,ev,rv⟩:=r1.get e1
  refine ⟨⟨xs,v,a1,ev⟩,fun x H2 ⟨T,x',hT,ex,eH,b1⟩=>?_⟩
  subst ex eH
  have b3:=b1 xs a1
  rw [ev] at b3
  cases b3
  have hG:G' T=none:=s2.free hT
  exact ⟨upd G' T (.tup [.int (i:Int),v]),.put s2 hT,.tuple (.of aF) (.cons (.int _) (.cons ((rv.mono s1).mono (aY hG)) .nil))⟩
 ·unfold pD at hl
  rw [List.length_map,List.length_range] at hl
  have e1:=r1.length
  omega
section
variable {X:Cx} {a:Expr} {elts:List Expr} {k0:Nat} {p0 pos p:Pos} {fa:EF}
noncomputable def a3i (fa:EF):AF:=fun ρ=>match fa ρ with
 | some (.ok (.tuple a))=>some (.ok (pD a))
 | _=>none
theorem a3x (hm:X.mg "enumerate" = none) (ha:DE X a fa) (hs:starEach [a] X.env=(false,eval a X.env)::starEach [] X.env:=by rfl)
  (hpl:(backTo pos (starEach [] X.env)).any (·.1)=false:=by rfl) (hg:Gl X "enumerate":=by rfl):DI X (.Tuple elts k0 p0) (.Call (.Name "enumerate" p) [a] [] pos) (a3i fa):=di_of fun ρ r e=>by
 unfold a3i at e
 split at e
 ·rename_i as e1
  refine ⟨_,(Option.some.inj e).symm,⟨?_⟩⟩
  intro pins s σ H R I ⟨H0,G₀,G,S,q⟩
  have pa:=dD (ha.pd e1) eN hs
  refine wpAny_Call_Name_kw (iG I hg hm boot_enumerate ?_ (by decide) (by decide))
  refine PyProof.Rows.callWith_type1 (thn (pa.run H0 G₀ G pos pins s σ H (fun vs H'=>∃ G',Grow G H G' H'∧RepAll X.K G' vs [.tuple as]) I S fun vs G' H' g r=>⟨G',g,r⟩) fun us s1 ⟨vs,H1,I1,r1,G1,g1,w1⟩=>?_) hs hpl
  cases w1 with
  | cons wa wn=>
   cases wn
   cases wa with
   | @tuple l xs _ hq ra=>
    obtain ⟨u,rfl,ru⟩:=vals1 r1
    cases ru
    obtain ⟨its,r1',p1,_⟩:=I1.tuple (iC g1.sub hq)
    have lt:l<s1.heap.objs.size:=by obtain ⟨o,ho,_⟩:=p1;exact Heap.lt_size ho
    refine xZ (show s1.heap.IsTuple l its.toArray from p1) fun h' z1 z2 hk=>?_
    refine wpAny_pyIter_enum z1 ?_
    refine ⟨s1.heap.objs.size+1,[s1.heap.objs.size+1,s1.heap.objs.size],_,_,H1,rfl,I1.kept (h':=h') (t':=s1.toks) (fun b o e=>hk b o e),wM (Nat.succ_ne_self _) (Nat.ne_of_lt lt) (Nat.ne_of_gt (Nat.lt_succ_of_lt lt)),⟨⟨_,z1⟩,z2⟩,fun c hc=>?_,q _ G1 H1 g1 (wG hq ra)⟩
    have ge:s1.heap.objs.size≤c:=by
     simp only [List.mem_cons,List.not_mem_nil,or_false] at hc
     rcases hc with h | h<;>rw [h]<;>first | exact Nat.le_add_right _ _ | exact Nat.le_refl _
    exact I1.fpOk ge (I1.hok.fresh ge)
 ·cases e
end
end L2.L3
namespace L2.L3
open PySem PySem.Spec PyProof.Rows
noncomputable abbrev cD:EF:=op2 ixD (var 0) (cst (.int 0))
noncomputable def gG:SF:=(retS (zA (var 0) cD (iS (aC (cst (.int 0)) (aC (jB aJ) aJ)))))
noncomputable def cA:List PyData→Mm PyData:=dZ 1 1 gG
noncomputable abbrev iT:TF:=dfT lN (var 1) (aZ bM (aC (var 0) aJ))
noncomputable abbrev eV:TF:=eQ gtD (op2 iH (var 1) (var 3)) (cst (.int 0))
noncomputable abbrev jF:EF:=dL (.tp [0,1]) [none,none,some 4] (a4I 2) (eQ leD (var 0) (var 2)) (var 1)
noncomputable abbrev fG:SF:=ifS eV (bL (iB 6 (aZ cA (aC jF aJ))) (uC 2 (iS (aC (var 5) (aC (iS (aC (op2 bX (op2 ixD (var 6) (cst (.int 0))) (op2 iH (var 1) (var 3))) (aC (op2 bX (op2 ixD (var 6) (cst (.int 1))) (jB (aC (var 3) aJ))) aJ))) aJ))))) iQ
noncomputable abbrev fB:EF:=dL (.tp [0,1]) [none,none] (iW (var 2)) ttT (var 1)
noncomputable def cO:SF:=(bL (ifS iT (wU "NoMeeting") iQ) (bL (wZ 2 aJ) (bL (a2e (a3b (.tp [3,4,5]) (iW (aZ bH (aC (var 0) aJ))) fG)) (pU 2 (retS (aZ cA (aC fB aJ)))))))
noncomputable def aN:List PyData→Mm PyData:=sK 7 2 cO
noncomputable abbrev a0i:TF:=thT (orT (eQ neD (dfE cntD (var 1) (cst (.bool true))) (cst (.int 1))) (a0y (a0g (isxV 0))))
noncomputable def a3f:SF:=(bL (wZ 1 (aC (vE 0 "NoMeeting") (aC (vE 0 "NoText") (aC (vE 0 "NoTime") (aC (vE 0 "NoZone") aJ))))) (bL (extX 1 (jB (aC (vE 0 "Taken") (aC (vE 0 "TooMany") aJ)))) (bL (ifS a0i (retS (cst (.str "wrong"))) iQ) (pU 1 (retS (op2 ixD (jB (aC (cst (.str "no meeting")) (aC (cst (.str "no text")) (aC (cst (.str "no time")) (aC (cst (.str "no zone")) (aC (cst (.str "taken")) (aC (cst (.str "too many")) aJ))))))) (dfE idxB (var 1) (cst (.bool true)))))))))
noncomputable def jL:Str→Mm PyData:=runE 2 a3f
noncomputable abbrev rV:SF:=iB 3 (kZ aN (aC (var 0) (aC (var 1) aJ)))
noncomputable abbrev a0j:TF:=isNX 2
noncomputable def oZ:SF:=(bL (iB 2 (cst .none)) (bL (iB 3 (cst .none)) (bL (a1s 2 4 bY rV) (bL (ifS a0j (retS (var 3)) iQ) (retS (pM jL 2))))))
noncomputable def gY:List PyData→Mm PyData:=dZ 5 2 oZ
noncomputable def gQ (S:List PyData→Mm PyData):SF:=(bL (ifS (eQ eqD (var 0) (jB aJ)) (retS (cst (.int 0))) iQ) (bL (iB 2 (dL (.nm 0) [none,some 0] (iW (slE (var 0) (iO (cst (.int 1))) iP)) (a0y (a0g (aZ hV (aC (op2 ixD (var 1) (cst (.int 0))) (aC (var 0) aJ))))) (var 0))) (retS (fF a2u (aC (op2 bX (op2 iH (var 1) (op2 ixD (op2 ixD (var 0) (cst (.int 0))) (cst (.int 0)))) (aZ S (aC (var 2) (aC (var 1) aJ)))) (aC (aZ S (aC (slE (var 0) (iO (cst (.int 1))) iP) (aC (var 1) aJ))) aJ))))))
noncomputable def fH:Nat→List PyData→Mm PyData
 | 0=>fun _=>none
 | n+1=>dZ 3 2 (gQ (fH n))
noncomputable def lG:List PyData→Mm PyData:=fH 12
noncomputable abbrev a2N:EF:=dL (.tp [0,1]) [none,none,some 0] (a3i (var 1)) ttT (iS (aC (op2 ixD (var 1) (cst (.int 0))) (aC (op2 sG (aZ bS (aC (var 2) (aC (op2 bX (cst (.int 100)) (var 0)) (aC (cst (.int 13)) aJ)))) (cst (.int 3))) aJ)))
noncomputable abbrev a2M:EF:=dL (.nm 0) [none,some 2] (iW (var 4)) ttT (op2 iH (var 1) (var 0))
noncomputable abbrev a1B:TF:=orT (eQ neD (var 3) (aZ lG (aC (fF a2w (aC (var 1) aJ)) (aC (var 2) aJ)))) (eQ neD (fF a4d (aC a2M aJ)) (var 3))
noncomputable abbrev a2L:EF:=dL (.nm 0) [none,some 0] (iW (var 1)) (eQ eqD (op2 ixD (var 0) (cst (.int 0))) (var 1)) (var 0)
noncomputable abbrev a2K:EF:=dL (.nm 0) [none,some 1] (iW (var 4)) ttT (op2 ixD a2L (cst (.int 0)))
noncomputable abbrev a2J:EF:=dL (.nm 0) [none,some 5] (sL (op2 sG (fF oQ (aC (var 5) aJ)) (cst (.int 1)))) (eQ gtD (op2 ixD (op2 ixD (var 1) (var 0)) (cst (.int 2))) (op2 ixD (op2 ixD (var 1) (op2 bX (var 0) (cst (.int 1)))) (cst (.int 1)))) (var 0)
noncomputable abbrev a1A:TF:=eQ neD a2J (jB aJ)
noncomputable abbrev xJ:EF:=rH 2 (.nm 0) [none] ttT (iS (aC (var 0) (aC (cst (.int 1)) aJ)))
noncomputable abbrev a1z:TF:=eQ neD (op2 ixD (kZ aN (aC (var 1) (aC (fF jU (aC xJ aJ)) aJ))) (cst (.int 0))) (fF oQ (aC (aZ eR (aC (var 1) aJ)) aJ))
noncomputable abbrev xI:EF:=rH 2 (.nm 0) [none,some 2] ttT (iS (aC (var 0) (aC (op2 gE (cst (.int 2)) (op2 iH (var 1) (var 0))) aJ)))
noncomputable abbrev a1y:TF:=eQ neD (op2 ixD (kZ aN (aC (var 1) (aC (fF jU (aC xI aJ)) aJ))) (cst (.int 0))) (op2 gE (cst (.int 2)) (var 3))
noncomputable abbrev a1x:TF:=thT (eQ neD (aZ gY (aC (var 1) (aC (var 6) aJ))) (cst (.str "no meeting")))
noncomputable abbrev a1w:TF:=eQ eqD (var 1) (iS aJ)
noncomputable abbrev a2I:EF:=dL (.nm 0) [none,some 2] (iW (slE (var 1) (iO (cst (.int 1))) iP)) ttT (iS (aC (op2 ixD (var 0) (cst (.int 0))) (aC (op2 iH (var 1) (op2 ixD (var 0) (cst (.int 0)))) aJ)))
noncomputable def a3e:SF:=(bL (iB 1 (aZ gZ (aC (var 0) (aC (cst (.int 0)) (aC (cst (.int 8)) aJ))))) (bL (iB 2 (fF jU (aC a2N aJ))) (bL (unpS (.tp [3,4]) (kZ aN (aC (var 1) (aC (var 2) aJ)))) (bL (ifS a1B (retS (cst (.bool false))) iQ) (bL (iB 5 a2K) (bL (ifS a1A (retS (cst (.bool false))) iQ) (bL (ifS a1z (retS (cst (.bool false))) iQ) (bL (ifS a1y (retS (cst (.bool false))) iQ) (bL (uS 6 (var 2)) (bL (uN 6 (cst (.str "zz")) (cst (.int 1))) (bL (ifS a1x (retS (cst (.bool false))) iQ) (bL (ifS a1w (retS (cst (.bool true))) iQ) (bL (yW 6 (aC a2I aJ)) (pU 6 (retS (a5T (xY leD (op2 ixD (kZ aN (aC (slE (var 1) (iO (cst (.int 1))) iP) (aC (var 6) aJ))) (cst (.int 0))) (var 3)) (xY eqD (aZ gY (aC (var 1) (aC (var 6) aJ))) (cst (.str "no meeting")))))))))))))))))))
noncomputable def F_law:List PyData→Mm PyData:=dZ 7 1 a3e
end L2.L3
namespace L2.L3
open PySem PySem.Spec PyProof.Rows
noncomputable def wS (w:Mt→Int) (F:List Mt):Int:=(F.map w).sum
noncomputable abbrev Ch:=Int×List Mt
noncomputable def bst (l:List Ch):Ch:=if l.length=0 then (0,[]) else l.getD (argBest (gtB (l.map (·.1))) (l.length - 1)) (0,[])
theorem tW {l:List Ch} (h:l≠[]):bst l∈l:=by
 have hl:0<l.length:=List.length_pos_iff.mpr h
 have b:=(argBest_gt (fun i=>(l.map (·.1)).getD i 0) (l.length - 1)).1
 unfold bst
 rw [if_neg (by omega),List.getD_eq_getElem?_getD,List.getElem?_eq_getElem (Nat.lt_of_le_of_lt b (by omega))]
 exact List.getElem_mem _
theorem a3L {l:List Ch} {c:Ch} (h:c∈l):c.1≤(bst l).1:=by
 have hl:0<l.length:=List.length_pos_of_mem h
 have b:=argBest_gt (fun i=>(l.map (·.1)).getD i 0) (l.length - 1)
 obtain ⟨j,hj,e⟩:=List.getElem_of_mem h
 have g:∀ i (hi:i<l.length),(l.map (·.1)).getD i 0=(l[i]'hi).1:=fun i hi=>by simp [List.getD_eq_getElem?_getD,hi]
 have h1:argBest (gtB (l.map (·.1))) (l.length - 1)<l.length:=Nat.lt_of_le_of_lt b.1 (by omega)
 have h2:(l.map (·.1)).getD j 0≤(l.map (·.1)).getD (argBest (gtB (l.map (·.1))) (l.length - 1)) 0:=b.2 j (by omega)
 rw [g j hj,g _ h1] at h2
 unfold bst
 rw [if_neg (by omega),List.getD_eq_getElem?_getD,List.getElem?_eq_getElem h1,←e]
 exact h2
noncomputable def dY (w:Mt→Int) (acc:List (Int×Ch)) (m:Mt):List (Int×Ch):=
 if 0<w m then acc++[(m.2.2,((bst ((acc.filter fun x=>decide (x.1≤m.2.1)).map (·.2))).1+w m,(bst ((acc.filter fun x=>decide (x.1≤m.2.1)).map (·.2))).2++[m]))] else acc
noncomputable def wl (w:Mt→Int) (E:List Mt):List (Int×Ch):=E.foldl (dY w) []
noncomputable def wb (w:Mt→Int) (s:List Mt):Ch:=bst ((wl w (cB s)).map (·.2))
theorem a1p (w:Mt→Int) (F:List Mt) (m:Mt):wS w (F++[m])=wS w F+w m:=by simp [wS]
theorem wH {w:Mt→Int}:∀ {F:List Mt},(∀ y∈F,0<w y)→0≤wS w F
 | [],_=>by simp [wS]
 | x::r,h=>by
  have:=wH (w:=w) (F:=r) fun y hy=>h y (List.mem_cons_of_mem _ hy)
  have hx:=h x (by simp)
  simp only [wS,List.map_cons,List.sum_cons] at this ⊢
  omega
structure Wok (w:Mt→Int) (P:List Mt) (acc:List (Int×Ch)):Prop where
 a:∀ x∈acc,∃ F m,x=(m.2.2,(wS w (F++[m]),F++[m]))∧(F++[m]).Pairwise bef∧∀ y∈F++[m],y∈P∧0<w y
 b:∀ F m,(F++[m]).Pairwise bef→(∀ y∈F++[m],y∈P∧0<w y)→∃ v C,(m.2.2,(v,C))∈acc∧wS w (F++[m])≤v
theorem sN {F:List Mt} {m:Mt}:(F++[m]).Pairwise bef↔F.Pairwise bef∧∀ y∈F,bef y m:=by
 rw [List.pairwise_append]
 simp
theorem Wok.step {w:Mt→Int} {P:List Mt} {acc:List (Int×Ch)} {m:Mt} (h:Wok w P acc) (hs:∀ y∈P,y.2.2≤m.2.2) (hp:∀ y∈P++[m],y.2.1<y.2.2):Wok w (P++[m]) (dY w acc m):=by
 have hm:=hp m (by simp)
 unfold dY
 by_cases hw:0<w m
 ·rw [if_pos hw]
  generalize hL:(acc.filter fun x=>decide (x.1≤m.2.1)).map (·.2)=L
  have hin:∀ c∈L,∃ F m',c=(wS w (F++[m']),F++[m'])∧m'.2.2≤m.2.1∧(F++[m']).Pairwise bef∧∀ y∈F++[m'],y∈P∧0<w y:=fun c hc=>by
   rw [←hL] at hc
   obtain ⟨x,hx,rfl⟩:=List.mem_map.mp hc
   obtain ⟨hx,hd⟩:=List.mem_filter.mp hx
   obtain ⟨F,m',rfl,h1,h2⟩:=h.a x hx
   exact ⟨F,m',rfl,by simpa using hd,h1,h2⟩
  have new:∃ F,(bst L).2=F∧(bst L).1=wS w F∧F.Pairwise bef∧(∀ y∈F,(y∈P∧0<w y)∧bef y m):=by
   by_cases hn:L=[]
   ·rw [hn];exact ⟨[],rfl,rfl,.nil,by simp⟩
   ·obtain ⟨F,m',e,h1,h2,h3⟩:=hin _ (tW hn)
    refine ⟨F++[m'],by rw [e],by rw [e],h2,fun y hy=>⟨h3 y hy,?_⟩⟩
    rcases List.mem_append.mp hy with z | z
    ·have:=(sN.mp h2).2 y z
     have p':=hp m' (List.mem_append_left _ (h3 m' (by simp)).1)
     unfold bef at *;omega
    ·obtain rfl:=List.mem_singleton.mp z
     exact h1
  obtain ⟨C,e1,e2,c1,c2⟩:=new
  have b0:0≤(bst L).1:=by rw [e2];exact wH fun y hy=>(c2 y hy).1.2
  refine ⟨fun x hx=>?_,fun F m2 f1 f2=>?_⟩
  ·rcases List.mem_append.mp hx with z | z
   ·obtain ⟨F,m',r1,r2,r3⟩:=h.a x z
    exact ⟨F,m',r1,r2,fun y hy=>⟨List.mem_append_left _ (r3 y hy).1,(r3 y hy).2⟩⟩
   ·rw [List.mem_singleton.mp z,e1,e2]
    refine ⟨C,m,by rw [a1p],sN.mpr ⟨c1,fun y hy=>(c2 y hy).2⟩,fun y hy=>?_⟩
    rcases List.mem_append.mp hy with z | z
    ·exact ⟨List.mem_append_left _ (c2 y z).1.1,(c2 y z).1.2⟩
    ·obtain rfl:=List.mem_singleton.mp z
     exact ⟨by simp,hw⟩
  ·obtain ⟨g1,g2⟩:=sN.mp f1
   by_cases em:m2=m
   ·subst em
    have inP:∀ y∈F,y∈P∧0<w y:=fun y hy=>by
     obtain ⟨z1,z2⟩:=f2 y (List.mem_append_left _ hy)
     rcases List.mem_append.mp z1 with z | z
     ·exact ⟨z,z2⟩
     ·have:=g2 y hy
      rw [List.mem_singleton.mp z] at this
      unfold bef at this;omega
    refine ⟨_,_,List.mem_append_right _ (List.mem_singleton.mpr rfl),?_⟩
    rw [a1p]
    have:wS w F≤(bst L).1:=by
     rcases List.eq_nil_or_concat F with rfl | ⟨F',m',rfl⟩
     ·exact b0
     ·rw [List.concat_eq_append] at *
      obtain ⟨v,C',hv,hle⟩:=h.b F' m' g1 inP
      refine Int.le_trans hle (a3L (c:=(v,C')) ?_)
      rw [←hL]
      refine List.mem_map.mpr ⟨_,List.mem_filter.mpr ⟨hv,?_⟩,rfl⟩
      have:=g2 m' (by simp)
      simpa [bef] using this
    omega
   ·have inP:∀ y∈F++[m2],y∈P∧0<w y:=fun y hy=>by
     obtain ⟨z1,z2⟩:=f2 y hy
     rcases List.mem_append.mp z1 with z | z
     ·exact ⟨z,z2⟩
     ·exfalso
      obtain rfl:=List.mem_singleton.mp z
      rcases List.mem_append.mp hy with z | z
      ·have q:=g2 y z
       have i2:m2∈P:=by
        rcases List.mem_append.mp (f2 m2 (by simp)).1 with z | z
        ·exact z
        ·exact absurd (List.mem_singleton.mp z) em
       have:=hs m2 i2
       have:=hp m2 (List.mem_append_left _ i2)
       unfold bef at q;omega
      ·exact em (List.mem_singleton.mp z).symm
    obtain ⟨v,C',hv,hle⟩:=h.b F m2 f1 inP
    exact ⟨v,C',List.mem_append_left _ hv,hle⟩
 ·rw [if_neg hw]
  refine ⟨fun x hx=>?_,fun F m2 f1 f2=>h.b F m2 f1 fun y hy=>?_⟩
  ·obtain ⟨F,m',r1,r2,r3⟩:=h.a x hx
   exact ⟨F,m',r1,r2,fun y hy=>⟨List.mem_append_left _ (r3 y hy).1,(r3 y hy).2⟩⟩
  ·obtain ⟨z1,z2⟩:=f2 y hy
   rcases List.mem_append.mp z1 with z | z
   ·exact ⟨z,z2⟩
   ·rw [List.mem_singleton.mp z] at z2
    exact absurd z2 hw
theorem Wok.all {w:Mt→Int}:∀ (E P:List Mt) (acc:List (Int×Ch)),Wok w P acc→(P++E).Pairwise (fun a b=>a.2.2≤b.2.2)→(∀ y∈P++E,y.2.1<y.2.2)→Wok w (P++E) (E.foldl (dY w) acc)
 | [],P,acc,h,_,_=>by rw [List.append_nil];exact h
 | m::E,P,acc,h,hs,hp=>by
  rw [List.append_cons]
  refine Wok.all E (P++[m]) _ (h.step (fun y hy=>?_) fun y hy=>hp y ?_) (by rw [←List.append_cons];exact hs) (by rw [←List.append_cons];exact hp)
  ·exact (List.pairwise_append.mp hs).2.2 y hy m (by simp)
  ·rcases List.mem_append.mp hy with z | z
   ·exact List.mem_append_left _ z
   ·rw [List.mem_singleton.mp z];simp
theorem a5W (w:Mt→Int) {s:List Mt} (hp:jK s):Wok w (cB s) (wl w (cB s)):=by
 have:=Wok.all (w:=w) (cB s) [] [] ⟨by simp,fun F m _ h=>by have:=(h m (by simp)).1;cases this⟩ (by rw [List.nil_append];exact jP s) (fun y hy=>hp y ((bV s).mem_iff.mp (by simpa using hy)))
 rw [List.nil_append] at this
 exact this
theorem hZ (w:Mt→Int) {s:List Mt} (hp:jK s):(wb w s).2.Pairwise bef∧(∀ y∈(wb w s).2,y∈s∧0<w y)∧(wb w s).1=wS w (wb w s).2:=by
 unfold wb
 by_cases hn:(wl w (cB s)).map (·.2)=[]
 ·rw [hn,show bst []=((0:Int),([]:List Mt)) from rfl];exact ⟨.nil,by simp,rfl⟩
 ·obtain ⟨x,hx,e⟩:=List.mem_map.mp (tW hn)
  obtain ⟨F,m,rfl,h1,h2⟩:=(a5W w hp).a x hx
  rw [←e]
  exact ⟨h1,fun y hy=>⟨(bV s).mem_iff.mp (h2 y hy).1,(h2 y hy).2⟩,rfl⟩
theorem a3Z {w:Mt→Int} {F G:List Mt} (h:F.Perm G):wS w F=wS w G:=by
 unfold wS
 induction h with
 | nil=>rfl
 | cons x _ ih=>simp [ih]
 | swap x y l=>simp;omega
 | trans _ _ i1 i2=>exact i1.trans i2
theorem pZ (w:Mt→Int):∀ (F:List Mt),wS w F≤wS w (F.filter fun m=>decide (0<w m))
 | []=>Int.le_refl _
 | x::r=>by
  have ih:=pZ w r
  unfold wS at *
  by_cases h:0<w x
  ·rw [List.filter_cons_of_pos (by simpa using h)]
   simp only [List.map_cons,List.sum_cons];omega
  ·rw [List.filter_cons_of_neg (by simpa using h)]
   simp only [List.map_cons,List.sum_cons];omega
theorem kF (w:Mt→Int) {s F:List Mt} (hp:jK s) (ha:F.Pairwise iM) (hF:∀ m∈F,m∈s):wS w F≤(wb w s).1:=by
 refine Int.le_trans (pZ w F) ?_
 generalize hC:F.filter (fun m=>decide (0<w m))=C
 have cF:∀ m∈C,m∈F∧0<w m:=fun m hm=>by
  rw [←hC] at hm
  obtain ⟨a,b⟩:=List.mem_filter.mp hm
  exact ⟨a,by simpa using b⟩
 have ca:C.Pairwise iM:=by rw [←hC];exact ha.filter _
 rw [←a3Z (bV C)]
 have pa:(cB C).Pairwise iM:=((bV C).pairwise_iff (fun {a b} h=>h.symm)).mpr ca
 have cm:∀ y∈cB C,y∈s∧0<w y:=fun y hy=>by
  have:=cF y ((bV C).mem_iff.mp hy)
  exact ⟨hF y this.1,this.2⟩
 have cb:(cB C).Pairwise bef:=by
  refine List.Pairwise.imp_of_mem (fun {a b} ha hb h=>?_) (pa.and (jP C))
  rcases h.1 with z | z
  ·exact z
  ·have:=hp a (cm a ha).1
   have:=hp b (cm b hb).1
   have:=h.2
   unfold bef at *;omega
 have ok:=a5W w hp
 have pos0:0≤(wb w s).1:=by
  obtain ⟨_,h2,h3⟩:=hZ w hp
  rw [h3];exact wH fun y hy=>(h2 y hy).2
 rcases List.eq_nil_or_concat (cB C) with e | ⟨F',m',e⟩
 ·rw [e];exact pos0
 ·rw [List.concat_eq_append] at e
  rw [e] at cb cm ⊢
  obtain ⟨v,C',hv,hle⟩:=ok.b F' m' cb fun y hy=>⟨(bV s).mem_iff.mpr (cm y hy).1,(cm y hy).2⟩
  exact Int.le_trans hle (a3L (c:=(v,C')) (List.mem_map.mpr ⟨_,hv,rfl⟩))
theorem gX {F:List Mt} (h:F.Pairwise bef):F.Pairwise iM:=h.imp fun z=>.inl z
theorem wb_sub (w:Mt→Int) {s t:List Mt} (hs:jK s) (ht:∀ m∈t,m∈s):(wb w t).1≤(wb w s).1:=by
 obtain ⟨h1,h2,h3⟩:=hZ w (s:=t) fun m hm=>hs m (ht m hm)
 rw [h3]
 exact kF w hs (gX h1) fun m hm=>ht m (h2 m hm).1
theorem wb_two (w:Mt→Int) {s:List Mt} (hp:jK s):(wb (fun m=>2*w m) s).1=2*(wb w s).1:=by
 have two:∀ F,wS (fun m=>2*w m) F=2*wS w F:=fun F=>by
  induction F with
  | nil=>rfl
  | cons x r ih=>simp only [wS,List.map_cons,List.sum_cons] at *;omega
 obtain ⟨a1,a2,a3⟩:=hZ w hp
 obtain ⟨b1,b2,b3⟩:=hZ (fun m=>2*w m) hp
 have h1:=kF (fun m=>2*w m) hp (gX a1) fun m hm=>(a2 m hm).1
 have h2:=kF w hp (gX b1) fun m hm=>(b2 m hm).1
 rw [two] at h1 b3
 omega
theorem wb_one {s:List Mt} (hp:jK s):(wb (fun _=>1) s).1=(nu s:Nat):=by
 have one:∀ F:List Mt,wS (fun _=>1) F=(F.length:Nat):=fun F=>by
  induction F with
  | nil=>rfl
  | cons x r ih=>simp only [wS,List.map_cons,List.sum_cons,List.length_cons] at *;omega
 obtain ⟨a1,a2,a3⟩:=hZ (fun _=>1) hp
 obtain ⟨F,b1,b2,b3⟩:=a4Q hp
 have h1:=kF (fun _=>1) hp b1 b2
 have h2:=a4R hp (gX a1) fun m hm=>(a2 m hm).1
 rw [one] at h1 a3
 omega
noncomputable def bF (w:Mt→Int):Nat→List Mt→Int
 | _,[]=>0
 | 0,_::_=>0
 | n+1,x::r=>max (w x+bF w n (r.filter fun y=>!decide (ov x y))) (bF w n r)
theorem uT {F:List Mt} (ha:F.Pairwise iM) (hp:jK F):F.Nodup:=by
 refine List.Pairwise.imp_of_mem (fun {a b} h1 h2 h e=>?_) ha
 subst e
 have:=hp a h1
 rcases h with z | z<;>(unfold bef at z;omega)
theorem a1o (w:Mt→Int) (x:Mt):∀ (F:List Mt),F.Nodup→x∈F→wS w F=w x+wS w (F.filter fun m=>!decide (m=x))
 | [],_,h=>nomatch h
 | y::r,nd,h=>by
  rw [List.nodup_cons] at nd
  by_cases e:y=x
  ·subst e
   rw [List.filter_cons_of_neg (by simp)]
   have:r.filter (fun m=>!decide (m=y))=r:=List.filter_eq_self.mpr fun m hm=>by
    have:m≠y:=fun z=>nd.1 (z▸hm)
    simpa using this
   rw [this];simp [wS]
  ·rw [List.filter_cons_of_pos (by simpa using e)]
   have ih:=a1o w x r nd.2 (by rcases List.mem_cons.mp h with z | z;exact absurd z.symm e;exact z)
   simp only [wS,List.map_cons,List.sum_cons] at *
   omega
theorem tY (w:Mt→Int):∀ (n:Nat) (l F:List Mt),l.length≤n→jK l→F.Pairwise iM→(∀ m∈F,m∈l)→wS w F≤bF w n l
 | n,[],F,_,_,_,h=>by
  cases F with
  | nil=>unfold bF;exact Int.le_refl _
  | cons m r=>exact absurd (h m (by simp)) (by simp)
 | 0,x::r,F,h,_,_,_=>by simp at h
 | n+1,x::r,F,h,hp,ha,hF=>by
  have hp':jK r:=fun m hm=>hp m (List.mem_cons_of_mem _ hm)
  rw [List.length_cons] at h
  have hl:(r.filter fun y=>!decide (ov x y)).length≤n:=Nat.le_trans (List.length_filter_le _ _) (by omega)
  have hpl:jK (r.filter fun y=>!decide (ov x y)):=fun m hm=>hp' m (List.mem_filter.mp hm).1
  rw [bF]
  by_cases hx:x∈F
  ·have h2:=tY w n (r.filter fun y=>!decide (ov x y)) (F.filter fun m=>!decide (m=x)) hl hpl (ha.filter _) (fun m hm=>by
    obtain ⟨hm,hn⟩:=List.mem_filter.mp hm
    have hn:m≠x:=by simpa using hn
    have hr:m∈r:=by
     rcases List.mem_cons.mp (hF m hm) with z | z
     ·exact absurd z hn
     ·exact z
    refine List.mem_filter.mpr ⟨hr,?_⟩
    have:=(uP (hp x (by simp)) (hp' m hr)).mpr (pw_sym ha hx hm (Ne.symm hn))
    simpa using this)
   rw [a1o w x F (uT ha fun m hm=>hp m (hF m hm)) hx]
   omega
  ·have:=tY w n r F (by omega) hp' ha fun m hm=>by
    rcases List.mem_cons.mp (hF m hm) with z | z
    ·exact absurd (z▸hm) hx
    ·exact z
   omega
theorem tX (w:Mt→Int):∀ (n:Nat) (l:List Mt),l.length≤n→jK l→∃ F:List Mt,F.Pairwise iM∧(∀ m∈F,m∈l)∧wS w F=bF w n l
 | n,[],_,_=>⟨[],.nil,by simp,by unfold bF;rfl⟩
 | 0,x::r,h,_=>by simp at h
 | n+1,x::r,h,hp=>by
  have hp':jK r:=fun m hm=>hp m (List.mem_cons_of_mem _ hm)
  rw [List.length_cons] at h
  have hl:(r.filter fun y=>!decide (ov x y)).length≤n:=Nat.le_trans (List.length_filter_le _ _) (by omega)
  have hpl:jK (r.filter fun y=>!decide (ov x y)):=fun m hm=>hp' m (List.mem_filter.mp hm).1
  obtain ⟨F,a,b,c⟩:=tX w n _ hl hpl
  obtain ⟨F2,a2,b2,c2⟩:=tX w n r (by omega) hp'
  rw [bF]
  by_cases hc:bF w n r≤w x+bF w n (r.filter fun y=>!decide (ov x y))
  ·rw [Int.max_eq_left hc]
   refine ⟨x::F,.cons (fun m hm=>?_) a,fun m hm=>?_,by rw [←c];simp [wS]⟩
   ·obtain ⟨h1,h2⟩:=List.mem_filter.mp (b m hm)
    exact (uP (hp x (by simp)) (hp' m h1)).mp (by simpa using h2)
   ·rcases List.mem_cons.mp hm with rfl | hm
    ·simp
    ·exact List.mem_cons_of_mem _ (List.mem_filter.mp (b m hm)).1
  ·rw [Int.max_eq_right (by omega)]
   exact ⟨F2,a2,fun m hm=>List.mem_cons_of_mem _ (b2 m hm),c2⟩
theorem bF_wb (w:Mt→Int) {n:Nat} {s:List Mt} (h:s.length≤n) (hp:jK s):bF w n s=(wb w s).1:=by
 obtain ⟨F,a,b,c⟩:=tX w n s h hp
 obtain ⟨a2,b2,c2⟩:=hZ w hp
 have h1:=kF w hp a b
 have h2:=tY w n s _ h hp (gX a2) fun m hm=>(b2 m hm).1
 omega
end L2.L3
namespace L2.L3
open PySem PySem.Spec PyProof.Rows
noncomputable def dCh (c:Ch):PyData:=.tuple [.int c.1,.list ((c.2.map (·.1)).map .str)]
noncomputable def dEn (x:Int×Ch):PyData:=.tuple [.int x.1,dCh x.2]
noncomputable abbrev enW (w:Mt→Int) (s:List Mt):List (Key×PyData):=s.map fun m=>(Sum.inr m.1,.int (w m))
noncomputable abbrev dW (w:Mt→Int) (s:List Mt):PyData:=jA (enW w s)
theorem zE:∀ l:List Ch,jE cD (l.map dCh)=some ((l.map (·.1)).map .int)
 | []=>rfl
 | c::l=>by
  rw [List.map_cons]
  unfold jE
  rw [show cD [.val (dCh c)]=some (.ok (.int c.1)) from rfl,zE l];rfl
theorem a3l (l:List Ch):cA [.list (l.map dCh)]=some (.ok (dCh (bst l))):=by
 refine cI rfl ?_
 show gG [.val (.list (l.map dCh))]=_
 unfold gG
 rw [gC]
 have e:zA (var 0) cD (iS (aC (cst (.int 0)) (aC (jB aJ) aJ))) [.val (.list (l.map dCh))]=some (.ok (dCh (bst l))):=by
  show lft (zB cD (l.map dCh) (.tuple [.int 0,.list []]))=_
  unfold zB
  rw [zE]
  dsimp only
  rw [lB (g:=.int) (fun _=>rfl)]
  dsimp only
  unfold bst
  rw [List.length_map]
  by_cases h:l.length=0
  ·rw [if_pos h,if_pos h];rfl
  ·rw [if_neg h,if_neg h]
   have b:=(argBest_gt (fun i=>(l.map (·.1)).getD i 0) (l.length - 1)).1
   have h1:argBest (gtB (l.map (·.1))) (l.length - 1)<l.length:=Nat.lt_of_le_of_lt b (by omega)
   rw [List.getD_eq_getElem?_getD,List.getElem?_map,List.getD_eq_getElem?_getD,List.getElem?_eq_getElem h1];rfl
 rw [e];rfl
theorem a2y (w:Mt→Int):∀ {s:List Mt} {m:Mt},(s.map (·.1)).Nodup→m∈s→qY (.inr m.1) ((enW w s).map fun p=>(cE p.1,p.2))=some (.int (w m))
 | [],_,_,h=>nomatch h
 | x::s,m,nd,h=>by
  rw [List.map_cons,List.nodup_cons] at nd
  show (if (some (Sum.inr x.1):Option Key)=some (Sum.inr m.1) then some (PyData.int (w x)) else qY (.inr m.1) ((enW w s).map fun p=>(cE p.1,p.2)))=_
  rcases List.mem_cons.mp h with rfl | h
  ·rw [if_pos rfl]
  ·rw [if_neg (fun z=>nd.1 (by rw [Sum.inr.inj (Option.some.inj z)];exact List.mem_map_of_mem h)),a2y w nd.2 h]
theorem vJ (w:Mt→Int) {s:List Mt} {m:Mt} (nd:(s.map (·.1)).Nodup) (h:m∈s):iH (dW w s) (.str m.1)=some (.int (w m)):=a2y w nd h
theorem a3y:∀ (ns acc:List Str),(∀ x∈ns,x∉acc)→ns.Nodup→ns.foldl (fun a n=>if n∈a then a else a++[n]) acc=acc++ns
 | [],acc,_,_=>by simp
 | n::ns,acc,h,nd=>by
  rw [List.nodup_cons] at nd
  rw [List.foldl_cons,if_neg (h n (by simp)),a3y ns (acc++[n]) (fun x hx z=>by
   rcases List.mem_append.mp z with z | z
   ·exact h x (List.mem_cons_of_mem _ hx) z
   ·rw [List.mem_singleton] at z;subst z;exact nd.1 hx) nd.2]
  simp
theorem ded_nd {ns:List Str} (nd:ns.Nodup):kC ns=ns:=by
 have:=a3y ns [] (by simp) nd
 simpa [kC] using this
theorem rX (ns:List Str):dJ wO (ns.map .str)=some ns:=lB (g:=.str) (fun _=>rfl) ns
theorem a1F {D:List (PyData×PyData)} {ks ns:List Str} (hD:D.map (·.1)=ks.map .str) (nd:ns.Nodup) (h1:ks.length<64) (h2:ns.length<64) :
  lN (.dict D) (.list (ns.map .str))=some (!(decide (ks.length=ns.length)&&ks.all fun k=>decide (k∈ns))):=by
 show (match dJ wO (D.map (·.1)),dJ wO (ns.map .str) with
  | some ks,some ns=>if ks.length<64∧ns.length<64 then some (!(decide (ks.length=(kC ns).length)&&ks.all fun k=>decide (k∈kC ns))) else none
  | _,_=>none)=_
 rw [hD,rX,rX]
 dsimp only
 rw [if_pos ⟨h1,h2⟩,ded_nd nd]
theorem t1_w {s:List Mt} {D:List (PyData×PyData)} {ks:List Str} (hD:D.map (·.1)=ks.map .str) (nd:(s.map (·.1)).Nodup) (h1:ks.length<64) (hz:s.length<64) (a b c d e:Ent) :
  iT [.val (dS s),.val (.dict D),a,b,c,d,e]=some (.ok (!(decide (ks.length=s.length)&&ks.all fun k=>decide (k∈s.map (·.1))))):=by
 have e1:(aZ bM (aC (var 0) aJ)) [.val (dS s),.val (.dict D),a,b,c,d,e]=some (.ok (.list ((s.map (·.1)).map .str))):=bZ (ds:=[dS s]) rfl (a5w s (by omega))
 show dfT lN (var 1) (aZ bM (aC (var 0) aJ)) _=_
 unfold dfT
 rw [e1]
 show lft (lN (.dict D) _)=_
 rw [a1F hD nd h1 (by rw [List.length_map];exact hz),List.length_map];rfl
theorem a2E (w:Mt→Int) (s:List Mt):((enW w s).map fun p=>(cE p.1,p.2)).map (·.1)=(s.map (·.1)).map .str:=by
 rw [List.map_map,List.map_map,List.map_map];rfl
theorem addLL {a b:List PyData} (h:a.length+b.length≤100000):bX (.list a) (.list b)=some (.list (a++b)):=by
 rw [add_ll,if_pos h]
theorem kG {fa fb:EF} {ρ:List Ent} {x y:PyData} (ha:fa ρ=some (.ok x)) (hb:fb ρ=some (.ok y)):iS (aC fa (aC fb aJ)) ρ=some (.ok (.tuple [x,y])):=by
 unfold iS
 rw [bC,ha,dO,bC,hb];rfl
theorem a0a {w:Mt→Int} {acc:List (Int×Ch)} {m:Mt} (h:∀ c∈acc,c.2.2.length≤acc.length):(bst ((acc.filter fun x=>decide (x.1≤m.2.1)).map (·.2))).2.length≤acc.length∧∀ c∈dY w acc m,c.2.2.length≤(dY w acc m).length:=by
 have hb:(bst ((acc.filter fun x=>decide (x.1≤m.2.1)).map (·.2))).2.length≤acc.length:=by
  by_cases hn:(acc.filter fun x=>decide (x.1≤m.2.1)).map (·.2)=[]
  ·rw [hn];exact Nat.zero_le _
  ·obtain ⟨x,hx,e⟩:=List.mem_map.mp (tW hn)
   rw [←e];exact h x (List.mem_filter.mp hx).1
 refine ⟨hb,fun c hc=>?_⟩
 unfold dY at hc ⊢
 split at hc
 ·rename_i hw
  rw [if_pos hw]
  rcases List.mem_append.mp hc with z | z
  ·have:=h c z
   rw [List.length_append];omega
  ·rw [List.mem_singleton.mp z]
   simp only [List.length_append,List.length_singleton];omega
 ·rename_i hw
  rw [if_neg hw];exact h c hc
theorem a2x {w:Mt→Int} {s:List Mt} (nd:(s.map (·.1)).Nodup):∀ (l:List Mt) (acc:List (Int×Ch)) (x y z u:Ent),acc.length+l.length≤1000→(∀ c∈acc,c.2.2.length≤acc.length)→(∀ m∈l,m∈s) →
  ∃ x' y' z' u',fR (.tp [3,4,5]) fG (l.map dM) [.val (dS s),.val (dW w s),.lst (acc.map dEn),x,y,z,u]=some (.nx [.val (dS s),.val (dW w s),.lst ((l.foldl (dY w) acc).map dEn),x',y',z',u'])
 | [],acc,x,y,z,u,_,_,_=>⟨x,y,z,u,rfl⟩
 | m::l,acc,x,y,z,u,h,hc,hl=>by
  obtain ⟨hB0,hc2⟩:=a0a (w:=w) (m:=m) hc
  rw [List.length_cons] at h
  have hm:=hl m (by simp)
  have hg:=vJ w nd hm
  have t2:eV [.val (dS s),.val (dW w s),.lst (acc.map dEn),.val (.str m.1),.val (.int m.2.1),.val (.int m.2.2),u]=some (.ok (decide (0<w m))):=by
   show bnd (lft (iH (dW w s) (.str m.1))) _=_
   rw [hg]
   show lft (gtD (.int (w m)) (.int 0))=_
   rw [show gtD (.int (w m)) (.int 0)=some (decide (w m > 0)) from rfl];rfl
  have k1:jF [.val (dS s),.val (dW w s),.lst (acc.map dEn),.val (.str m.1),.val (.int m.2.1),.val (.int m.2.2),u]=some (.ok (.list (((acc.filter fun x=>decide (x.1≤m.2.1)).map (·.2)).map dCh))):=by
   rw [List.map_map]
   exact gT dEn (fun x=>[.val (.int x.1),.val (dCh x.2),.val (.int m.2.1)]) (fun x=>decide (x.1≤m.2.1)) (fun x=>dCh x.2) acc rfl (by omega) (fun x _=>rfl) (fun x _=>rfl) (fun x _ _=>rfl)
  have step:∃ u',fG [.val (dS s),.val (dW w s),.lst (acc.map dEn),.val (.str m.1),.val (.int m.2.1),.val (.int m.2.2),u]=some (.nx [.val (dS s),.val (dW w s),.lst ((dY w acc m).map dEn),.val (.str m.1),.val (.int m.2.1),.val (.int m.2.2),u']):=by
   show ∃ u',ifS eV _ iQ _=_
   rw [gP,t2,wC]
   unfold dY
   by_cases hw:0<w m
   ·rw [if_pos (decide_eq_true hw),if_pos hw]
    generalize hB:bst ((acc.filter fun x=>decide (x.1≤m.2.1)).map (·.2))=B at hB0 ⊢
    refine ⟨.val (dCh B),?_⟩
    rw [aL (ρ':=[.val (dS s),.val (dW w s),.lst (acc.map dEn),.val (.str m.1),.val (.int m.2.1),.val (.int m.2.2),.val (dCh B)]) (by
     rw [lM,bZ (ds:=[.list (((acc.filter fun x=>decide (x.1≤m.2.1)).map (·.2)).map dCh)]) (by rw [bC,k1];rfl) (a3l _),hB];rfl)]
    rw [uB (i:=2) (ds:=acc.map dEn) (d:=dEn (m.2.2,(B.1+w m,B.2++[m]))) rfl ?_ (by rw [List.length_map];omega)]
    ·simp
    ·have e1:op2 bX (op2 ixD (var 6) (cst (.int 0))) (op2 iH (var 1) (var 3)) [.val (dS s),.val (dW w s),.lst (acc.map dEn),.val (.str m.1),.val (.int m.2.1),.val (.int m.2.2),.val (dCh B)]=some (.ok (.int (B.1+w m))):=by
      rw [dE]
      show bnd (lft (iH (dW w s) (.str m.1))) _=_
      rw [hg];rfl
     have e2:op2 bX (op2 ixD (var 6) (cst (.int 1))) (jB (aC (var 3) aJ)) [.val (dS s),.val (dW w s),.lst (acc.map dEn),.val (.str m.1),.val (.int m.2.1),.val (.int m.2.2),.val (dCh B)]=some (.ok (.list (((B.2++[m]).map (·.1)).map .str))):=by
      show lft (bX (.list ((B.2.map (·.1)).map .str)) (.list [.str m.1]))=_
      rw [addLL (by simp;omega),List.map_append,List.map_append];rfl
     exact kG (x:=.int m.2.2) rfl (kG e1 e2)
   ·rw [if_neg (by rw [decide_eq_false hw];decide),if_neg hw]
    exact ⟨u,rfl⟩
  obtain ⟨u',step⟩:=step
  rw [List.map_cons,qT (t:=.tp [3,4,5]) (ρ1:=[.val (dS s),.val (dW w s),.lst (acc.map dEn),.val (.str m.1),.val (.int m.2.1),.val (.int m.2.2),u]) rfl step]
  refine a2x nd l (dY w acc m) _ _ _ _ ?_ hc2 fun y hy=>hl y (List.mem_cons_of_mem _ hy)
  have:(dY w acc m).length≤acc.length+1:=by
   unfold dY;split<;>simp
  omega
theorem a4m {m n:Nat} {f:SF} {ds:List PyData} {d:PyData} (hl:ds.length=n) (h:f (lH m ds)=some (.rt d)):sK m n f ds=some (.ok d):=by
 unfold sK;rw [if_pos hl,h]
theorem a4n {m n:Nat} {f:SF} {ds:List PyData} {c:Str} {ρ:List Ent} (hl:ds.length=n) (h:f (lH m ds)=some (.xc c ρ)):sK m n f ds=some (.ex c):=by
 unfold sK;rw [if_pos hl,h]
theorem a4S {f:SF} {ρ ρ':List Ent} (h:f ρ=some (.nx ρ')):a2e f ρ=some (.nx ρ'):=by unfold a2e;rw [h]
theorem a4l {f g:SF} {ρ ρ':List Ent} {c:Str} (h:f ρ=some (.xc c ρ')):bL f g ρ=some (.xc c ρ'):=by unfold bL;rw [h]
theorem jJ {F:List PyData→Mm PyData} {fa:AF} {ρ:List Ent} {ds:List PyData} {r:Re PyData} (ha:fa ρ=some (.ok ds)) (h:F ds=some r):kZ F fa ρ=some r:=by
 show bnd (fa ρ) F=_
 rw [ha];exact h
theorem all_in {s:List Mt}:((s.map (·.1)).all fun k=>decide (k∈s.map (·.1)))=true:=List.all_eq_true.mpr fun k hk=>decide_eq_true hk
theorem e_w {w:Mt→Int} {s:List Mt} (nd:(s.map (·.1)).Nodup) (hz:s.length<64):aN [dS s,dW w s]=some (.ok (dCh (wb w s))):=by
 refine a4m rfl ?_
 show cO [.val (dS s),.val (dW w s),.no,.no,.no,.no,.no]=_
 unfold cO
 have t1:=t1_w (s:=s) (a2E w s) nd (by rw [List.length_map];exact hz) hz .no .no .no .no .no
 rw [List.length_map,decide_eq_true rfl,all_in] at t1
 rw [aL (ρ':=[.val (dS s),.val (dW w s),.no,.no,.no,.no,.no]) (by rw [gP];erw [t1];rfl)]
 rw [aL (ρ':=[.val (dS s),.val (dW w s),.lst [],.no,.no,.no,.no]) (by simp)]
 have hl:(cB s).length=s.length:=(bV s).length_eq
 obtain ⟨x',y',z',u',e⟩:=a2x (w:=w) nd (cB s) [] .no .no .no .no (by simp;omega) (by simp) (fun m hm=>(bV s).mem_iff.mp hm)
 rw [aL (ρ':=[.val (dS s),.val (dW w s),.lst ((wl w (cB s)).map dEn),x',y',z',u']) (a4S (by
  rw [xN,mZ (bZ (ds:=[dS s]) rfl (vP nd hz)) rfl]
  exact e))]
 have hw:(wl w (cB s)).length≤1000:=by
  have:∀ (l:List Mt) (acc:List (Int×Ch)),(l.foldl (dY w) acc).length≤acc.length+l.length:=fun l=>by
   induction l with
   | nil=>intro acc;simp
   | cons m l ih=>
    intro acc
    rw [List.foldl_cons,List.length_cons]
    have h1:=ih (dY w acc m)
    have:(dY w acc m).length≤acc.length+1:=by unfold dY;split<;>simp
    omega
  have:=this (cB s) []
  unfold wl
  rw [List.length_nil] at this
  omega
 show retS (aZ cA (aC fB aJ)) [.val (dS s),.val (dW w s),.val (.list ((wl w (cB s)).map dEn)),x',y',z',u']=_
 have k2:fB [.val (dS s),.val (dW w s),.val (.list ((wl w (cB s)).map dEn)),x',y',z',u']=some (.ok (.list (((wl w (cB s)).map (·.2)).map dCh))):=by
  rw [List.map_map]
  exact dQ dEn (fun x=>[.val (.int x.1),.val (dCh x.2)]) (fun x=>dCh x.2) (wl w (cB s)) rfl (by omega) (fun x _=>rfl) (fun x _=>rfl)
 rw [gC,bZ (ds:=[.list (((wl w (cB s)).map (·.2)).map dCh)]) (by rw [bC,k2];rfl) (a3l _)];rfl
theorem e_wX {s:List Mt} {D:List (PyData×PyData)} {ks:List Str} (hD:D.map (·.1)=ks.map .str) (nd:(s.map (·.1)).Nodup) (h1:ks.length<64) (hz:s.length<64) (hn:ks.length≠s.length):aN [dS s,.dict D]=some (.ex "NoMeeting"):=by
 refine a4n (ρ:=[.val (dS s),.val (.dict D),.no,.no,.no,.no,.no]) rfl ?_
 show cO [.val (dS s),.val (.dict D),.no,.no,.no,.no,.no]=_
 unfold cO
 have t1:=t1_w (s:=s) hD nd h1 hz .no .no .no .no .no
 rw [decide_eq_false hn] at t1
 refine a4l ?_
 rw [gP,t1];rfl
theorem tP {w:Mt→Int} {s:List Mt} (nd:(s.map (·.1)).Nodup):∀ (n:Nat) (l:List Mt),l.length≤n→l.length≤100→(∀ m∈l,m∈s)→(∀ m∈l,PyData.strOk m.1=true)→fH (n+1) [.list (l.map dM),dW w s]=some (.ok (.int (bF w n l)))
 | n,[],_,_,_,_=>by
  refine cI rfl ?_
  show gQ (fH n) [.val (.list []),.val (dW w s),.no]=_
  unfold gQ
  have:bF w n []=0:=by unfold bF;rfl
  rw [this]
  refine mY ?_
  rw [gP]
  have:eQ eqD (var 0) (jB aJ) [.val (.list []),.val (dW w s),.no]=some (.ok true):=by
   show lft (eqD (.list []) (.list []))=_
   rw [tN nZ];rfl
  rw [this];rfl
 | 0,x::r,h,_,_,_=>by simp at h
 | n+1,x::r,h,hz,hm,hs=>by
  rw [List.length_cons] at h hz
  have hs':∀ m∈r,PyData.strOk m.1=true:=fun m hm=>hs m (List.mem_cons_of_mem _ hm)
  have hm':∀ m∈r,m∈s:=fun m h=>hm m (List.mem_cons_of_mem _ h)
  have hl:(r.filter fun y=>!decide (ov x y)).length≤r.length:=List.length_filter_le _ _
  have i1:=tP (w:=w) nd n (r.filter fun y=>!decide (ov x y)) (by omega) (by omega) (fun m hm=>hm' m (List.mem_filter.mp hm).1) (fun m hm=>hs' m (List.mem_filter.mp hm).1)
  have i2:=tP (w:=w) nd n r (by omega) (by omega) hm' hs'
  refine cI rfl ?_
  show gQ (fH (n+1)) [.val (.list ((x::r).map dM)),.val (dW w s),.no]=_
  generalize fH (n+1)=S at i1 i2
  unfold gQ
  have t1:eQ eqD (var 0) (jB aJ) [.val (.list ((x::r).map dM)),.val (dW w s),.no]=some (.ok false):=by
   show lft (eqD (.list ((x::r).map dM)) (.list []))=_
   rw [tN (sh_dMs hs)];rfl
  rw [aL (ρ':=[.val (.list ((x::r).map dM)),.val (dW w s),.no]) (by rw [gP,t1];rfl)]
  have tl:slE (var 0) (iO (cst (.int 1))) iP [.val (.list ((x::r).map dM)),.val (dW w s),.no]=some (.ok (.list (r.map dM))):=a5Z (x:=dM x) (r:=r.map dM) rfl
  have k1:dL (.nm 0) [none,some 0] (iW (slE (var 0) (iO (cst (.int 1))) iP)) (a0y (a0g (aZ hV (aC (op2 ixD (var 1) (cst (.int 0))) (aC (var 0) aJ))))) (var 0) [.val (.list ((x::r).map dM)),.val (dW w s),.no]=some (.ok (.list ((r.filter fun y=>!decide (ov x y)).map dM))):=
   gT dM (fun y=>[.val (dM y),.val (.list ((x::r).map dM))]) (fun y=>!decide (ov x y)) dM r (mZ tl rfl) (by omega) (fun y _=>rfl) (fun y _=>by
    rw [notT_e,truT_e,bZ (ds:=[dM x,dM y]) (by rw [bC,dE];simp) (l_over x y)];rfl) (fun y _ _=>rfl)
  rw [bF]
  generalize hq:(r.filter fun y=>!decide (ov x y))=q at k1 i1 hl
  rw [aL (ρ':=[.val (.list ((x::r).map dM)),.val (dW w s),.val (.list (q.map dM))]) (by rw [lM,k1];rfl)]
  have c1:op2 bX (op2 iH (var 1) (op2 ixD (op2 ixD (var 0) (cst (.int 0))) (cst (.int 0)))) (aZ S (aC (var 2) (aC (var 1) aJ))) [.val (.list ((x::r).map dM)),.val (dW w s),.val (.list (q.map dM))]=some (.ok (.int (w x+bF w n q))):=by
   have g:op2 iH (var 1) (op2 ixD (op2 ixD (var 0) (cst (.int 0))) (cst (.int 0))) [.val (.list ((x::r).map dM)),.val (dW w s),.val (.list (q.map dM))]=some (.ok (.int (w x))):=by
    have:op2 ixD (op2 ixD (var 0) (cst (.int 0))) (cst (.int 0)) [.val (.list ((x::r).map dM)),.val (dW w s),.val (.list (q.map dM))]=some (.ok (.str x.1)):=by
     rw [dE,dE];simp
    rw [dE]
    show bnd (op2 ixD (op2 ixD (var 0) (cst (.int 0))) (cst (.int 0)) _) _=_
    rw [this]
    show lft (iH (dW w s) (.str x.1))=_
    rw [vJ w nd (hm x (by simp))];rfl
   rw [dE,g,dO,bZ (ds:=[.list (q.map dM),dW w s]) rfl i1];rfl
  have tl2:slE (var 0) (iO (cst (.int 1))) iP [.val (.list ((x::r).map dM)),.val (dW w s),.val (.list (q.map dM))]=some (.ok (.list (r.map dM))):=a5Z (x:=dM x) (r:=r.map dM) rfl
  have c2:aZ S (aC (slE (var 0) (iO (cst (.int 1))) iP) (aC (var 1) aJ)) [.val (.list ((x::r).map dM)),.val (dW w s),.val (.list (q.map dM))]=some (.ok (.int (bF w n r))):=bZ (ds:=[.list (r.map dM),dW w s]) (by rw [bC,tl2];rfl) i2
  rw [gC,mF (ds:=[.int (w x+bF w n q),.int (bF w n r)]) (by rw [bC,c1,dO,bC,c2];rfl) max_ii,wC]
end L2.L3
namespace L2.L3
open PySem
variable {m:Mt}
theorem sh_dM {m:Mt} (h:PyData.strOk m.1=true):SeqAt.shaped (dM m)=true:=uK (n:=1) (fun d hd=>by
 have:d=.str m.1∨d=.int m.2.1∨d=.int m.2.2:=by simpa using hd
 rcases this with rfl | rfl | rfl<;>simp [PyData.canLay0,h]) (fun d hd=>by
 have:d=.str m.1∨d=.int m.2.1∨d=.int m.2.2:=by simpa using hd
 rcases this with rfl | rfl | rfl<;>simp [PyData.depth]) (by decide)
theorem sh_dS {s:List Mt} (h:∀ m∈s,PyData.strOk m.1=true):SeqAt.shaped (dS s)=true:=uK (n:=2) (fun d hd=>by
 obtain ⟨m,hm,rfl⟩:=List.mem_map.mp hd
 exact SeqAt.canLay_of_shaped (sh_dM (h m hm))) (fun d hd=>by
 obtain ⟨m,hm,rfl⟩:=List.mem_map.mp hd
 rw [PyData.depth]
 have:PyData.depthAll [PyData.str m.1,.int m.2.1,.int m.2.2]≤1:=fV fun d hd=>by
  have:d=.str m.1∨d=.int m.2.1∨d=.int m.2.2:=by simpa using hd
  rcases this with rfl | rfl | rfl<;>simp [PyData.depth]
 omega) (by decide)
end L2.L3
namespace L2.L3
open PySem PySem.Spec PyProof.Rows
theorem yI {S x:PyData} (h:aN [S,x]=some (.ex "NoMeeting")):gY [S,x]=some (.ok (.str "no meeting")):=by
 have hw:jL "NoMeeting" = some (.ok (.str "no meeting")):=by kernel_rfl
 refine cI rfl ?_
 show oZ [.val S,.val x,.no,.no,.no]=_
 unfold oZ
 rw [aL (ρ':=[.val S,.val x,.val .none,.no,.no]) rfl,aL (ρ':=[.val S,.val x,.val .none,.val .none,.no]) rfl]
 rw [aL (ρ':=[.val S,.val x,.exc "NoMeeting", .val .none,.no]) (by
  have b:rV [.val S,.val x,.val .none,.val .none,.no]=some (.xc "NoMeeting" [.val S,.val x,.val .none,.val .none,.no]):=by
   show iB 3 _ _=_
   rw [lM,jJ (ds:=[S,x]) rfl h];rfl
  unfold a1s
  rw [b]
  dsimp only
  rw [if_pos (by decide +kernel)];rfl)]
 rw [aL (ρ':=[.val S,.val x,.exc "NoMeeting", .val .none,.no]) rfl]
 rw [gC,show pM jL 2 [.val S,.val x,.exc "NoMeeting", .val .none,.no]=some (.ok (.str "no meeting")) from by unfold pM;dsimp only [List.getElem?_cons_succ,List.getElem?_cons_zero];rw [hw]]
 rfl
noncomputable abbrev prW (w:Mt→Int) (m:Mt):PyData:=.tuple [.str m.1,.int (w m)]
theorem sP (w:Mt→Int):∀ u:List Mt,dJ jQ (u.map (prW w))=some (enW w u)
 | []=>rfl
 | r::u=>by
  rw [List.map_cons]
  unfold dJ
  rw [show jQ (prW w r)=some ((.inr r.1:Key),.int (w r)) from rfl,sP w u];rfl
theorem keysW (w:Mt→Int) (u:List Mt):(enW w u).map (·.1)=(u.map (·.1)).map Sum.inr:=by rw [List.map_map,List.map_map];rfl
theorem nd_W {w:Mt→Int} {u:List Mt} (nd:(u.map (·.1)).Nodup):((enW w u).map (·.1)).Nodup:=by
 rw [keysW,List.Nodup,List.pairwise_map]
 exact List.Pairwise.imp (fun {a b} n z=>n (Sum.inr.inj z)) nd
theorem xV {w:Mt→Int} {u:List Mt} (nd:(u.map (·.1)).Nodup) (hz:u.length≤1000):jU [.list (u.map (prW w))]=some (dW w u):=a3w (sP w u) (nd_W nd) (by rw [List.length_map];exact hz)
theorem zU {w w':Mt→Int} {s:List Mt} {fe:EF} {cap:List (Option Nat)} {ρ:List Ent} (ρx:Mt→List Ent) (hD:ρ[2]?=some (.val (dW w s))) (hz:s.length≤1000) (h1:∀ m∈s,tgD (.nm 0) (bK cap (eX 2 ρ)) (.str m.1)=some (ρx m)) (h2:∀ m∈s,fe (ρx m)=some (.ok (prW w' m))) :
  rH 2 (.nm 0) cap ttT fe ρ=some (.ok (.list (s.map (prW w')))):=by
 unfold rH
 rw [hD]
 have hk:(((enW w s).map fun p=>(cE p.1,p.2)).map (·.1))=s.map fun m=>PyData.str m.1:=by rw [List.map_map,List.map_map];rfl
 have hv:((((enW w s).map fun p=>(cE p.1,p.2)).map (·.2)).all kA)=true:=by
  rw [List.map_map,List.map_map,List.all_map,List.all_eq_true]
  intro m _;rfl
 show (if ((((enW w s).map fun p=>(cE p.1,p.2)).map (·.2)).all kA&&dB ((enW w s).map fun p=>(cE p.1,p.2)).length)=true then (match kJ (.nm 0) (bK cap (eX 2 ρ)) ttT fe (((enW w s).map fun p=>(cE p.1,p.2)).map (·.1)) with
  | some es=>if es.all a4o=true then some (Re.ok (PyData.list es)) else none
  | none=>none) else none)=_
 rw [if_pos (by rw [hv,Bool.true_and];unfold dB;exact decide_eq_true (by rw [List.length_map,List.length_map];omega)),hk]
 have:=lT (t:=.nm 0) (ρb:=bK cap (eX 2 ρ)) (ft:=ttT) (fe:=fe) (fun m:Mt=>PyData.str m.1) ρx (fun _=>true) (prW w') s h1 (fun _ _=>rfl) (fun m hm _=>h2 m hm)
 rw [this,filter_all (fun _ _=>rfl)]
 dsimp only
 rw [if_pos (by rw [List.all_map,List.all_eq_true];intro m _;rfl)]
theorem yV {c:Mt}:∀ {s:List Mt},c∈s→(s.map (·.1)).Nodup→s.filter (fun m=>decide (m.1=c.1))=[c]
 | [],h,_=>nomatch h
 | x::s,h,nd=>by
  rw [List.map_cons,List.nodup_cons] at nd
  by_cases e:x.1=c.1
  ·have hx:x=c:=by
    rcases List.mem_cons.mp h with z | z
    ·exact z.symm
    ·exact absurd (e▸List.mem_map_of_mem z) nd.1
   subst hx
   rw [List.filter_cons_of_pos (by simp)]
   congr 1
   refine List.filter_eq_nil_iff.mpr fun m hm z=>nd.1 ?_
   rw [←of_decide_eq_true z];exact List.mem_map_of_mem hm
  ·rw [List.filter_cons_of_neg (by simpa using e)]
   rcases List.mem_cons.mp h with z | z
   ·exact absurd (by rw [z]) e
   ·exact yV z nd.2
theorem a2Q:∀ {s:List Mt},s.Nodup→∀ (k:Nat) (hk:k<s.length),s.idxOf (s[k]'hk)=k
 | [],_,k,hk=>by simp at hk
 | x::s,nd,0,_=>by simp
 | x::s,nd,k+1,hk=>by
  rw [List.nodup_cons] at nd
  have hk':k<s.length:=by simpa using hk
  have ne:x≠s[k]:=fun z=>nd.1 (z▸List.getElem_mem hk')
  have ih:=a2Q nd.2 k hk'
  rw [List.getElem_cons_succ,List.idxOf_cons,show (x==s[k])=false from beq_eq_false_iff_ne.mpr ne,ih];rfl
noncomputable def wOf (ns:List Int) (s:List Mt) (m:Mt):Int:=pickOf ns (100+(s.idxOf m:Nat)) 13 - 3
theorem k1_is {ns:List Int} {s:List Mt} (nd:s.Nodup) (hz:s.length≤1000) (a b c d e:Ent):a2N [.val (dN ns),.val (dS s),a,b,c,d,e]=some (.ok (.list (s.map (prW (wOf ns s))))):=by
 have hr:(List.range s.length).map (fun k=>prW (wOf ns s) (s.getD k dflt))=s.map (prW (wOf ns s)):=by
  refine List.ext_getElem (by simp) fun i h1 h2=>?_
  have:i<s.length:=by simpa using h2
  simp [List.getD_eq_getElem?_getD,this]
 rw [←hr]
 refine dQ (fun k:Nat=>.tuple [.int (k:Int),dM (s.getD k dflt)]) (fun k=>[.val (.int (k:Int)),.val (dM (s.getD k dflt)),.val (dN ns)]) (fun k=>prW (wOf ns s) (s.getD k dflt)) (List.range s.length) ?_ (by rw [List.length_range];omega) (fun k _=>rfl) (fun k hk=>?_)
 ·show some (Re.ok (pD (s.map dM)))=_
  rw [a5u]
 ·have hk':k<s.length:=List.mem_range.mp hk
  have hw:wOf ns s (s.getD k dflt)=pickOf ns (100+(k:Int)) 13 - 3:=by
   have:s.getD k dflt=s[k]:=by simp [List.getD_eq_getElem?_getD,hk']
   unfold wOf
   rw [this,a2Q nd k hk']
  show iS _ _=_
  refine kG rfl ?_
  rw [dE,bZ (ds:=[dN ns,.int (100+(k:Int)),.int 13]) rfl (lZ ns (100+(k:Int)) 13 (by omega) (by decide)),hw];rfl
theorem put_zz {w:Mt→Int} {s:List Mt} (h:("zz" : Str)∉s.map (·.1)):qM (enW w s) (.inr "zz") (.int 1)=enW w s++[(.inr "zz", .int 1)]:=by
 unfold qM
 rw [if_neg]
 rw [List.any_map]
 intro z
 obtain ⟨m,hm,e⟩:=List.any_eq_true.mp z
 have e:(Sum.inr m.1:Key)=Sum.inr ("zz" : Str):=by simpa using e
 exact h (by rw [←Sum.inr.inj e];exact List.mem_map_of_mem hm)
theorem zF (w:Mt→Int):∀ s:List Mt,jR ((enW w s).map fun p=>(cE p.1,p.2))=some (enW w s)
 | []=>rfl
 | m::s=>by
  have ih:=zF w s
  show jR ((PyData.str m.1,PyData.int (w m))::(enW w s).map fun p=>(cE p.1,p.2))=_
  unfold jR
  rw [ih];rfl
theorem a2a {C:List Mt} (h:C.Pairwise bef) (k:Nat) (hk:k+1<C.length):¬(C.getD k dflt).2.2 > (C.getD (k+1) dflt).2.1:=by
 have:=List.pairwise_iff_getElem.mp h k (k+1) (by omega) hk (by omega)
 have e1:C.getD k dflt=C[k]:=by simp [List.getD_eq_getElem?_getD,show k<C.length by omega]
 have e2:C.getD (k+1) dflt=C[k+1]:=by simp [List.getD_eq_getElem?_getD,hk]
 rw [e1,e2]
 unfold bef at this
 omega
theorem at_L {C:List Mt} {k:Nat} (hk:k<C.length):atI (C.map dM) (k:Int)=some (dM (C.getD k dflt)):=by
 exact a5R (by simp [List.getD_eq_getElem?_getD,hk])
theorem a2g:∀ {C s:List Mt},C.Nodup→(∀ m∈C,m∈s)→C.length≤s.length
 | [],_,_,_=>Nat.zero_le _
 | x::C,s,nd,h=>by
  rw [List.nodup_cons] at nd
  have hx:=h x (by simp)
  have ih:=a2g (s:=s.erase x) nd.2 fun m hm=>(List.mem_erase_of_ne (fun (z:m=x)=>nd.1 (by rw [←z];exact hm))).mpr (h m (List.mem_cons_of_mem _ hm))
  rw [List.length_erase_of_mem hx] at ih
  have:=List.length_pos_of_mem hx
  rw [List.length_cons];omega
theorem a5E (a:PyData) (r:List PyData):slD (.tuple (a::r)) (some 1) none=some (.tuple r):=by
 have e:HT.sIx (r.length+1) 0 (some 1)=1:=by unfold HT.sIx;simp
 have e2:HT.sIx (r.length+1) (r.length+1) none=r.length+1:=rfl
 simp only [slD,List.length_cons,e,e2,cutD]
 simp
theorem a1v {fa:EF} {ρ:List Ent} {x:PyData} {r:List PyData} (h:fa ρ=some (.ok (.tuple (x::r)))):slE fa (iO (cst (.int 1))) iP ρ=some (.ok (.tuple r)):=by
 unfold slE
 rw [h]
 show lft (slD (.tuple (x::r)) (some 1) none)=_
 rw [a5E];rfl
theorem a2j {i:Nat} {fa:EF} {ρ:List Ent} {D:List (PyData×PyData)} {kvs:List (Key×PyData)} (h:fa ρ=some (.ok (.dict D))) (hk:jR D=some kvs) (hz:kvs.length≤1000) (hn:noD i ρ=true):uS i fa ρ=some (.nx (ρ.set i (.dct kvs))):=by
 unfold uS
 rw [h]
 show (match jR D with | some kvs=>_ | none=>_)=_
 rw [hk]
 dsimp only
 rw [if_pos (by rw [hn,decide_eq_true hz];rfl)]
theorem a2i {i:Nat} {fa:AF} {ρ:List Ent} {xs:List PyData} {kvs:List (Key×PyData)} (h:fa ρ=some (.ok [.list xs])) (hk:dJ jQ xs=some kvs) (nd:(kvs.map (·.1)).Nodup) (hz:kvs.length≤1000) (hn:noD i ρ=true):yW i fa ρ=some (.nx (ρ.set i (.dct kvs))):=by
 unfold yW
 rw [h]
 show (match dJ jQ xs with | some kvs=>_ | none=>_)=_
 rw [hk]
 dsimp only
 rw [if_pos (by rw [hn,decide_eq_true hz,decide_eq_true nd];rfl)]
theorem a1J {i:Nat} {fk fv:EF} {ρ:List Ent} {k:Key} {kd d:PyData} {kvs:List (Key×PyData)} (hi:ρ[i]?=some (.dct kvs)) (hv:fv ρ=some (.ok d)) (hk:fk ρ=some (.ok kd)) (hd:pI kd=some k) (hz:dB kvs.length=true):uN i fk fv ρ=some (.nx (ρ.set i (.dct (qM kvs k d)))):=by
 unfold uN
 rw [hi]
 dsimp only
 rw [hv]
 show bns (fk ρ) ρ _=_
 rw [hk]
 show (match pI kd with | some k=>_ | none=>_)=_
 rw [hd]
 dsimp only
 rw [if_pos hz]
theorem a5p {i:Nat} {f:SF} {ρ:List Ent} {kvs:List (Key×PyData)} (hi:ρ[i]?=some (.dct kvs)):pU i f ρ=f (ρ.set i (.val (jA kvs))):=by
 unfold pU;rw [hi];rfl
theorem a2C {ns:List Int} {s:List Mt} (es:gZ [dN ns,.int 0,.int 8]=some (.ok (dS s))) (S:SheetOk s):F_law [dN ns]=some (.ok (.bool true)):=by
 have nd:=S.nodup
 have few:=S.few
 have hp:jK s:=fun m hm=>(S.times m hm).2.1
 have hso:=S.name_ok
 have nds:s.Nodup:=(List.pairwise_map.mp nd).imp fun h e=>h (by rw [e])
 have zz:("zz" : Str)∉s.map (·.1):=by rw [S.names];intro z;exact absurd (List.mem_of_mem_take z) (by decide)
 have k1:=k1_is (ns:=ns) nds (by omega) .no .no .no .no .no
 generalize hw:wOf ns s=w at k1
 clear hw
 have ew:=e_w (w:=w) nd (by omega)
 obtain ⟨c1,c2,c3⟩:=hZ w hp
 have eb:lG [.list (s.map dM),dW w s]=some (.ok (.int (wb w s).1)):=by
  rw [←bF_wb w (n:=11) (by omega) hp]
  exact tP nd 11 s (by omega) (by omega) (fun m hm=>hm) hso
 have wt:=fun t (h:∀ m∈t,m∈s)=>wb_sub w hp h
 generalize hC:wb w s=B at ew c1 c2 c3 eb wt
 obtain ⟨v,C⟩:=B
 dsimp only at c1 c2 c3 eb wt
 have lC:C.length≤10:=by
  have:C.Nodup:=uT (gX c1) fun m hm=>hp m (c2 m hm).1
  have:=a2g this fun m hm=>(c2 m hm).1
  omega
 have inC:∀ m∈C,m∈s:=fun m hm=>(c2 m hm).1
 have two:=wb_two w hp
 rw [hC] at two
 have hN:(C.map (·.1)).map PyData.str=C.map fun m=>PyData.str m.1:=by rw [List.map_map];rfl
 have ew:aN [dS s,dW w s]=some (.ok (.tuple [.int v,.list (C.map fun m=>PyData.str m.1)])):=by rw [ew];unfold dCh;rw [←hN]
 refine cI rfl ?_
 show a3e [.val (dN ns),.no,.no,.no,.no,.no,.no]=_
 unfold a3e
 rw [aL (ρ':=[.val (dN ns),.val (dS s),.no,.no,.no,.no,.no]) (by rw [lM,bZ (ds:=[dN ns,.int 0,.int 8]) rfl es];rfl)]
 rw [aL (ρ':=[.val (dN ns),.val (dS s),.val (dW w s),.no,.no,.no,.no]) (by
  rw [lM,mF (ds:=[.list (s.map (prW w))]) (by rw [bC,k1];rfl) (xV nd (by omega))];rfl)]
 rw [aL (ρ':=[.val (dN ns),.val (dS s),.val (dW w s),.val (.int v),.val (.list (C.map fun m=>PyData.str m.1)),.no,.no]) (by
  show bns (kZ aN _ _) _ _=_
  rw [jJ (ds:=[dS s,dW w s]) rfl ew];rfl)]
 have k2:a2M [.val (dN ns),.val (dS s),.val (dW w s),.val (.int v),.val (.list (C.map fun m=>PyData.str m.1)),.no,.no]=some (.ok (.list ((C.map w).map .int))):=by
  have:=dQ (t:=.nm 0) (cap:=[none,some 2]) (fi:=iW (var 4)) (fe:=op2 iH (var 1) (var 0)) (ρ:=[.val (dN ns),.val (dS s),.val (dW w s),.val (.int v),.val (.list (C.map fun m=>PyData.str m.1)),.no,.no]) (fun m:Mt=>PyData.str m.1) (fun m=>[.val (.str m.1),.val (dW w s)]) (fun m=>.int (w m)) C rfl (by omega) (fun m _=>rfl) (fun m hm=>by
   show lft (iH (dW w s) (.str m.1))=_
   rw [vJ w nd (inC m hm)];rfl)
  rw [show (C.map w).map PyData.int=C.map fun m=>PyData.int (w m) by rw [List.map_map];rfl];exact this
 rw [aL (ρ':=[.val (dN ns),.val (dS s),.val (dW w s),.val (.int v),.val (.list (C.map fun m=>PyData.str m.1)),.no,.no]) (by
  have t1:a1B [.val (dN ns),.val (dS s),.val (dW w s),.val (.int v),.val (.list (C.map fun m=>PyData.str m.1)),.no,.no]=some (.ok false):=by
   refine or_ff (qO (x:=.int v) (y:=.int v) rfl (bZ (ds:=[.list (s.map dM),dW w s]) rfl eb) (by rw [yX,decide_eq_true rfl];rfl)) (qO (x:=.int (C.map w).sum) (y:=.int v) (mF (ds:=[.list ((C.map w).map .int)]) (by rw [bC,k2];rfl) (sum_l _)) rfl ?_)
   rw [yX,decide_eq_true (show (C.map w).sum=v from c3.symm)];rfl
  rw [gP,t1];rfl)]
 have k4:a2K [.val (dN ns),.val (dS s),.val (dW w s),.val (.int v),.val (.list (C.map fun m=>PyData.str m.1)),.no,.no]=some (.ok (.list (C.map dM))):=by
  refine dQ (fun m:Mt=>PyData.str m.1) (fun m=>[.val (.str m.1),.val (dS s)]) dM C rfl (by omega) (fun m _=>rfl) (fun m hm=>?_)
  have k3:a2L [.val (.str m.1),.val (dS s)]=some (.ok (.list [dM m])):=by
   have:=gT (t:=.nm 0) (cap:=[none,some 0]) (fi:=iW (var 1)) (ft:=eQ eqD (op2 ixD (var 0) (cst (.int 0))) (var 1)) (fe:=var 0) (ρ:=[.val (.str m.1),.val (dS s)]) dM (fun y=>[.val (dM y),.val (.str m.1)]) (fun y=>decide (y.1=m.1)) dM s rfl (by omega) (fun y _=>rfl) (fun y _=>rfl) (fun y _ _=>rfl)
   rw [yV (inC m hm) nd] at this
   exact this
  rw [dE,k3];rfl
 rw [aL (ρ':=[.val (dN ns),.val (dS s),.val (dW w s),.val (.int v),.val (.list (C.map fun m=>PyData.str m.1)),.val (.list (C.map dM)),.no]) (by rw [lM,k4];rfl)]
 have k5:a2J [.val (dN ns),.val (dS s),.val (dW w s),.val (.int v),.val (.list (C.map fun m=>PyData.str m.1)),.val (.list (C.map dM)),.no]=some (.ok (.list [])):=by
  have hl:op2 sG (fF oQ (aC (var 5) aJ)) (cst (.int 1)) [.val (dN ns),.val (dS s),.val (dW w s),.val (.int v),.val (.list (C.map fun m=>PyData.str m.1)),.val (.list (C.map dM)),.no]=some (.ok (.int ((C.length:Int) - 1))):=by
   show lft (sG (.int ((C.map dM).length:Nat)) (.int 1))=_
   rw [List.length_map];rfl
  have hr:sL (op2 sG (fF oQ (aC (var 5) aJ)) (cst (.int 1))) [.val (dN ns),.val (dS s),.val (dW w s),.val (.int v),.val (.list (C.map fun m=>PyData.str m.1)),.val (.list (C.map dM)),.no]=some (.ok ((List.range ((C.length:Int) - 1).toNat).map fun (k:Nat)=>PyData.int (0+(k:Int)))):=yO hl (by omega) (by omega)
  have:=gT (t:=.nm 0) (cap:=[none,some 5]) (fi:=sL (op2 sG (fF oQ (aC (var 5) aJ)) (cst (.int 1)))) (ft:=eQ gtD (op2 ixD (op2 ixD (var 1) (var 0)) (cst (.int 2))) (op2 ixD (op2 ixD (var 1) (op2 bX (var 0) (cst (.int 1)))) (cst (.int 1)))) (fe:=var 0) (ρ:=[.val (dN ns),.val (dS s),.val (dW w s),.val (.int v),.val (.list (C.map fun m=>PyData.str m.1)),.val (.list (C.map dM)),.no]) (fun k:Nat=>PyData.int (0+(k:Int))) (fun k=>[.val (.int (0+(k:Int))),.val (.list (C.map dM))]) (fun _=>false) (fun k=>PyData.int (0+(k:Int))) (List.range ((C.length:Int) - 1).toNat) hr (by rw [List.length_range];omega) (fun k _=>rfl) (fun k hk=>by
   have hk:=List.mem_range.mp hk
   have e1:op2 ixD (op2 ixD (var 1) (var 0)) (cst (.int 2)) [.val (.int (0+(k:Int))),.val (.list (C.map dM))]=some (.ok (.int (C.getD k dflt).2.2)):=by
    rw [dE,dE]
    show bnd (lft (atI (C.map dM) (0+(k:Int)))) _=_
    rw [Int.zero_add,at_L (by omega)];rfl
   have e2:op2 ixD (op2 ixD (var 1) (op2 bX (var 0) (cst (.int 1)))) (cst (.int 1)) [.val (.int (0+(k:Int))),.val (.list (C.map dM))]=some (.ok (.int (C.getD (k+1) dflt).2.1)):=by
    rw [dE,dE]
    show bnd (lft (atI (C.map dM) (0+(k:Int)+1))) _=_
    rw [Int.zero_add,show (k:Int)+1=((k+1:Nat):Int) by omega,at_L (by omega)];rfl
   rw [xX,e1,dO,e2,dO]
   show lft (some (decide ((C.getD k dflt).2.2 > (C.getD (k+1) dflt).2.1)))=_
   rw [decide_eq_false (a2a c1 k (by omega))];rfl) (fun k _ z=>nomatch z)
  rw [List.filter_eq_nil_iff.mpr (by simp)] at this
  exact this
 rw [aL (ρ':=[.val (dN ns),.val (dS s),.val (dW w s),.val (.int v),.val (.list (C.map fun m=>PyData.str m.1)),.val (.list (C.map dM)),.no]) (by
  have t2:a1A [.val (dN ns),.val (dS s),.val (dW w s),.val (.int v),.val (.list (C.map fun m=>PyData.str m.1)),.val (.list (C.map dM)),.no]=some (.ok false):=qO (x:=.list []) (y:=.list []) k5 rfl (by rw [ne_nil nZ];rfl)
  rw [gP,t2];rfl)]
 have k6:xJ [.val (dN ns),.val (dS s),.val (dW w s),.val (.int v),.val (.list (C.map fun m=>PyData.str m.1)),.val (.list (C.map dM)),.no]=some (.ok (.list (s.map (prW fun _=>1)))):=zU (w:=w) (fun m=>[.val (.str m.1)]) rfl (by omega) (fun m _=>rfl) (fun m _=>rfl)
 have k7:xI [.val (dN ns),.val (dS s),.val (dW w s),.val (.int v),.val (.list (C.map fun m=>PyData.str m.1)),.val (.list (C.map dM)),.no]=some (.ok (.list (s.map (prW fun m=>2*w m)))):=zU (w:=w) (fun m=>[.val (.str m.1),.val (dW w s)]) rfl (by omega) (fun m _=>rfl) (fun m hm=>by
  refine kG rfl ?_
  rw [dE,cst_e,dO]
  show bnd (lft (iH (dW w s) (.str m.1))) _=_
  rw [vJ w nd hm];rfl)
 rw [aL (ρ':=[.val (dN ns),.val (dS s),.val (dW w s),.val (.int v),.val (.list (C.map fun m=>PyData.str m.1)),.val (.list (C.map dM)),.no]) (by
  have t3:a1z [.val (dN ns),.val (dS s),.val (dW w s),.val (.int v),.val (.list (C.map fun m=>PyData.str m.1)),.val (.list (C.map dM)),.no]=some (.ok false):=by
   refine qO (x:=.int (nu s:Nat)) (y:=.int (nu s:Nat)) ?_ ?_ (by rw [yX,decide_eq_true rfl];rfl)
   ·rw [dE,jJ (ds:=[dS s,dW (fun _=>1) s]) (by rw [bC];show bnd (aC (fF jU (aC xJ aJ)) aJ [.val (dN ns),.val (dS s),.val (dW w s),.val (.int v),.val (.list (C.map fun m=>PyData.str m.1)),.val (.list (C.map dM)),.no]) _=_;rw [bC,mF (ds:=[.list (s.map (prW fun _=>1))]) (by rw [bC,k6];rfl) (xV nd (by omega))];rfl) (e_w nd (by omega)),dO]
    show lft (some (PyData.int (wb (fun _=>1) s).1))=_
    rw [wb_one hp];rfl
   ·rw [mF (ds:=[.list (((gr (cB s) none).map (·.1)).map .str)]) (by rw [bC,bZ (ds:=[dS s]) rfl (tO nd (by omega))];rfl) (len_l _),List.length_map,List.length_map];rfl
  rw [gP,t3];rfl)]
 rw [aL (ρ':=[.val (dN ns),.val (dS s),.val (dW w s),.val (.int v),.val (.list (C.map fun m=>PyData.str m.1)),.val (.list (C.map dM)),.no]) (by
  have t4:a1y [.val (dN ns),.val (dS s),.val (dW w s),.val (.int v),.val (.list (C.map fun m=>PyData.str m.1)),.val (.list (C.map dM)),.no]=some (.ok false):=by
   refine qO (x:=.int (2*v)) (y:=.int (2*v)) ?_ rfl (by rw [yX,decide_eq_true rfl];rfl)
   rw [dE,jJ (ds:=[dS s,dW (fun m=>2*w m) s]) (by rw [bC];show bnd (aC (fF jU (aC xI aJ)) aJ [.val (dN ns),.val (dS s),.val (dW w s),.val (.int v),.val (.list (C.map fun m=>PyData.str m.1)),.val (.list (C.map dM)),.no]) _=_;rw [bC,mF (ds:=[.list (s.map (prW fun m=>2*w m))]) (by rw [bC,k7];rfl) (xV nd (by omega))];rfl) (e_w nd (by omega)),dO]
   show lft (some (PyData.int (wb (fun m=>2*w m) s).1))=_
   rw [two];rfl
  rw [gP,t4];rfl)]
 rw [aL (ρ':=[.val (dN ns),.val (dS s),.val (dW w s),.val (.int v),.val (.list (C.map fun m=>PyData.str m.1)),.val (.list (C.map dM)),.dct (enW w s)]) (a2j (D:=(enW w s).map fun p=>(cE p.1,p.2)) rfl (zF w s) (by rw [List.length_map];omega) rfl)]
 rw [aL (ρ':=[.val (dN ns),.val (dS s),.val (dW w s),.val (.int v),.val (.list (C.map fun m=>PyData.str m.1)),.val (.list (C.map dM)),.dct (enW w s++[(.inr "zz", .int 1)])]) (by
  rw [a1J (k:=.inr "zz") (kd:=.str "zz") (d:=.int 1) (kvs:=enW w s) rfl rfl rfl rfl (by unfold dB;exact decide_eq_true (by rw [List.length_map];omega)),put_zz zz];rfl)]
 rw [aL (ρ':=[.val (dN ns),.val (dS s),.val (dW w s),.val (.int v),.val (.list (C.map fun m=>PyData.str m.1)),.val (.list (C.map dM)),.dct (enW w s++[(.inr "zz", .int 1)])]) (by
  have t5:a1x [.val (dN ns),.val (dS s),.val (dW w s),.val (.int v),.val (.list (C.map fun m=>PyData.str m.1)),.val (.list (C.map dM)),.dct (enW w s++[(.inr "zz", .int 1)])]=some (.ok false):=by
   refine a1t (qO (x:=.str "no meeting") (y:=.str "no meeting") (bZ (ds:=[dS s,jA (enW w s++[(.inr "zz", .int 1)])]) rfl (yI (e_wX (ks:=s.map (·.1)++[("zz" : Str)]) ?_ nd ?_ (by omega) ?_))) rfl rfl)
   ·rw [List.map_map,List.map_append,List.map_append,List.map_map,List.map_map];rfl
   ·rw [List.length_append,List.length_map];show s.length+1<64;omega
   ·rw [List.length_append,List.length_map];show s.length+1≠s.length;omega
  rw [gP,t5];rfl)]
 clear ew k1 k2 k4 k5 k6 k7 eb two es
 cases s with
 | nil=>exact mY (by rw [gP];rfl)
 | cons x r=>
  have zr:(x::r).length=r.length+1:=rfl
  rw [aL (ρ':=[.val (dN ns),.val (dS (x::r)),.val (dW w (x::r)),.val (.int v),.val (.list (C.map fun m=>PyData.str m.1)),.val (.list (C.map dM)),.dct (enW w (x::r)++[(.inr "zz", .int 1)])]) (by
   have t6:a1w [.val (dN ns),.val (dS (x::r)),.val (dW w (x::r)),.val (.int v),.val (.list (C.map fun m=>PyData.str m.1)),.val (.list (C.map dM)),.dct (enW w (x::r)++[(.inr "zz", .int 1)])]=some (.ok false):=by
    show lft (eqD (dS (x::r)) (.tuple []))=_
    rw [a0P (sh_dS hso) (by decide +kernel),tM];rfl
   rw [gP,t6];rfl)]
  rw [List.map_cons,List.nodup_cons] at nd
  have inr:∀ m∈r,m∈x::r:=fun m hm=>List.mem_cons_of_mem _ hm
  have k8:a2I [.val (dN ns),.val (dS (x::r)),.val (dW w (x::r)),.val (.int v),.val (.list (C.map fun m=>PyData.str m.1)),.val (.list (C.map dM)),.dct (enW w (x::r)++[(.inr "zz", .int 1)])]=some (.ok (.list (r.map (prW w)))):=by
   refine dQ dM (fun m=>[.val (dM m),.val (dW w (x::r))]) (prW w) r (mZ (a1v (x:=dM x) (r:=r.map dM) rfl) rfl) (by omega) (fun m _=>rfl) (fun m hm=>?_)
   refine kG rfl ?_
   show lft (iH (dW w (x::r)) (.str m.1))=_
   rw [vJ w (by rw [List.map_cons,List.nodup_cons];exact nd) (inr m hm)];rfl
  rw [aL (ρ':=[.val (dN ns),.val (dS (x::r)),.val (dW w (x::r)),.val (.int v),.val (.list (C.map fun m=>PyData.str m.1)),.val (.list (C.map dM)),.dct (enW w r)]) (a2i (xs:=r.map (prW w)) (kvs:=enW w r) (by rw [bC,k8];rfl) (sP w r) (nd_W nd.2) (by rw [List.length_map];omega) rfl)]
  rw [a5p (kvs:=enW w r) rfl,gC]
  have a1:xY leD (op2 ixD (kZ aN (aC (slE (var 1) (iO (cst (.int 1))) iP) (aC (var 6) aJ))) (cst (.int 0))) (var 3) [.val (dN ns),.val (dS (x::r)),.val (dW w (x::r)),.val (.int v),.val (.list (C.map fun m=>PyData.str m.1)),.val (.list (C.map dM)),.val (jA (enW w r))]=some (.ok (.bool true)):=by
   rw [a3D,dE,jJ (ds:=[dS r,dW w r]) (by rw [bC,a1v (x:=dM x) (r:=r.map dM) rfl];rfl) (e_w nd.2 (by omega))]
   show lft (some (PyData.bool (decide ((wb w r).1≤v))))=_
   rw [decide_eq_true (wt r inr)];rfl
  have a2:xY eqD (aZ gY (aC (var 1) (aC (var 6) aJ))) (cst (.str "no meeting")) [.val (dN ns),.val (dS (x::r)),.val (dW w (x::r)),.val (.int v),.val (.list (C.map fun m=>PyData.str m.1)),.val (.list (C.map dM)),.val (jA (enW w r))]=some (.ok (.bool true)):=by
   rw [a3D,bZ (ds:=[dS (x::r),dW w r]) rfl (yI (e_wX (ks:=r.map (·.1)) (a2E w r) (by rw [List.map_cons,List.nodup_cons];exact nd) (by rw [List.length_map];omega) (by omega) (by rw [List.length_map];omega)))];rfl
  show bns (a5T _ _ [.val (dN ns),.val (dS (x::r)),.val (dW w (x::r)),.val (.int v),.val (.list (C.map fun m=>PyData.str m.1)),.val (.list (C.map dM)),.val (jA (enW w r))]) _ _=_
  rw [andE_e,a1,dO,a5N,a2z,dO,if_pos rfl,a2];rfl
theorem e_law (ns:List Int) (hl:ns.length≤63):F_law [dN ns]=some (.ok (.bool true)):=
 a2C (a5v ns 0 8 (by decide) (by decide) (by decide)) (a1E ns 0 (by decide) (by decide))
end L2.L3
namespace L2.L3
theorem a0E {α:Type} {l:List α} (h:l.length=1):∃ a,l=[a]:=by
 cases l with
 | nil=>cases h
 | cons a l=>cases l with
  | nil=>exact ⟨a,rfl⟩
  | cons b l=>simp at h
theorem lenS {α:Type} {l:List α} {n:Nat} (h:l.length=n+1):∃ a r,l=a::r∧r.length=n:=by
 cases l with
 | nil=>cases h
 | cons a r=>exact ⟨a,r,rfl,by simpa using h⟩
theorem xF {α:Type} {l:List α} (h:l.length=2):∃ a b,l=[a,b]:=by
 obtain ⟨a,r,rfl,k⟩:=lenS h;obtain ⟨b,rfl⟩:=a0E k;exact ⟨a,b,rfl⟩
theorem len3 {α:Type} {l:List α} (h:l.length=3):∃ a b c,l=[a,b,c]:=by
 obtain ⟨a,r,rfl,k⟩:=lenS h;obtain ⟨b,c,rfl⟩:=xF k;exact ⟨a,b,c,rfl⟩
end L2.L3
namespace L2.L3
open PySem PySem.Spec PyProof.Rows
section
variable {X:Cx} {e b:Expr} {es:List Expr} {pos p p0 p1 lp sp:Pos} {x y:Str} {k k':Nat} {ps ps':List Str} {F F':List PyData→Mm PyData} {fa:AF} {fb:EF}
end
end L2.L3
namespace HT
open PySem PySem.Spec PyProof.Rows
section
variable {prog:Program} {w:World} {A:Around} {E:Value→Shared→Prop} {s:Shared}
end
end HT
namespace L2
open PySem PySem.Spec PyProof.Rows
end L2
namespace L2.L3
open PySem PySem.Spec PyProof.Rows
section
variable {X:Cx} {a:Expr} {lo hi:Option Expr} {fa:EF} {fl fh:OF} {pos p2:Pos}
end
noncomputable def top (i:Nat):Stmt:=PySem.Challenge.pw_daysheet_k52_whole_weightiest.main.body.getD i (.Pass ⟨0,0,0,0⟩)
structure Blt (mg:Str→Option Value):Prop where
 b_ValueError:mg "ValueError" = none
 b_dict:mg "dict" = none
 b_enumerate:mg "enumerate" = none
 b_isinstance:mg "isinstance" = none
 b_len:mg "len" = none
 b_list:mg "list" = none
 b_max:mg "max" = none
 b_min:mg "min" = none
 b_range:mg "range" = none
 b_set:mg "set" = none
 b_sorted:mg "sorted" = none
 b_sum:mg "sum" = none
 b_tuple:mg "tuple" = none
section
variable {P:Program} {w:World} {K:PySem.W.Frag} {mg:Str→Option Value} {base:Heap}
theorem fS {N P:List Str} {sc:Scope} (a:sc.kind=.function:=by rfl) (b:sc.isCoroutine=false:=by rfl) (c:sc.isGenerator=false:=by rfl) (d:N.Nodup:=by decide +kernel) (e:N.take P.length=P:=by rfl) (f:∀ x∈P,sc.names.lookup x=some .local∨sc.names.lookup x=some .cell:=by decide +kernel) (g:∀ y∈sc.names,y.2≠.free:=by decide +kernel):FnScope N P sc:=⟨a,b,c,d,e,f,g⟩
theorem hM {k j:Nat} {A:Around} (r:Room k A) (h:j≤k:=by decide):Room j A:=r.mono h
noncomputable abbrev oF:Stmt:=top 16
noncomputable abbrev a2q:List Str:=["_law_script", "_law_k"]
theorem a0r:FnScope a2q ["_law_script", "_law_k"] (aE oF):=fS
theorem a3J (D:Def K mg "_law_cell" oF) (B:Blt mg) (XF:ExF K)  : aO P w K mg base "_law_cell" 1 ["_law_script", "_law_k"] lF:=by
 refine cH 2 2 D a0r rfl rfl (fun _ _ _ _ _ _ us hl=>by obtain ⟨_,_,rfl⟩:=xF hl;rfl) (fun fa cdv A outer s H E hr=>?_)
 exact (aK (fU (cJ lt_ok (aB 1) (eA tF B.b_len boot_len (aA (aB 0) aI))) (aU (bJ (bD (aB 0) (aB 1)))) dI) (aK (fU (cJ (vM hr.units) (aB 0) (gJ aI)) (aU (bJ aG)) dI) (aU (bJ (aQ bQ (aQ iF (bD (aB 0) (aQ sW (aB 1) (eA tF B.b_len boot_len (aA (aB 0) aI)))) aG) (aB 1))))))
noncomputable abbrev oD:Stmt:=top 17
noncomputable abbrev a2o:List Str:=["_law_script", "_law_k", "_law_many", "_law_drawn"]
theorem qK:FnScope a2o ["_law_script", "_law_k", "_law_many"] (aE oD):=fS
theorem a3H (D:Def K mg "_law_pick" oD) (B:Blt mg) (XF:ExF K) (C_l_cell:aO P w K mg base "_law_cell" 1 ["_law_script", "_law_k"] lF):aO P w K mg base "_law_pick" 2 ["_law_script", "_law_k", "_law_many"] bS:=by
 refine cH 4 3 D qK rfl rfl (fun _ _ _ _ _ _ us hl=>by obtain ⟨_,_,_,rfl⟩:=len3 hl;rfl) (fun fa cdv A outer s H E hr=>?_)
 exact (aK (eG 3 qK.nd (aQ sW (aQ iF (aQ bQ (bB C_l_cell (hM hr) (aA (aB 0) (aA (aB 1) aI))) (aQ iF aG (aQ bQ (aB 1) aG))) aG) aG)) (aU (bJ (aQ sW (aQ sW (aQ bQ (aQ iF (aB 3) (aB 3)) (aQ fdv_ok (aB 3) aG)) aG) (aB 2)))))
noncomputable abbrev lQ:Stmt:=top 18
noncomputable abbrev a0z:List Str:=["_law_script", "_law_at", "_law_most_here", "_law_span", "_law_names", "_law_made", "_law_k", "_law_begin", "_law_size"]
theorem cU:FnScope a0z ["_law_script", "_law_at", "_law_most_here"] (aE lQ):=fS
theorem a1b (D:Def K mg "_law_sheet" lQ) (B:Blt mg) (XF:ExF K) (C_l_pick:aO P w K mg base "_law_pick" 2 ["_law_script", "_law_k", "_law_many"] bS):aO P w K mg base "_law_sheet" 3 ["_law_script", "_law_at", "_law_most_here"] gZ:=by
 refine cH 9 3 D cU rfl rfl (fun _ _ _ _ _ _ us hl=>by obtain ⟨_,_,_,rfl⟩:=len3 hl;rfl) (fun fa cdv A outer s H E hr=>?_)
 exact (aK (eG 3 cU.nd (bD (gJ (aA aG (aA aG (aA aG (aA aG aI))))) (bB C_l_pick (hM hr) (aA (aB 0) (aA (aB 1) (aA aG aI)))))) (aK (eG 4 cU.nd (gJ (aA bW (aA bW (aA bW (aA bW (aA bW (aA bW (aA bW (aA bW (aA bW (aA bW aI)))))))))))) (aK (tQ 5 cU.nd aI) (aK (xT PassesOwn.never rfl (zN B.b_range (bB C_l_pick (hM hr) (aA (aB 0) (aA (aQ bQ (aB 1) aG) (aA (aQ bQ (aB 2) aG) aI))))) (dH 6 cU.nd) (aK (eG 7 cU.nd (bB C_l_pick (hM hr) (aA (aB 0) (aA (aQ bQ (aQ bQ (aB 1) aG) (aQ iF aG (aB 6))) (aA (aB 3) aI))))) (aK (eG 8 cU.nd (aQ bQ aG (bB C_l_pick (hM hr) (aA (aB 0) (aA (aQ bQ (aQ bQ (aB 1) aG) (aQ iF aG (aB 6))) (aA (bD (gJ (aA aG (aA aG (aA (aB 3) aI)))) (bB C_l_pick (hM hr) (aA (aB 0) (aA (aQ bQ (aQ bQ (aB 1) aG) (aQ iF aG (aB 6))) (aA aG aI))))) aI)))))) (aU (xU 5 (gH (aA (bD (aB 4) (aB 6)) (aA (aB 7) (aA (aQ bQ (aB 7) (aB 8)) aI))))))))) (pH 5 (aU (bJ (jI tup_ok B.b_tuple boot_tuple (aA (aB 5) aI)))))))))
noncomputable abbrev dC:Stmt:=top 11
theorem jX:FnScope ["sheet"] ["sheet"] (aE dC):=fS
theorem lA {c T:Addr} (D:Def K mg "in_ending_order" dC) (B:Blt mg) (kb:K.In base) (nb:base.Ns mainGlobals mg) (M:BM mg base) (ht:PySem.W.tabIn K "in_ending_order" = some (c,T)) (hC:PySem.W.codeHdIn K c T=true) (XF:ExF K)  : aO P w K mg base "in_ending_order" 5 ["sheet"] bH:=by
 refine mR 1 1 D jX rfl rfl kb nb ht (fun _ _ _ _ _ _ us hl=>by obtain ⟨_,rfl⟩:=a0E hl;rfl) (fun fa A outer s H E hr=>?_)
 exact (aU (bJ (a3A (k:=1) (y := "meeting") (by unfold cN;simp) ht rfl rfl hC M (hM hr) B.b_sorted (aB 0) (by exact fS) (fun f c A outer s H hr=>(gH (aA (bD (aB 0) aG) (aA (bD (aB 0) aG) (aA (bD (aB 0) aG) aI))))))))
noncomputable abbrev gB:Stmt:=top 13
theorem oA:FnScope ["choices"] ["choices"] (aE gB):=fS
theorem pX {c T:Addr} (D:Def K mg "best_choice" gB) (B:Blt mg) (kb:K.In base) (nb:base.Ns mainGlobals mg) (M:BM mg base) (ht:PySem.W.tabIn K "best_choice" = some (c,T)) (hC:PySem.W.codeHdIn K c T=true) (XF:ExF K)  : aO P w K mg base "best_choice" 5 ["choices"] cA:=by
 refine mR 1 1 D oA rfl rfl kb nb ht (fun _ _ _ _ _ _ us hl=>by obtain ⟨_,rfl⟩:=a0E hl;rfl) (fun fa A outer s H E hr=>?_)
 exact (aU (bJ (a5C (k:=1) (y := "choice") (by unfold cN;simp) ht rfl rfl hC M rfl (hM hr) B.b_max (aB 0) (gH (aA aG (aA (gJ aI) aI))) (by exact fS) (fun f c A outer s H hr=>(bD (aB 0) aG)))))
noncomputable abbrev iD:Stmt:=top 9
theorem uM:FnScope ["sheet"] ["sheet"] (aE iD):=fS
theorem yB (D:Def K mg "names_of" iD) (B:Blt mg) (XF:ExF K)  : aO P w K mg base "names_of" 1 ["sheet"] bM:=by
 refine cH 1 1 D uM rfl rfl (fun _ _ _ _ _ _ us hl=>by obtain ⟨_,rfl⟩:=a0E hl;rfl) (fun fa cdv A outer s H E hr=>?_)
 have nd1:(["meeting"]:List Str).Nodup:=by decide +kernel
 exact (aU (bJ (fW (N':=["meeting"]) (cap:=[none]) rfl (eI (so:=aE iD) (NN:=["sheet"]) rfl rfl (by decide +kernel)) (iJ (aB 0)) rfl (fun _ _ _ _=>dH 0 nd1) (fun _ _ _ _=>fT) (fun _ _ _ _=>(bD (aB 0) aG)))))
noncomputable abbrev cK:Stmt:=top 14
noncomputable abbrev gD:List Str:=["sheet", "worths", "by_last", "name", "begin", "end", "ahead"]
theorem bU:FnScope gD ["sheet", "worths"] (aE cK):=fS
theorem pW (D:Def K mg "weightiest" cK) (B:Blt mg) (XF:ExF K) (C_names_of:aO P w K mg base "names_of" 1 ["sheet"] bM) (C_in_ending_order:aO P w K mg base "in_ending_order" 5 ["sheet"] bH) (C_best_choice:aO P w K mg base "best_choice" 5 ["choices"] cA):CalleeX P w K mg base "weightiest" 6 ["sheet", "worths"] aN:=by
 refine wA 7 2 D bU rfl rfl (fun _ _ _ _ _ _ us hl=>by obtain ⟨_,_,rfl⟩:=xF hl;rfl) (fun fa cdv A outer s H E hr=>?_)
 have nd1:(["last", "choice", "begin"]:List Str).Nodup:=by decide +kernel
 have nd2:(["last", "choice"]:List Str).Nodup:=by decide +kernel
 exact (aK (fU (a3o rfl hr.units B.b_set (aB 1) (bB C_names_of (hM hr) (aA (aB 0) aI))) (aU (a0R XF rfl)) dI) (aK (tQ 2 bU.nd aI) (aK (ds_nox (xT PassesOwn.never rfl (iJ (bB C_in_ending_order (hM hr) (aA (aB 0) aI))) (pF rfl (cG 3 bU.nd (cG 4 bU.nd (cG 5 bU.nd kT)))) (aU (fU (cJ gt_ok (mB (aB 1) (aB 3)) aG) (aK (eG 6 bU.nd (bB C_best_choice (hM hr) (aA (a3C 2 (N':=["last", "choice", "begin"]) (cap:=[none,none,some 4]) rfl (eI (so:=aE cK) (NN:=gD) rfl rfl (by decide +kernel))  rfl (fun _ _ _ _=>(pF rfl (cG 0 nd1 (cG 1 nd1 kT)))) (fun _ _ _ _=>(nE (cJ a2B (aB 0) (aB 2)))) (fun _ _ _ _=>aB 1)) aI))) (aU (xU 2 (gH (aA (aB 5) (aA (gH (aA (aQ bQ (bD (aB 6) aG) (mB (aB 1) (aB 3))) (aA (aQ bQ (bD (aB 6) aG) (gJ (aA (aB 3) aI))) aI))) aI)))))) dI)))) (pH 2 (aU (bJ (bB C_best_choice (hM hr) (aA (fW (N':=["last", "choice"]) (cap:=[none,none]) rfl (eI (so:=aE cK) (NN:=gD) rfl rfl (by decide +kernel)) (iJ (aB 2)) rfl (fun _ _ _ _=>(pF rfl (cG 0 nd2 (cG 1 nd2 kT)))) (fun _ _ _ _=>fT) (fun _ _ _ _=>aB 1)) aI))))))))
noncomputable abbrev oB:Stmt:=top 22
noncomputable abbrev a2m:List Str:=["_law_kept", "_law_kinds"]
theorem qJ:FnScope a2m ["_law_kept"] (aE oB):=fS
theorem a3F (D:Def K mg "_law_word" oB) (B:Blt mg) (XF:ExF K)  : CalleeE P w K mg base "_law_word" 1 ["_law_kept"] jL:=by
 refine wB 2 D qJ rfl rfl (fun _ _ _ _ _ _ us hl=>by obtain ⟨_,rfl⟩:=a0E hl;rfl) (fun fa cdv A outer s H E hr=>?_)
 exact (aK (tQ 1 qJ.nd (aA (mC 0 XF B.b_isinstance) (aA (mC 0 XF B.b_isinstance) (aA (mC 0 XF B.b_isinstance) (aA (mC 0 XF B.b_isinstance) aI))))) (aK (a5B 1 (gJ (aA (mC 0 XF B.b_isinstance) (aA (mC 0 XF B.b_isinstance) aI)))) (aK (fU (a3n (DW.dt (a3m (cJ (oO hr.units) (a3B (aB 1) fX) aG) (xQ (xS (xR (a5D 0 XF B.b_isinstance B.b_ValueError))))))) (aU (bJ bW)) dI) (pH 1 (aU (bJ (bD (gJ (aA bW (aA bW (aA bW (aA bW (aA bW (aA bW aI))))))) (a0S (aB 1) fX))))))))
noncomputable abbrev oC:Stmt:=top 23
noncomputable abbrev a2n:List Str:=["_law_sheet_here", "_law_worths", "_law_kept", "_law_answer", "e"]
theorem gN:FnScope a2n ["_law_sheet_here", "_law_worths"] (aE oC):=fS
theorem a3G (D:Def K mg "_law_told" oC) (B:Blt mg) (XF:ExF K) (C_weightiestX:CalleeX P w K mg base "weightiest" 6 ["sheet", "worths"] aN) (C_l_word:CalleeE P w K mg base "_law_word" 1 ["_law_kept"] jL):aO P w K mg base "_law_told" 7 ["_law_sheet_here", "_law_worths"] gY:=by
 refine cH 5 2 D gN rfl rfl (fun _ _ _ _ _ _ us hl=>by obtain ⟨_,_,rfl⟩:=xF hl;rfl) (fun fa cdv A outer s H E hr=>?_)
 exact (aK (eG 2 gN.nd zS) (aK (eG 3 gN.nd zS) (aK (a5y 2 4 XF gN.nd rfl rfl (fun _ _=>(aU (eG 3 gN.nd (jH C_weightiestX (hM hr) (aA (aB 0) (aA (aB 1) aI))))))) (aK (fU (a5x 2) (aU (bJ (aB 3))) dI) (aU (bJ (a0T 2 C_l_word (hM hr))))))))
noncomputable abbrev oE:Stmt:=top 19
noncomputable abbrev a2p:List Str:=["_law_one", "_law_other"]
theorem a0q:FnScope a2p ["_law_one", "_law_other"] (aE oE):=fS
theorem a3I (D:Def K mg "_law_over" oE) (B:Blt mg) (XF:ExF K)  : aO P w K mg base "_law_over" 1 ["_law_one", "_law_other"] hV:=by
 refine cH 2 2 D a0q rfl rfl (fun _ _ _ _ _ _ us hl=>by obtain ⟨_,_,rfl⟩:=xF hl;rfl) (fun fa cdv A outer s H E hr=>?_)
 exact (aU (bJ (xW lt_ok (eA (a2t rfl) B.b_max boot_max (aA (bD (aB 0) aG) (aA (bD (aB 1) aG) aI))) (eA (min_ok rfl) B.b_min boot_min (aA (bD (aB 0) aG) (aA (bD (aB 1) aG) aI))))))
noncomputable abbrev iY:Stmt:=top 24
noncomputable abbrev uU:List Str:=["_law_rows", "_law_worths", "_law_left"]
theorem lO:FnScope uU ["_law_rows", "_law_worths"] (aE iY):=fS
theorem a1c {k:Nat} {S:List PyData→Mm PyData} (hk:2≤k) (D:Def K mg "_law_best" iY) (B:Blt mg) (XF:ExF K) (C_l_over:aO P w K mg base "_law_over" 1 ["_law_one", "_law_other"] hV) (CS:aO P w K mg base "_law_best" k ["_law_rows", "_law_worths"] S):aO P w K mg base "_law_best" (k+1) ["_law_rows", "_law_worths"] (dZ 3 2 (gQ S)):=by
 refine cH 3 2 D lO rfl rfl (fun _ _ _ _ _ _ us hl=>by obtain ⟨_,_,rfl⟩:=xF hl;rfl) (fun fa cdv A outer s H E hr=>?_)
 have nd1:(["_law_other", "_law_rows"]:List Str).Nodup:=by decide +kernel
 exact (aK (fU (cJ (vM hr.units) (aB 0) (gJ aI)) (aU (bJ aG)) dI) (aK (a5z 2 lO.nd (N':=["_law_other", "_law_rows"]) (cap:=[none,some 0]) rfl (eI (so:=aE iY) (NN:=uU) rfl rfl (by decide +kernel)) (iJ (zR (aB 0) (nF aG) nG)) rfl (fun _ _ _ _=>dH 0 nd1) (fun _ _ _ _=>(nE (xS (xR (bB C_l_over (hr.mono (Nat.le_trans (by decide) hk)) (aA (bD (aB 1) aG) (aA (aB 0) aI))))))) (fun _ _ _ _=>aB 0)) (aU (bJ (eA (a2t rfl) B.b_max boot_max (aA (aQ bQ (mB (aB 1) (bD (bD (aB 0) aG) aG)) (bB CS (hr.mono (Nat.le_refl _)) (aA (aB 2) (aA (aB 1) aI)))) (aA (bB CS (hr.mono (Nat.le_refl _)) (aA (zR (aB 0) (nF aG) nG) (aA (aB 1) aI))) aI)))))))
theorem a3K (D:Def K mg "_law_best" iY) (B:Blt mg) (XF:ExF K) (C_l_over:aO P w K mg base "_law_over" 1 ["_law_one", "_law_other"] hV):aO P w K mg base "_law_best" 14 ["_law_rows", "_law_worths"] lG:=by
 have:∀ n,aO P w K mg base "_law_best" (2+n) ["_law_rows", "_law_worths"] (fH n):=fun n=>by
  induction n with
  | zero=>exact vZ D lO (fun _ _ _ _ _ _ us hl=>by obtain ⟨_,_,rfl⟩:=xF hl;rfl)
  | succ n ih=>exact a1c (Nat.le_add_right _ _) D B XF C_l_over ih
 exact this 12
noncomputable abbrev iE:Stmt:=top 12
noncomputable abbrev sS:List Str:=["sheet", "chosen", "meeting"]
theorem gA:FnScope sS ["sheet"] (aE iE):=fS
theorem tV (D:Def K mg "most_apart" iE) (B:Blt mg) (XF:ExF K) (C_in_ending_order:aO P w K mg base "in_ending_order" 5 ["sheet"] bH) (C_names_of:aO P w K mg base "names_of" 1 ["sheet"] bM):aO P w K mg base "most_apart" 6 ["sheet"] eR:=by
 refine cH 3 1 D gA rfl rfl (fun _ _ _ _ _ _ us hl=>by obtain ⟨_,rfl⟩:=a0E hl;rfl) (fun fa cdv A outer s H E hr=>?_)
 exact (aK (tQ 1 gA.nd aI) (aK (xT PassesOwn.never rfl (iJ (bB C_in_ending_order (hM hr) (aA (aB 0) aI))) (dH 2 gA.nd) (aU (fU (a3n (DW.dt (a3m (xS (xR (aB 1))) (xQ (cJ a2B (bD (bD (aB 1) (de_neg aG)) aG) (bD (aB 2) aG)))))) (aU (xU 1 (aB 2))) dI))) (pH 1 (aU (bJ (bB C_names_of (hM hr) (aA (aB 1) aI)))))))
noncomputable abbrev eJ:Stmt:=top 25
noncomputable abbrev mI:List Str:=["_law_script", "_law_sheet_here", "_law_worths", "_law_most_here", "_law_names", "_law_rows", "_law_other"]
theorem iX:FnScope mI ["_law_script"] (aE eJ):=fS
theorem c_law {fa:Addr} {fd:FuncData} (Fu:Fun K "law" "law" eJ fa fd) (B:Blt mg) (XF:ExF K) (C_l_sheet:aO P w K mg base "_law_sheet" 3 ["_law_script", "_law_at", "_law_most_here"] gZ) (C_l_pick:aO P w K mg base "_law_pick" 2 ["_law_script", "_law_k", "_law_many"] bS) (C_weightiestX:CalleeX P w K mg base "weightiest" 6 ["sheet", "worths"] aN) (C_l_best:aO P w K mg base "_law_best" 14 ["_law_rows", "_law_worths"] lG) (C_most_apart:aO P w K mg base "most_apart" 6 ["sheet"] eR) (C_l_told:aO P w K mg base "_law_told" 7 ["_law_sheet_here", "_law_worths"] gY):FnOk P w K mg base CX0 15 fa fd ["_law_script"] (spD K fun ds d=>F_law ds=some (.ok d)):=by
 refine a3d 7 1 Fu iX rfl rfl (fun cdv A outer s H E hr=>?_)
 have nd1:(["_law_k", "_law_one", "_law_script"]:List Str).Nodup:=by decide +kernel
 have nd2:(["_law_name", "_law_worths"]:List Str).Nodup:=by decide +kernel
 have nd3:(["_law_name", "_law_sheet_here"]:List Str).Nodup:=by decide +kernel
 have nd4:(["_law_one", "_law_name"]:List Str).Nodup:=by decide +kernel
 have nd5:(["_law_k", "_law_rows"]:List Str).Nodup:=by decide +kernel
 have nd6:(["_law_name"]:List Str).Nodup:=by decide +kernel
 have nd7:(["_law_name", "_law_worths"]:List Str).Nodup:=by decide +kernel
 have nd8:(["_law_one", "_law_worths"]:List Str).Nodup:=by decide +kernel
 exact (aK (eG 1 iX.nd (bB C_l_sheet (hM hr) (aA (aB 0) (aA aG (aA aG aI))))) (aK (eG 2 iX.nd (jI (tR rfl) B.b_dict boot_dict (aA (fW (N':=["_law_k", "_law_one", "_law_script"]) (cap:=[none,none,some 0]) rfl (eI (so:=aE eJ) (NN:=mI) rfl rfl (by decide +kernel)) (a3x B.b_enumerate (aB 1)) rfl (fun _ _ _ _=>(pF rfl (cG 0 nd1 (cG 1 nd1 kT)))) (fun _ _ _ _=>fT) (fun _ _ _ _=>(gH (aA (bD (aB 1) aG) (aA (aQ a1C (bB C_l_pick (hM hr) (aA (aB 2) (aA (aQ bQ aG (aB 0)) (aA aG aI)))) aG) aI))))) aI))) (aK (ds_unp (jH C_weightiestX (hM hr) (aA (aB 1) (aA (aB 2) aI))) (pF rfl (cG 3 iX.nd (cG 4 iX.nd kT)))) (aK (fU (DW.dt (a3m (cJ (oO hr.units) (aB 3) (bB C_l_best (hM hr) (aA (jI lst_ok B.b_list boot_list (aA (aB 1) aI)) (aA (aB 2) aI)))) (xQ (cJ (oO hr.units) (eA (sum_ok rfl) B.b_sum boot_sum (aA (fW (N':=["_law_name", "_law_worths"]) (cap:=[none,some 2]) rfl (eI (so:=aE eJ) (NN:=mI) rfl rfl (by decide +kernel)) (iJ (aB 4)) rfl (fun _ _ _ _=>dH 0 nd2) (fun _ _ _ _=>fT) (fun _ _ _ _=>(mB (aB 1) (aB 0)))) aI)) (aB 3))))) (aU (bJ fX)) dI) (aK (eG 5 iX.nd (fW (N':=["_law_name", "_law_sheet_here"]) (cap:=[none,some 1]) rfl (eI (so:=aE eJ) (NN:=mI) rfl rfl (by decide +kernel)) (iJ (aB 4)) rfl (fun _ _ _ _=>dH 0 nd3) (fun _ _ _ _=>fT) (fun _ _ _ _=>(bD (fW (N':=["_law_one", "_law_name"]) (cap:=[none,some 0]) rfl (eI (NN:=["_law_name", "_law_sheet_here"]) rfl rfl (by kernel_rfl)) (iJ (aB 1)) rfl (fun _ _ _ _=>dH 0 nd4) (fun _ _ _ _=>(nE (cJ (vM hr.units) (bD (aB 0) aG) (aB 1)))) (fun _ _ _ _=>aB 0)) aG)))) (aK (fU (cJ (oO hr.units) (fW (N':=["_law_k", "_law_rows"]) (cap:=[none,some 5]) rfl (eI (so:=aE eJ) (NN:=mI) rfl rfl (by decide +kernel)) (zN B.b_range (aQ a1C (eA tF B.b_len boot_len (aA (aB 5) aI)) aG)) rfl (fun _ _ _ _=>dH 0 nd5) (fun _ _ _ _=>(nE (cJ gt_ok (bD (bD (aB 1) (aB 0)) aG) (bD (bD (aB 1) (aQ bQ (aB 0) aG)) aG)))) (fun _ _ _ _=>aB 0)) (gJ aI)) (aU (bJ fX)) dI) (aK (fU (cJ (oO hr.units) (bD (jH C_weightiestX (hM hr) (aA (aB 1) (aA (jI (tR rfl) B.b_dict boot_dict (aA (vQ 2 (N':=["_law_name"]) (cap:=[none]) rfl (eI (so:=aE eJ) (NN:=mI) rfl rfl (by decide +kernel))  rfl (fun _ _ _ _=>dH 0 nd6) (fun _ _ _ _=>fT) (fun _ _ _ _=>(gH (aA (aB 0) (aA aG aI))))) aI)) aI))) aG) (eA tF B.b_len boot_len (aA (bB C_most_apart (hM hr) (aA (aB 1) aI)) aI))) (aU (bJ fX)) dI) (aK (fU (cJ (oO hr.units) (bD (jH C_weightiestX (hM hr) (aA (aB 1) (aA (jI (tR rfl) B.b_dict boot_dict (aA (vQ 2 (N':=["_law_name", "_law_worths"]) (cap:=[none,some 2]) rfl (eI (so:=aE eJ) (NN:=mI) rfl rfl (by decide +kernel))  rfl (fun _ _ _ _=>dH 0 nd7) (fun _ _ _ _=>fT) (fun _ _ _ _=>(gH (aA (aB 0) (aA (aQ iF aG (mB (aB 1) (aB 0))) aI))))) aI)) aI))) aG) (aQ iF aG (aB 3))) (aU (bJ fX)) dI) (aK (a3r 6 iX.nd B.b_dict (aB 2)) (aK (a5A 6 hr.units aG bW) (aK (fU (a3n (cJ (oO hr.units) (bB C_l_told (hM hr) (aA (aB 1) (aA (aB 6) aI))) bW)) (aU (bJ fX)) dI) (aK (fU (cJ (vM hr.units) (aB 1) (gH aI)) (aU (bJ fX)) dI) (aK (a3q 6 rfl iX.nd B.b_dict (aA (fW (N':=["_law_one", "_law_worths"]) (cap:=[none,some 2]) rfl (eI (so:=aE eJ) (NN:=mI) rfl rfl (by decide +kernel)) (iJ (zR (aB 1) (nF aG) nG)) rfl (fun _ _ _ _=>dH 0 nd8) (fun _ _ _ _=>fT) (fun _ _ _ _=>(gH (aA (bD (aB 0) aG) (aA (mB (aB 1) (bD (aB 0) aG)) aI))))) aI)) (pH 6 (aU (bJ (de_and (xW a2B (bD (jH C_weightiestX (hM hr) (aA (zR (aB 1) (nF aG) nG) (aA (aB 6) aI))) aG) (aB 3)) (de_one (xW (vM hr.units) (bB C_l_told (hM hr) (aA (aB 1) (aA (aB 6) aI))) bW)))))))))))))))))))
end
theorem blt_mk {K:PySem.W.Frag} {h:Heap} {mg:Str→Option Value} (X:K.In h) (G:h.Ns mainGlobals mg) (z0:PySem.W.nsIn K mainGlobals "ValueError" = some none) (z1:PySem.W.nsIn K mainGlobals "dict" = some none) (z2:PySem.W.nsIn K mainGlobals "enumerate" = some none) (z3:PySem.W.nsIn K mainGlobals "isinstance" = some none) (z4:PySem.W.nsIn K mainGlobals "len" = some none) (z5:PySem.W.nsIn K mainGlobals "list" = some none) (z6:PySem.W.nsIn K mainGlobals "max" = some none) (z7:PySem.W.nsIn K mainGlobals "min" = some none) (z8:PySem.W.nsIn K mainGlobals "range" = some none) (z9:PySem.W.nsIn K mainGlobals "set" = some none) (z10:PySem.W.nsIn K mainGlobals "sorted" = some none) (z11:PySem.W.nsIn K mainGlobals "sum" = some none) (z12:PySem.W.nsIn K mainGlobals "tuple" = some none)  : Blt mg:=
 ⟨PySem.W.mg_none_of X G z0,PySem.W.mg_none_of X G z1,PySem.W.mg_none_of X G z2,PySem.W.mg_none_of X G z3,PySem.W.mg_none_of X G z4,PySem.W.mg_none_of X G z5,PySem.W.mg_none_of X G z6,PySem.W.mg_none_of X G z7,PySem.W.mg_none_of X G z8,PySem.W.mg_none_of X G z9,PySem.W.mg_none_of X G z10,PySem.W.mg_none_of X G z11,PySem.W.mg_none_of X G z12⟩
theorem law_mk {l:PySem.W.OpenLaw} {w:World} {K:PySem.W.Frag} {h:Heap} {mg:Str→Option Value} {fa f4:Addr} (X:K.In h) (G:h.Ns mainGlobals mg) (hfa:mg "law" = some (.ref fa)) {od4 an4:Option Addr} {sl4:Array (Option Value)} {oc4 kV4 dc4 pm4 cd4 ct4:Value}
  (B:Blt mg) (XF:ExF K) (D0:Def K mg "_law_cell" oF) (D1:Def K mg "_law_pick" oD) (D2:Def K mg "_law_sheet" lQ) (D3:Def K mg "in_ending_order" dC) (D4:Def K mg "best_choice" gB) (D5:Def K mg "names_of" iD) (D6:Def K mg "weightiest" cK) (D7:Def K mg "_law_word" oB) (D8:Def K mg "_law_told" oC) (D9:Def K mg "_law_over" oE) (D10:Def K mg "_law_best" iY) (D11:Def K mg "most_apart" iE) (tb0:PySem.W.tabIn K "in_ending_order" = some (110,106)) (hC0:PySem.W.codeHdIn K 110 106=true) (tb1:PySem.W.tabIn K "best_choice" = some (124,120)) (hC1:PySem.W.codeHdIn K 124 120=true)
  (a4:PySem.W.nsIn K mainGlobals "law" = some (some (.ref f4))) (l4:K.lookup f4=some ⟨oc4,od4,.func (PySem.W.fnOf "law" "law" (cR eJ) (bG eJ) (aE eJ) .none kV4 dc4 pm4 an4 cd4 ct4),sl4⟩) (c4:PySem.W.codeIn K cd4 "law" = true) (k4:PySem.W.keepIn K (.ref f4)=true) :
  ∃ fd:FuncData,(∀ (s:Shared) (v:Value),BindsTo s fd ⟨[v],[]⟩ [("_law_script", v)])∧∀ base:Heap,K.In base→base.Ns mainGlobals mg→BM mg base→FnOk l.prog w K mg base CX0 15 fa fd ["_law_script"] (spD K fun ds d=>F_law ds=some (.ok d)):=by
 have e:=hfa.symm.trans (PySem.W.mg_of X G a4)
 cases e
 refine ⟨PySem.W.fnOf "law" "law" (cR eJ) (bG eJ) (aE eJ) .none kV4 dc4 pm4 an4 cd4 ct4,fun s v=>.of_eq rfl,fun base kb nb M=>?_⟩
 have C_l_cell:=a3J (P:=l.prog) (w:=w) (base:=base) D0 B XF
 have C_l_pick:=a3H (P:=l.prog) (w:=w) (base:=base) D1 B XF C_l_cell
 have C_l_sheet:=a1b (P:=l.prog) (w:=w) (base:=base) D2 B XF C_l_pick
 have C_in_ending_order:=lA (P:=l.prog) (w:=w) (base:=base) D3 B kb nb M tb0 hC0 XF
 have C_best_choice:=pX (P:=l.prog) (w:=w) (base:=base) D4 B kb nb M tb1 hC1 XF
 have C_names_of:=yB (P:=l.prog) (w:=w) (base:=base) D5 B XF
 have C_weightiestX:=pW (P:=l.prog) (w:=w) (base:=base) D6 B XF C_names_of C_in_ending_order C_best_choice
 have C_l_word:=a3F (P:=l.prog) (w:=w) (base:=base) D7 B XF
 have C_l_told:=a3G (P:=l.prog) (w:=w) (base:=base) D8 B XF C_weightiestX C_l_word
 have C_l_over:=a3I (P:=l.prog) (w:=w) (base:=base) D9 B XF
 have C_l_best:=a3K (P:=l.prog) (w:=w) (base:=base) D10 B XF C_l_over
 have C_most_apart:=tV (P:=l.prog) (w:=w) (base:=base) D11 B XF C_in_ending_order C_names_of
 exact c_law (a2Z (st:=eJ) l4 c4 k4) B XF C_l_sheet C_l_pick C_weightiestX C_l_best C_most_apart C_l_told
end L2.L3
open PySem PySem.W PyProof.Rows
namespace PySem.W.Fast
theorem tw1976018144684538305:True:=⟨⟩
theorem tw216533324368874363:True:=⟨⟩
theorem tw10841704783443449662:True:=⟨⟩
theorem tw5468800746273935164:True:=⟨⟩
theorem tw11102226600019701008:True:=⟨⟩
theorem tw3854658360593579292:True:=⟨⟩
theorem tw5218981600869441702:True:=⟨⟩
theorem tw14522989906424412460:True:=⟨⟩
theorem tw707566448784179813:True:=⟨⟩
theorem tw6365165753051064018:True:=⟨⟩
theorem tw4179001524222615655:True:=⟨⟩
theorem tw5445357944940883029:True:=⟨⟩
theorem tw16965046465553372023:True:=⟨⟩
theorem tw11254008765017655735:True:=⟨⟩
theorem tw16332179306930775640:True:=⟨⟩
theorem tw1131729602904382677:True:=⟨⟩
theorem tw6980246346896447411:True:=⟨⟩
theorem tw6685782683665627209:True:=⟨⟩
theorem tw6690761698872230839:True:=⟨⟩
theorem tw11448137509681318193:True:=⟨⟩
theorem tw17607018514676508771:True:=⟨⟩
theorem tw2031269817839001490:True:=⟨⟩
theorem tw8775106180800402990:True:=⟨⟩
theorem tw18178808142423932245:True:=⟨⟩
theorem tw447540752079515308:True:=⟨⟩
theorem tw230783428323220788:True:=⟨⟩
theorem tw7270626433390970974:True:=⟨⟩
theorem tw4060986659766978711:True:=⟨⟩
theorem tw2052128630694683288:True:=⟨⟩
theorem tw11508204223194736388:True:=⟨⟩
theorem tw10069095820314055407:True:=⟨⟩
theorem tw2439963040969556082:True:=⟨⟩
theorem tw5912215601384561016:True:=⟨⟩
theorem tw17455747278999043714:True:=⟨⟩
theorem tw11647227259142600717:True:=⟨⟩
theorem tw3041186711830980082:True:=⟨⟩
end PySem.W.Fast
set_option maxRecDepth 100000 in
set_option maxHeartbeats 0 in
theorem PySem.Challenge.cw_daysheet_k52_whole_weightiest_holds : PySem.Challenge.rw_daysheet_k52_whole_weightiest.Holds := by
 w_on;o_law;k_head;(case hw=>w_witness2)
 k_fill
 refine L2.L3.walkL (l:=PySem.Challenge.rw_daysheet_k52_whole_weightiest) (k:=15) (F:=L2.L3.F_law) (x := "_law_script") [(120,L2.L3.lamQ "best_choice"),(106,L2.L3.lamQ "in_ending_order")] rfl rfl ⟨rfl,by decide,by decide⟩ (fun w h Y=>PySem.W.km_in_of Y) (fun w h Y=>PySem.W.km_tabs_of Y) ?cd ?ts ?F (fun ns hl=>L2.L3.e_law ns hl)
 case cd=>exact fun w=>L2.L3.all_cons ⟨⟨124,by kernel_rfl⟩,by kernel_rfl⟩ (L2.L3.all_cons ⟨⟨110,by kernel_rfl⟩,by kernel_rfl⟩ (fun _ h=>nomatch h))
 case ts=>exact fun w=>L2.L3.lam_all (by kernel_rfl)
 case F=>
  intro w mg fa h KX G hmg
  refine' L2.L3.law_mk KX G hmg ?B ?XF ?D0 ?D1 ?D2 ?D3 ?D4 ?D5 ?D6 ?D7 ?D8 ?D9 ?D10 ?D11 ?tb0 ?hC0 ?tb1 ?hC1 ?a4 ?l4 ?c4 ?k4
  (case XF=>exact ⟨by kernel_rfl⟩)
  (case tb0=>kernel_rfl);(case hC0=>kernel_rfl)
  (case tb1=>kernel_rfl);(case hC1=>kernel_rfl)
  (case a4=>k_is);(case l4=>k_is);(case c4=>k_is);(case k4=>k_is)
  (case B=>(refine' L2.L3.blt_mk KX G ?z0 ?z1 ?z2 ?z3 ?z4 ?z5 ?z6 ?z7 ?z8 ?z9 ?z10 ?z11 ?z12;(case z0=>k_is);(case z1=>k_is);(case z2=>k_is);(case z3=>k_is);(case z4=>k_is);(case z5=>k_is);(case z6=>k_is);(case z7=>k_is);(case z8=>k_is);(case z9=>k_is);(case z10=>k_is);(case z11=>k_is);(case z12=>k_is)))
  (case D0 | D1 | D2 | D3 | D4 | D5 | D6 | D7 | D8 | D9 | D10 | D11=>(refine' L2.L3.def_mk KX G ?a ?l ?c ?k;(case a=>k_is);(case l=>k_is);(case c=>k_is);(case k=>k_is)))

